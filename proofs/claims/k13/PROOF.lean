import PyProof.Rows.All
import Wide.All
import OpenK.AllK
import Wide.FinOn
import HandS.ForMost
import HandS.More
import HandS.Star
import HandS.IsInst
import HandS.TupAny
import HandS.Text
import HandS.Iter
import HandS.Zip
import HandS.Walk
import HandS.Conv
import HandS.RevTup
import HandS.Rev
import HandS.Deep
import HandS.MapJoin
import HandS.DictComp
import HandS.Defaults
import HandS.SortInts
import HandS.SetFor
import HandS.Strs
import HandS.SetKeys
import HandS.ExcOwn
import HandS.ExcIs
import HandS.WordsExc
import KE.GoesNew
import KE.GoesMore
import KE.SortData
import KE.KDictKeyed
import KE.KeyNested
import PyProof.ReprRoads
import KE.KDictZip
import PySem.Challenge.RW_metorshut_k13_externals
set_option Elab.async false
set_option linter.all false
set_option maxRecDepth 100000
set_option maxHeartbeats 4000000
/-! my own layer over the modules: what a reading asks, taken step by step; callees by name -/
namespace Zn
open PySem PySem.Spec PyProof.Rows L2

section
variable {σ : L2.St} {H : Hp} {K : PySem.W.Frag} {Q : VK} {ta tb te tl : TE} {t u c : TT} {D : Ends} {t1 t2 : TS} {g : TG} {i : Nat} {v x y : V} {r : R2} {tr : TA}
theorem r_var (h : σ[i]? = some (some v)) (q : Q v H) : tVar i σ H Q := ⟨v, h, q⟩
theorem r_c (q : Q v H) : tC v σ H Q := q
theorem r_op (q : ta σ H fun x H1 => tb σ H1 fun y H2 => r x y H2 Q) : tOp r ta tb σ H Q := q
theorem r_un {f : V → Hp → VK → Prop} (q : ta σ H fun x H1 => f x H1 Q) : tUn f ta σ H Q := q
theorem r_test {Q : Bool → Hp → Prop} (q : te σ H fun x H' => ∃ k, x = .bl k ∧ Q k H') : tTest te σ H Q := q
theorem r_B {Q : Bool → Hp → Prop} (q : te σ H fun x H' => ∃ k, x = .bl k ∧ Q k H') : tB te σ H Q := q
theorem r_bl {b : Bool} {R : Bool → Prop} (q : R b) : ∃ k, V.bl b = V.bl k ∧ R k := ⟨b, rfl, q⟩
theorem r_I0 {g : Int → Int → V} {i j : Int} (q : Q (g i j) H) : rI0 g (.int i) (.int j) H Q := ⟨i, j, rfl, rfl, q⟩
theorem r_I {C : Int → Int → Prop} {g : Int → Int → V} {i j : Int} (h : C i j) (q : Q (g i j) H) : rI C g (.int i) (.int j) H Q := ⟨i, j, rfl, rfl, h, q⟩
theorem r_U {g : Int → V} {i : Int} (q : Q (g i) H) : rU g (.int i) H Q := ⟨i, rfl, q⟩
theorem r_ipI {f : Int → Int → Int} {i j : Int} (q : Q (.int (f i j)) H) : ipI f (.int i) (.int j) H Q := ⟨i, j, rfl, rfl, q⟩
theorem r_eq (h : scal x y = true) (q : Q (.bl (decide (x = y))) H) : rEq x y H Q := ⟨h, q⟩
theorem r_ne (h : scal x y = true) (q : Q (.bl (!decide (x = y))) H) : rNe x y H Q := ⟨h, q⟩
theorem r_seq (q : t1 { D with nx := t2 D } σ H) : tSeq t1 t2 D σ H := q
theorem r_asg (q : te σ H fun x H1 => g x σ H1 D.nx) : tAsg te g D σ H := q
theorem r_gname {Q : L2.St → Hp → Prop} (q : Q (σ.set i (some v)) H) : gName i v σ H Q := q
theorem r_gsub {to ti : TE} {s : TSet} {Q : L2.St → Hp → Prop} (q : to σ H fun o H1 => ti σ H1 fun i H2 => s o i v H2 fun H3 => Q σ H3) : gSub to ti s v σ H Q := q
theorem r_setL {p : Addr} {xs : List V} {k : Int} {j : Nat} {Q : Hp → Prop} (h : H p = some (.lst xs)) (e : ixN xs.length k = some j) (q : Q (upd H p (.lst (xs.set j v)))) : rSetL (.ref p) (.int k) v H Q := ⟨p, xs, k, j, rfl, rfl, h, e, q⟩
theorem r_ret (q : te σ H D.rt) : tRet te D σ H := q
theorem r_next (q : D.nx σ H) : tNext D σ H := q
theorem r_drop (q : te σ H fun _ H1 => D.nx σ H1) : tDrop te D σ H := q
theorem r_ifs (q : c σ H fun b H1 => if b = true then t1 D σ H1 else t2 D σ H1) : tIfS c t1 t2 D σ H := q
theorem r_if (q : t σ H fun c H1 => if c = true then ta σ H1 Q else tb σ H1 Q) : tIf t ta tb σ H Q := q
theorem r_cons {Q : List V → Hp → Prop} (q : ta σ H fun x H1 => tr σ H1 fun xs H2 => Q (x :: xs) H2) : tCons ta tr σ H Q := q
theorem r_nil {Q : List V → Hp → Prop} (q : Q [] H) : tNil σ H Q := q
theorem r_CB {f : List V → Hp → VK → Prop} (q : tr σ H fun vs H1 => f vs H1 Q) : tCB f tr σ H Q := q
theorem r_and {Q : Bool → Hp → Prop} (q : t σ H fun c H1 => if c = true then u σ H1 Q else Q false H1) : tAnd t u σ H Q := q
theorem r_or {Q : Bool → Hp → Prop} (q : t σ H fun c H1 => if c = true then Q true H1 else u σ H1 Q) : tOr t u σ H Q := q
theorem r_not {Q : Bool → Hp → Prop} (q : t σ H fun c H1 => Q (!c) H1) : tNot t σ H Q := q
theorem r_notV {b : Bool} (q : ta σ H fun x H1 => ∃ c, x = .bl c ∧ Q (.bl (!c)) H1) : tNotV ta σ H Q := q
theorem r_andV (q : ta σ H fun x H1 => ∃ c, x = .bl c ∧ if c = true then tb σ H1 Q else Q (.bl false) H1) : tAndV ta tb σ H Q := q
theorem r_orV (q : ta σ H fun x H1 => ∃ c, x = .bl c ∧ if c = true then Q (.bl true) H1 else tb σ H1 Q) : tOrV ta tb σ H Q := q
theorem r_notV' (q : ta σ H fun x H1 => ∃ c, x = .bl c ∧ Q (.bl (!c)) H1) : tNotV ta σ H Q := q
theorem r_ixL {p : Addr} {xs : List V} {i : Int} (h : SqL K H p xs) (e : atI xs i = some v) (q : Q v H) : rIxL K (.ref p) (.int i) H Q := ⟨p, xs, i, v, rfl, rfl, h, e, q⟩
theorem r_ixT {p : Addr} {xs : List V} {i : Int} (h : SqT K H p xs) (e : atI xs i = some v) (q : Q v H) : rIxT K (.ref p) (.int i) H Q := ⟨p, xs, i, v, rfl, rfl, h, e, q⟩
theorem r_in {neg : Bool} {p : Addr} {xs : List V} (h : SqL K H p xs ∨ SqT K H p xs) (e1 : flatV x = true) (e2 : xs.all flatV = true) (q : Q (.bl (if neg then !inV x xs else inV x xs)) H) : rIn K neg x (.ref p) H Q := ⟨p, xs, rfl, h, e1, e2, q⟩
theorem r_tup {xs : List V} {R : VK} (h : xs.length ≤ sizeLine) (q : ∀ p, H p = none → R (.ref p) (upd H p (.tup xs))) : xs.length ≤ sizeLine ∧ ∀ p, H p = none → R (.ref p) (upd H p (.tup xs)) := ⟨h, q⟩
theorem r_tTup (q : tr σ H fun xs H1 => xs.length ≤ sizeLine ∧ ∀ p, H1 p = none → Q (.ref p) (upd H1 p (.tup xs))) : tTup tr σ H Q := q
theorem r_tLst (q : tr σ H fun xs H1 => xs.length ≤ sizeLine ∧ ∀ p, H1 p = none → Q (.ref p) (upd H1 p (.lst xs))) : tLst tr σ H Q := q
theorem r_one {i : Int} {R : Int → Prop} (q : R i) : ∃ j, [V.int i] = [V.int j] ∧ R j := ⟨i, rfl, q⟩
theorem r_int1 {i : Int} {R : Int → Prop} {B : Bool → Prop} (q : R i) : (∃ j, [V.int i] = [V.int j] ∧ R j) ∨ ∃ k, [V.int i] = [V.bl k] ∧ B k := .inl ⟨i, rfl, q⟩
theorem r_int1b {b : Bool} {R : Int → Prop} {B : Bool → Prop} (q : B b) : (∃ j, [V.bl b] = [V.int j] ∧ R j) ∨ ∃ k, [V.bl b] = [V.bl k] ∧ B k := .inr ⟨b, rfl, q⟩
theorem r_aug {ti : TIp} (h : σ[i]? = some (some v)) (q : te σ H fun y H1 => ti v y H1 fun z H2 => D.nx (σ.set i (some z)) H2) : tAug i te ti D σ H := ⟨v, h, q⟩
theorem r_augS {to ti : TE} {tget : V → V → Hp → VK → Prop} {tip : TIp} {tset : TSet} (q : to σ H fun o H1 => ti σ H1 fun i H2 => tget o i H2 fun x H3 => te σ H3 fun y H4 => tip x y H4 fun z H5 => tset o i z H5 fun H6 => D.nx σ H6) : tAugS to ti te tget tip tset D σ H := q
theorem r_BM {T : String} {f : V → List V → Hp → VK → Prop} (q : ta σ H fun x H1 => tyV K T x H1 ∧ tr σ H1 fun xs H2 => f x xs H2 Q) : tBM K T f ta tr σ H Q := q
theorem r_BM0 {T : String} {f : V → List V → Hp → VK → Prop} (q : ta σ H fun x H1 => tyV K T x H1 ∧ f x [] H1 Q) : tBM0 K T f ta σ H Q := q
theorem r_tupd {a : Addr} {xs : List V} {n : Nat} {ts : TGs} {Q : L2.St → Hp → Prop} (h : SqT K H a xs) (e : xs.length = n) (q : ts xs σ H Q) : gTup K n ts (.ref a) σ H Q := ⟨a, xs, rfl, h, e, q⟩
theorem r_gcons {ts : TGs} {vs : List V} {Q : L2.St → Hp → Prop} (q : g v σ H fun σ' H' => ts vs σ' H' Q) : gCons g ts (v :: vs) σ H Q := ⟨v, vs, rfl, q⟩
theorem r_gnil {Q : L2.St → Hp → Prop} (q : Q σ H) : gNil [] σ H Q := ⟨rfl, q⟩
theorem r_par {j : Nat} {ta : TA} (q : ta σ H fun vs H1 => ∃ v w, vs = [v, w] ∧ D.nx ((σ.set i (some v)).set j (some w)) H1) : tPar i j ta D σ H := q
theorem r_len {p : Addr} {xs : List V} {R : List V → Prop} (h : SqL K H p xs ∨ SqT K H p xs) (q : R xs) : ∃ p' ys, [V.ref p] = [V.ref p'] ∧ (SqL K H p' ys ∨ SqT K H p' ys) ∧ R ys := ⟨p, xs, rfl, h, q⟩
theorem r_yes {Q : Bool → Hp → Prop} (q : Q true H) : tYes σ H Q := q
theorem sl_of {a : Addr} {xs : List V} (h : H a = some (.lst xs)) : SqL K H a xs := .inl (.inl h)
theorem st_of {a : Addr} {xs : List V} (h : H a = some (.tup xs)) : SqT K H a xs := .inl (.inl h)
end
theorem same_new' {H : Hp} {p : Addr} {o : HO} (h : H p = none) : Same H (upd H p o) := fun b x e => by
  rw [upd_ne (ne_of_none e h)]
  exact e
theorem r_iteT {c : Prop} [Decidable c] {A B : Prop} (h : c) (q : A) : if c then A else B := by
  rw [if_pos h]
  exact q
theorem r_iteF {c : Prop} [Decidable c] {A B : Prop} (h : ¬ c) (q : B) : if c then A else B := by
  rw [if_neg h]
  exact q
section
variable {σ : L2.St} {H : Hp} {K : PySem.W.Frag} {Q : VK} {ta tb te tl : TE} {t u c : TT} {D : Ends} {t1 t2 : TS} {g : TG} {i : Nat} {v x y : V} {r : R2} {tr : TA}
theorem r_tupN {xs : List V} {R : V → Hp → Prop} (h : xs.length ≤ sizeLine) (q : ∀ p, H p = none → R (.ref p) (upd H p (.tup xs))) : xs.length ≤ sizeLine ∧ ∀ p, H p = none → R (.ref p) (upd H p (.tup xs)) := ⟨h, q⟩
theorem r_two {v w : V} {R : V → V → Prop} (q : R v w) : ∃ a b, [v, w] = [a, b] ∧ R a b := ⟨v, w, rfl, q⟩
theorem r_twoI {i j : Int} {R : Int → Int → Prop} (q : R i j) : ∃ a b, [V.int i, V.int j] = [V.int a, V.int b] ∧ R a b := ⟨i, j, rfl, q⟩
theorem r_for {wi : TI} {tb : TS} (q : wi σ H fun J H1 => ∃ W : Nat → Nat → L2.St → Hp → Prop, (∃ m, W 0 m σ H1) ∧ ∀ i m σ H, W i m σ H → (J.stop i H ∧ D.nx σ H) ∨ (J.go i H ∧ ∃ N : L2.St → Hp → Prop, (∀ σ' H', N σ' H' → ∃ m', m' < m ∧ W (i + 1) m' σ' H') ∧ ∀ x H', J.yld i H x H' → g x σ H' fun σ2 H2 => tb { D with nx := N, ct := N, bk := D.nx } σ2 H2)) : tFor wi g tb D σ H := q
theorem r_rng1 {R : It → Hp → Prop} (q : tr σ H fun vs H1 => ∃ j : Int, vs = [.int j] ∧ -(2 ^ 62) ≤ j ∧ j < 2 ^ 62 ∧ R (Itr 0 j.toNat) H1) : iRng1 tr σ H R := q
theorem r_rng {j : Int} {R : Int → Prop} (h1 : -(2 ^ 62) ≤ j) (h2 : j < 2 ^ 62) (q : R j) : ∃ k : Int, [V.int j] = [V.int k] ∧ -(2 ^ 62) ≤ k ∧ k < 2 ^ 62 ∧ R k := ⟨j, rfl, h1, h2, q⟩
theorem r_lc {wi : TI} {te : TE} {vs : List Nat}
    (q : wi σ H fun J H1 => ∀ A, H1 A = none → ∃ Z : Nat → Nat → Hp → Prop, (∃ m, Z 0 m (upd H1 A (.lst [])))
      ∧ ∀ j m H, Z j m H → (J.stop j H ∧ Q (.ref A) H)
        ∨ (J.go j H ∧ ∃ Y : Hp → Prop, (∀ H', Y H' → ∃ m', m' < m ∧ Z (j + 1) m' H')
          ∧ ∀ x H', J.yld j H x H' → g x (wipe σ vs) H' fun σ2 H2 => wipe σ2 vs = wipe σ vs
            ∧ t σ2 H2 fun b H3 =>
              if b = true then te σ2 H3 fun y H4 => ∃ l, H4 A = some (.lst l) ∧ l.length < sizeLine ∧ Y (upd H4 A (.lst (l ++ [y])))
              else Y H3)) : tLc wi g t te vs σ H Q := q
theorem r_ilist {R : It → Hp → Prop} (q : tl σ H fun x H1 => ∃ a, x = .ref a ∧ (∃ xs, SqL K H1 a xs) ∧ R (Itl K a) H1) : iList K tl σ H R := q
theorem r_itup {R : It → Hp → Prop} (q : tl σ H fun x H1 => ∃ a, x = .ref a ∧ (∃ xs, SqT K H1 a xs) ∧ R (Itt K a) H1) : iTup K tl σ H R := q
theorem r_ref {p : Addr} {A R : Addr → Prop} (h : A p) (q : R p) : ∃ a, V.ref p = V.ref a ∧ A a ∧ R a := ⟨p, rfl, h, q⟩
theorem r_tyL {p : Addr} {xs : List V} {R : Prop} (h : SqL K H p xs) (q : R) : tyV K "list" (.ref p) H ∧ R := ⟨.inl ⟨rfl, _, h⟩, q⟩
theorem r_tyS {s : Str} {R : Prop} (q : R) : tyV K "str" (.str s) H ∧ R := ⟨rfl, q⟩
theorem r_append {p : Addr} {xs : List V} {y : V} (h : H p = some (.lst xs)) (e : xs.length < sizeLine) (q : Q .non (upd H p (.lst (xs ++ [y])))) : rAppend (.ref p) [y] H Q := ⟨p, xs, y, rfl, rfl, h, e, q⟩
theorem r_extend {p b : Addr} {xs zs : List V} (h : H p = some (.lst xs)) (hb : H b = some (.lst zs)) (e : xs.length + zs.length ≤ sizeLine) (q : Q .non (upd H p (.lst (xs ++ zs)))) : rExtend (.ref p) [.ref b] H Q := ⟨p, b, xs, zs, rfl, rfl, h, hb, e, q⟩
theorem r_popAt {p : Addr} {xs : List V} {i : Int} {y : V} (h : H p = some (.lst xs)) (h0 : 0 ≤ i) (h1 : i < (xs.length : Int)) (h2 : xs.length ≤ 1000000) (hy : xs[i.toNat]? = some y) (q : Q y (upd H p (.lst (xs.eraseIdx i.toNat)))) : rPopAt (.ref p) [.int i] H Q :=
  ⟨p, xs, i, i.toNat, y, rfl, rfl, h, by omega, by omega, seqIndex_of h0 h1, hy, q⟩
theorem r_cat {p b : Addr} {xs zs : List V} (h : H p = some (.lst xs)) (hb : H b = some (.lst zs)) (e : xs.length + zs.length ≤ sizeLine) (q : ∀ c, H c = none → Q (.ref c) (upd H c (.lst (xs ++ zs)))) : rCat (.ref p) (.ref b) H Q := ⟨p, b, xs, zs, rfl, rfl, h, hb, e, q⟩
theorem r_isi {x c : V} {t u : Value} {b : Bool} (hc : ClsV c u) (ht : TyX K H x t) (hk : PySem.W.kitOne K t u = some b) (q : Q (.bl b) H) : rIsi K [x, c] H Q := ⟨x, c, t, u, b, rfl, hc, ht, hk, q⟩
theorem r_catA {p b : Addr} {xs ys : List V} (h1 : SqT K H p xs) (h2 : SqT K H b ys) (q : rCatA K (.ref p) (.ref b) H Q) : rCatA K (.ref p) (.ref b) H Q := q
theorem at_new {p a : Addr} {o u : HO} (hp : H p = none) (h : H a = some u) : upd H p o a = some u := same_new' hp _ _ h
theorem r_listOf {p : Addr} {xs : List V} {R : V → Hp → Prop} (h : SqL K H p xs ∨ SqT K H p xs) (q : ∀ l, H l = none → R (.ref l) (upd H l (.lst xs))) : ∃ p' ys, [V.ref p] = [V.ref p'] ∧ (SqL K H p' ys ∨ SqT K H p' ys) ∧ ∀ l, H l = none → R (.ref l) (upd H l (.lst ys)) := ⟨p, xs, rfl, h, q⟩
theorem r_slL {p : Addr} {xs : List V} {lo hi : Option Int} (h : SqL K H p xs) (q : ∀ l, H l = none → Q (.ref l) (upd H l (.lst (cutV xs lo hi)))) : rSlL K (.ref p) lo hi H Q := ⟨p, xs, rfl, h, q⟩
theorem r_sl {f : V → Option Int → Option Int → Hp → VK → Prop} {tlo thi : TO} (q : te σ H fun x H1 => tlo σ H1 fun l H2 => thi σ H2 fun u H3 => f x l u H3 Q) : tSl f te tlo thi σ H Q := q
theorem r_noP {Q : Option Int → Hp → Prop} (q : Q none H) : tNoPart σ H Q := q
theorem r_part {Q : Option Int → Hp → Prop} (q : te σ H fun x H1 => ∃ i, x = .int i ∧ Q (some i) H1) : tPart te σ H Q := q
theorem r_eI {i : Int} {R : Int → Prop} (q : R i) : ∃ j, V.int i = V.int j ∧ R j := ⟨i, rfl, q⟩
end
theorem len_ok {n : Nat} (h : n ≤ 100000) : n ≤ sizeLine := Nat.le_trans h (by decide)
theorem r_al {n : Nat} {H : Hp} {R : Addr → Prop} (h : n ≤ sizeLine) (q : ∀ p, H p = none → R p) : n ≤ sizeLine ∧ ∀ p, H p = none → R p := ⟨h, q⟩
theorem pow2_pos (n : Nat) : (0 : Int) < 1 * 2 ^ n := by
  rw [Int.one_mul]
  exact Int.pow_pos (by decide)
theorem mulR {i j : Int} (h1 : -(2 ^ 64) < j) (h2 : j < 2 ^ 64) : CMul i j := .inr ⟨h1, h2⟩
theorem mulL {i j : Int} (h1 : -(2 ^ 64) < i) (h2 : i < 2 ^ 64) : CMul i j := .inl ⟨h1, h2⟩

/-! ### loops, what follows and what is handed back told apart -/
section
variable {K : PySem.W.Frag} {a : Addr} {xs : List V} {g : TG} {tb : TS} {nx : L2.St → Hp → Prop} {rt : VK} {σ : L2.St} {H : Hp}
theorem fl (Pv : Nat → L2.St → Hp → Prop) (h0 : Pv 0 σ H) (hl : ∀ i σ H, i ≤ xs.length → Pv i σ H → SqL K H a xs)
    (hs : ∀ i x σ H, xs[i]? = some x → Pv i σ H → g x σ H fun σ2 H2 => tb { nx := Pv (i + 1), rt := rt, bk := nx, ct := Pv (i + 1) } σ2 H2) (hd : ∀ σ H, Pv xs.length σ H → nx σ H) :
    ∃ W : Nat → Nat → L2.St → Hp → Prop, (∃ m, W 0 m σ H) ∧ ∀ i m σ H, W i m σ H →
      ((Itl K a).stop i H ∧ nx σ H) ∨ ((Itl K a).go i H ∧ ∃ N : L2.St → Hp → Prop, (∀ σ' H', N σ' H' → ∃ m', m' < m ∧ W (i + 1) m' σ' H') ∧ ∀ x H', (Itl K a).yld i H x H' → g x σ H' fun σ2 H2 => tb { nx := N, rt := rt, bk := nx, ct := N } σ2 H2) :=
  for_list (D := { nx := nx, rt := rt, bk := nx, ct := nx }) Pv h0 hl hs hd
theorem ft (Pv : Nat → L2.St → Hp → Prop) (h0 : Pv 0 σ H) (hl : ∀ i σ H, i ≤ xs.length → Pv i σ H → SqT K H a xs)
    (hs : ∀ i x σ H, xs[i]? = some x → Pv i σ H → g x σ H fun σ2 H2 => tb { nx := Pv (i + 1), rt := rt, bk := nx, ct := Pv (i + 1) } σ2 H2) (hd : ∀ σ H, Pv xs.length σ H → nx σ H) :
    ∃ W : Nat → Nat → L2.St → Hp → Prop, (∃ m, W 0 m σ H) ∧ ∀ i m σ H, W i m σ H →
      ((Itt K a).stop i H ∧ nx σ H) ∨ ((Itt K a).go i H ∧ ∃ N : L2.St → Hp → Prop, (∀ σ' H', N σ' H' → ∃ m', m' < m ∧ W (i + 1) m' σ' H') ∧ ∀ x H', (Itt K a).yld i H x H' → g x σ H' fun σ2 H2 => tb { nx := N, rt := rt, bk := nx, ct := N } σ2 H2) :=
  for_tup (D := { nx := nx, rt := rt, bk := nx, ct := nx }) Pv h0 hl hs hd
theorem fr {lo : Int} {n : Nat} (Pv : Nat → L2.St → Hp → Prop) (h0 : Pv 0 σ H)
    (hs : ∀ i σ H, i < n → Pv i σ H → g (.int (lo + i)) σ H fun σ2 H2 => tb { nx := Pv (i + 1), rt := rt, bk := nx, ct := Pv (i + 1) } σ2 H2) (hd : ∀ σ H, Pv n σ H → nx σ H) :
    ∃ W : Nat → Nat → L2.St → Hp → Prop, (∃ m, W 0 m σ H) ∧ ∀ i m σ H, W i m σ H →
      ((Itr lo n).stop i H ∧ nx σ H) ∨ ((Itr lo n).go i H ∧ ∃ N : L2.St → Hp → Prop, (∀ σ' H', N σ' H' → ∃ m', m' < m ∧ W (i + 1) m' σ' H') ∧ ∀ x H', (Itr lo n).yld i H x H' → g x σ H' fun σ2 H2 => tb { nx := N, rt := rt, bk := nx, ct := N } σ2 H2) :=
  for_range (D := { nx := nx, rt := rt, bk := nx, ct := nx }) Pv h0 hs hd
end
/-! ### lists of any values read by a written place -/
theorem atI_lt {xs : List V} {i : Int} {v : V} {j : Nat} (e : i = (j : Int)) (h : xs[j]? = some v) : atI xs i = some v := by
  rw [e]
  exact atI_nat h
/-- o[i] of a list, for o[i] op= e -/
theorem pget_list {X : Cx} : PGet X (rIxL X.K) := by
  intro pins s σ H o i ov iv Q I ro ri h
  obtain ⟨p, xs, k, z, rfl, rfl, hq, he, q⟩ := h
  cases ro
  obtain ⟨t, rfl⟩ := ri
  obtain ⟨its, r, pl, hz⟩ := I.list hq
  obtain ⟨j, h1, h2, h3, h4, h5⟩ := atI_get he
  obtain ⟨w, ew, rw'⟩ := r.get h2
  have hl := r.length
  have hn := line63
  have fin : EP X pins σ Q w s := ⟨z, H, I, rw', q⟩
  by_cases h0 : 0 ≤ k
  · have hj : k.toNat = j := by
      rw [seqIndex_of h0 h5] at h1
      exact Option.some.inj h1
    exact wpAny_getItem_list pl.isList h0 (by omega) (by rw [hj]; simpa using ew) fin
  · have hj : (k + (its.toArray.size : Int)).toNat = j := by
      rw [seqIndex_neg (by omega) h4] at h1
      rw [List.size_toArray, ← hl]
      exact Option.some.inj h1
    exact wpAny_getItem_list_neg pl.isList (by omega) (by rw [List.size_toArray] <;> omega) (by omega) (by rw [hj]; simpa using ew) fin

/-! ### a def of the module, by its name -/
def Cal (P : Program) (w : World) (K : PySem.W.Frag) (mg : Str → Option Value) (base : Heap) (x : Str) (k : Nat) (sp : Sp) : Prop :=
  ∃ f, mg x = some (.ref f) ∧ FnR P w K mg base CX0 k f sp ∧ PySem.W.keepIn K (.ref f) = true
section
variable {P : Program} {w : World} {K : PySem.W.Frag} {mg : Str → Option Value} {base : Heap}
def tCal (sp : Sp) (t : TA) : TE := fun σ H Q => t σ H fun vs H1 => sp vs H1 Q E0
theorem pe_cal {X : Cx} {x : Str} {k : Nat} {sp : Sp} {e : Expr} {es : List Expr} {t : TA} {p pos : Pos} (C : Cal X.prog X.w X.K X.mg X.base x k sp) (hr : Room k X.A) (hg : Gl X x) (ha : PA X (e :: es) t)
    (hdb : (x == ("__debug__" : Str)) = false := by decide) (he : starEach (e :: es) X.env = (false, eval e X.env) :: starEach es X.env := by rfl)
    (hpl : (backTo pos (starEach es X.env)).any (·.1) = false := by rfl) : PE X (.Call (.Name x p) (e :: es) [] pos) (tCal sp t) := by
  obtain ⟨f, hm, F, hk⟩ := C
  refine ⟨fun pins s σ H Q I h => ?_⟩
  refine wpAny_Call_Name_kw (ld_glob I hg hm ?_ hdb)
  refine PySem.W.callWith_K (h₀ := X.base) I.ok.mod.kin hk (thn (ha.run pos pins s σ H _ I h) fun us s1 ⟨vs, H1, I1, r, q⟩ => ⟨I1.kIn, ?_⟩) he hpl
  exact wpAny_call (run_fnR F hr pass0 I1 r q)
theorem pe_cal0 {X : Cx} {x : Str} {k : Nat} {sp : Sp} {p pos : Pos} (C : Cal X.prog X.w X.K X.mg X.base x k sp) (hr : Room k X.A) (hg : Gl X x)
    (hdb : (x == ("__debug__" : Str)) = false := by decide) : PE X (.Call (.Name x p) [] [] pos) (tCal sp tNil) := by
  obtain ⟨f, hm, F, hk⟩ := C
  refine ⟨fun pins s σ H Q I h => ?_⟩
  refine wpAny_Call_Name_kw (ld_glob I hg hm ?_ hdb)
  exact PySem.W.callWith_K0 I.kIn hk (wpAny_call (run_fnR (us := []) F hr pass0 I .nil h))
theorem r_cal {sp : Sp} {t : TA} {σ : L2.St} {H : Hp} {Q : VK} (q : t σ H fun vs H1 => sp vs H1 Q E0) : tCal sp t σ H Q := q
/-- from a def of the text to its call -/
theorem cal_of {x : Str} {st : Stmt} {f : Addr} {fd : FuncData} {N ps : List Str} {k : Nat} {sp : Sp} (hm : mg x = some (.ref f)) (F : Fun K x x st f fd)
    (hb : ∀ (kV doc pm : Value) (an : Option Addr) (cdv ct : Value) (us : List Value), us.length = ps.length → bindArgs (PySem.W.fnOf x x (defArgs st) (defBody st) (defScope st) .none kV doc pm an cdv ct) ⟨us, []⟩ = pure (ps.zip us))
    (G : FnOk P w K mg base CX0 k f fd ps sp) : Cal P w K mg base x k sp := by
  refine ⟨f, hm, ?_, F.kp⟩
  refine (G.raw (F.binds hb) .nil).imp fun vs H Q E h => ?_
  show sp (vs ++ []) H Q E
  rw [List.append_nil]
  exact h
end
/-! ### heaps -/
theorem same_new {H : Hp} {p : Addr} {o : HO} (h : H p = none) : Same H (upd H p o) := fun b x e => by
  rw [upd_ne (ne_of_none e h)]
  exact e
/-- all but what stands at d is as it was -/
def Keep (d : Addr) (H H' : Hp) : Prop := ∀ b o, b ≠ d → H b = some o → H' b = some o
theorem Keep.refl (d : Addr) (H : Hp) : Keep d H H := fun _ _ _ h => h
theorem Keep.trans {d : Addr} {H H1 H2 : Hp} (a : Keep d H H1) (b : Keep d H1 H2) : Keep d H H2 := fun c o n h => b c o n (a c o n h)
theorem Same.keep {d : Addr} {H H1 : Hp} (a : Same H H1) : Keep d H H1 := fun c o _ h => a c o h
theorem keep_upd {d : Addr} {H : Hp} {o : HO} : Keep d H (upd H d o) := fun b x n e => by
  rw [upd_ne n]
  exact e
theorem Keep.seq {K : PySem.W.Frag} {d : Addr} {H H' : Hp} {a : Addr} {xs : List V} (e : Keep d H H') (n : a ≠ d) (h : SqL K H a xs) : SqL K H' a xs := by
  rcases h with (h | ⟨o, h⟩) | h
  · exact .inl (.inl (e _ _ n h))
  · exact .inl (.inr ⟨o, e _ _ n h⟩)
  · exact .inr h
end Zn
namespace Zn
open PySem
def topS (i : Nat) : Stmt := PySem.Challenge.pw_metorshut_k13_externals.main.body.getD i (.Pass ⟨0, 0, 0, 0⟩)
end Zn
local macro_rules | `(tactic| walk_at "fd") => `(tactic| (repeat (first | assumption | exact L2.upd_same | refine' Zn.at_new (by assumption) ?_)))
local macro_rules | `(tactic| walk_at "sm") => `(tactic| (repeat (first | assumption | exact L2.Same.refl _ | refine L2.Same.trans ?_ (Zn.same_new (by assumption)))))

local macro_rules | `(tactic| walk_at "rd1") => `(tactic| ((with_reducible refine' Zn.r_tupd ?h ?e ?_); (case h => first | exact Zn.st_of (by walk_at "fd") | assumption); (case e => exact rfl)))
local macro_rules | `(tactic| walk_at "rd1") => `(tactic| ((with_reducible refine' Zn.r_ixT ?h ?e ?_); (case h => first | exact Zn.st_of (by walk_at "fd") | assumption); (case e => exact rfl)))
local macro_rules | `(tactic| walk_at "rd1") => `(tactic| ((with_reducible refine' Zn.r_ixL ?h ?e ?_); (case h => first | exact Zn.sl_of (by walk_at "fd") | assumption); (case e => exact rfl)))
local macro_rules | `(tactic| walk_at "rd1") => `(tactic| ((with_reducible refine' Zn.r_setL ?h ?e ?_); (case h => walk_at "fd"); (case e => exact rfl)))
local macro_rules | `(tactic| walk_at "rd1") => `(tactic| ((with_reducible refine Zn.r_I ?hc ?_); (case hc => first | assumption | exact Zn.pow2_pos _ | omega | decide | exact Zn.mulR (by decide) (by decide) | exact Zn.mulL (by decide) (by decide) | exact ⟨by decide, by decide⟩ | exact ⟨by decide, by decide, by decide⟩ | exact Zn.mulR (by omega) (by omega) | exact Zn.mulL (by omega) (by omega) | exact ⟨by omega, by omega⟩ | exact ⟨by omega, by omega, by omega⟩)))
local macro_rules | `(tactic| walk_at "rd1") => `(tactic| (with_reducible refine Zn.r_next ?_))
local macro_rules | `(tactic| walk_at "rd1") => `(tactic| ((with_reducible refine Zn.r_al ?h ?_); (case h => exact Zn.len_ok (Nat.le_of_ble_eq_true rfl)); intro p hp))
local macro_rules | `(tactic| walk_at "rd1") => `(tactic| ((with_reducible refine' Zn.r_in ?h ?e1 ?e2 ?_); (case h => first | exact .inr (Zn.st_of (by walk_at "fd")) | exact .inl (Zn.sl_of (by walk_at "fd")) | exact .inl (by assumption) | exact .inr (by assumption)); (case e1 => rfl); (case e2 => rfl)))
local macro_rules | `(tactic| walk_at "rd1") => `(tactic| ((with_reducible refine Zn.r_rng ?h1 ?h2 ?_); (case h1 => first | omega | decide); (case h2 => first | omega | decide)))
local macro_rules | `(tactic| walk_at "rd1") => `(tactic| ((with_reducible refine Zn.r_iteF ?h ?_); (case h => first | assumption | decide +kernel | exact (fun h => Bool.noConfusion (show false = true from h)))))
local macro_rules | `(tactic| walk_at "rd1") => `(tactic| ((with_reducible refine Zn.r_iteT ?h ?_); (case h => first | assumption | decide +kernel | exact rfl)))
local macro_rules | `(tactic| walk_at "rd1") => `(tactic| ((with_reducible refine' Zn.r_tyL ?h ?_); (case h => first | exact Zn.sl_of (by walk_at "fd") | assumption)))
local macro_rules | `(tactic| walk_at "rd1") => `(tactic| (with_reducible refine Zn.r_tyS ?_))
local macro_rules | `(tactic| walk_at "rd1") => `(tactic| (with_reducible refine Zn.r_eI ?_))
local macro_rules | `(tactic| walk_at "rd1") => `(tactic| (with_reducible refine Zn.r_part ?_))
local macro_rules | `(tactic| walk_at "rd1") => `(tactic| (with_reducible refine Zn.r_noP ?_))
local macro_rules | `(tactic| walk_at "rd1") => `(tactic| (with_reducible refine Zn.r_sl ?_))
local macro_rules | `(tactic| walk_at "rd1") => `(tactic| (with_reducible refine Zn.r_twoI ?_))
local macro_rules | `(tactic| walk_at "rd1") => `(tactic| (with_reducible refine Zn.r_two ?_))
local macro_rules | `(tactic| walk_at "rd1") => `(tactic| (with_reducible refine Zn.r_itup ?_))
local macro_rules | `(tactic| walk_at "rd1") => `(tactic| (with_reducible refine Zn.r_ilist ?_))
local macro_rules | `(tactic| walk_at "rd1") => `(tactic| (with_reducible refine Zn.r_rng1 ?_))
local macro_rules | `(tactic| walk_at "rd1") => `(tactic| (with_reducible refine Zn.r_lc ?_))
local macro_rules | `(tactic| walk_at "rd1") => `(tactic| (with_reducible refine Zn.r_for ?_))
local macro_rules | `(tactic| walk_at "rd1") => `(tactic| ((with_reducible refine' Zn.r_len ?h ?_); (case h => first | exact .inl (Zn.sl_of (by assumption)) | exact .inr (Zn.st_of (by assumption)) | exact .inl (by assumption) | exact .inr (by assumption))))
local macro_rules | `(tactic| walk_at "rd1") => `(tactic| (with_reducible refine Zn.r_yes ?_))
local macro_rules | `(tactic| walk_at "rd1") => `(tactic| (with_reducible refine Zn.r_drop ?_))
local macro_rules | `(tactic| walk_at "rd1") => `(tactic| (with_reducible refine Zn.r_gnil ?_))
local macro_rules | `(tactic| walk_at "rd1") => `(tactic| (with_reducible refine Zn.r_gcons ?_))
local macro_rules | `(tactic| walk_at "rd1") => `(tactic| (with_reducible refine Zn.r_par ?_))
local macro_rules | `(tactic| walk_at "rd1") => `(tactic| (with_reducible refine Zn.r_BM0 ?_))
local macro_rules | `(tactic| walk_at "rd1") => `(tactic| (with_reducible refine Zn.r_BM ?_))
local macro_rules | `(tactic| walk_at "rd1") => `(tactic| (with_reducible refine Zn.r_notV' ?_))
local macro_rules | `(tactic| walk_at "rd1") => `(tactic| (with_reducible refine Zn.r_orV ?_))
local macro_rules | `(tactic| walk_at "rd1") => `(tactic| (with_reducible refine Zn.r_andV ?_))
local macro_rules | `(tactic| walk_at "rd1") => `(tactic| (with_reducible refine Zn.r_not ?_))
local macro_rules | `(tactic| walk_at "rd1") => `(tactic| (with_reducible refine Zn.r_or ?_))
local macro_rules | `(tactic| walk_at "rd1") => `(tactic| (with_reducible refine Zn.r_and ?_))
local macro_rules | `(tactic| walk_at "rd1") => `(tactic| (with_reducible refine Zn.r_ipI ?_))
local macro_rules | `(tactic| walk_at "rd1") => `(tactic| (with_reducible refine Zn.r_augS ?_))
local macro_rules | `(tactic| walk_at "rd1") => `(tactic| ((with_reducible refine' Zn.r_aug ?hv ?_); (case hv => exact rfl)))
local macro_rules | `(tactic| walk_at "rd1") => `(tactic| (with_reducible refine Zn.r_gsub ?_))
local macro_rules | `(tactic| walk_at "rd1") => `(tactic| (with_reducible refine Zn.r_one ?_))
local macro_rules | `(tactic| walk_at "rd1") => `(tactic| (with_reducible refine Zn.r_int1b ?_))
local macro_rules | `(tactic| walk_at "rd1") => `(tactic| (with_reducible refine Zn.r_int1 ?_))
local macro_rules | `(tactic| walk_at "rd1") => `(tactic| (with_reducible refine Zn.r_U ?_))
local macro_rules | `(tactic| walk_at "rd1") => `(tactic| (with_reducible refine Zn.r_un ?_))
local macro_rules | `(tactic| walk_at "rd1") => `(tactic| (with_reducible refine Zn.r_if ?_))
local macro_rules | `(tactic| walk_at "rd1") => `(tactic| (with_reducible refine Zn.r_B ?_))
local macro_rules | `(tactic| walk_at "rd1") => `(tactic| (with_reducible refine Zn.r_tLst ?_))
local macro_rules | `(tactic| walk_at "rd1") => `(tactic| (with_reducible refine Zn.r_tTup ?_))
local macro_rules | `(tactic| walk_at "rd1") => `(tactic| (with_reducible refine Zn.r_nil ?_))
local macro_rules | `(tactic| walk_at "rd1") => `(tactic| (with_reducible refine Zn.r_cons ?_))
local macro_rules | `(tactic| walk_at "rd1") => `(tactic| (with_reducible refine Zn.r_cal ?_))
local macro_rules | `(tactic| walk_at "rd1") => `(tactic| (with_reducible refine Zn.r_CB ?_))
local macro_rules | `(tactic| walk_at "rd1") => `(tactic| ((with_reducible refine Zn.r_ne ?hs ?_); (case hs => exact rfl)))
local macro_rules | `(tactic| walk_at "rd1") => `(tactic| ((with_reducible refine Zn.r_eq ?hs ?_); (case hs => exact rfl)))
local macro_rules | `(tactic| walk_at "rd1") => `(tactic| (with_reducible refine Zn.r_bl ?_))
local macro_rules | `(tactic| walk_at "rd1") => `(tactic| (with_reducible refine Zn.r_I0 ?_))
local macro_rules | `(tactic| walk_at "rd1") => `(tactic| (with_reducible refine Zn.r_gname ?_))
local macro_rules | `(tactic| walk_at "rd1") => `(tactic| (with_reducible refine Zn.r_c ?_))
local macro_rules | `(tactic| walk_at "rd1") => `(tactic| ((with_reducible refine' Zn.r_var ?hv ?_); (case hv => exact rfl)))
local macro_rules | `(tactic| walk_at "rd1") => `(tactic| (with_reducible refine Zn.r_op ?_))
local macro_rules | `(tactic| walk_at "rd1") => `(tactic| (with_reducible refine Zn.r_test ?_))
local macro_rules | `(tactic| walk_at "rd1") => `(tactic| (with_reducible refine Zn.r_ifs ?_))
local macro_rules | `(tactic| walk_at "rd1") => `(tactic| (with_reducible refine Zn.r_ret ?_))
local macro_rules | `(tactic| walk_at "rd1") => `(tactic| (with_reducible refine Zn.r_asg ?_))
local macro_rules | `(tactic| walk_at "rd1") => `(tactic| (with_reducible refine Zn.r_seq ?_))
local macro_rules | `(tactic| walk_at "rd") => `(tactic| ((try dsimp only); (repeat ((walk_at "rd1"); (try dsimp only)))))
namespace Zn
open PySem PySem.Spec PyProof.Rows L2
abbrev s__law_source : Stmt := topS 22
theorem sc__law_source : FnScope ["_law_script"] ["_law_script"] (defScope s__law_source) := ⟨rfl, rfl, rfl, by decide +kernel, rfl, by decide +kernel, by decide +kernel⟩

abbrev s__law_digit : Stmt := topS 23
theorem sc__law_digit : FnScope ["_law_source_here", "_law_many", "_law_cell", "_law_digit_here", "_law_number"] ["_law_source_here", "_law_many"] (defScope s__law_digit) := ⟨rfl, rfl, rfl, by decide +kernel, rfl, by decide +kernel, by decide +kernel⟩

/-- what the drawer keeps: its own list at d (ten cells, the last five not told), the script's ints at c -/
def DL (H : Hp) (d c : Addr) : Prop := ∃ (at_ rest st n : Int) (vs : V × V × V × V × V), H d = some (.lst [.ref c, .int at_, .int rest, .int st, .int n, vs.1, vs.2.1, vs.2.2.1, vs.2.2.2.1, vs.2.2.2.2]) ∧ 0 ≤ at_ ∧ 0 ≤ rest ∧ 0 ≤ st ∧ st < 2147483647 ∧ 0 ≤ n
structure Drw (H : Hp) (d c : Addr) : Prop where
  dl : DL H d c
  ne : c ≠ d
  cl : ∃ ns : List Int, H c = some (.lst (ns.map V.int))
theorem Drw.same {H H' : Hp} {d c : Addr} (D : Drw H d c) (s : Same H H') : Drw H' d c := by
  obtain ⟨⟨a, r, st, l, vs, h1, h2⟩, ne, ns, h3⟩ := D
  exact ⟨⟨a, r, st, l, vs, s _ _ h1, h2⟩, ne, ns, s _ _ h3⟩
theorem Drw.get {H : Hp} {d c : Addr} (D : Drw H d c) : ∃ xs, H d = some (.lst xs) := by
  obtain ⟨⟨a, r, st, l, vs, h1, _⟩, _⟩ := D
  exact ⟨_, h1⟩
theorem Drw.upd {H : Hp} {d c a : Addr} {o : HO} (D : Drw H d c) (n1 : d ≠ a) (n2 : c ≠ a) : Drw (upd H a o) d c := by
  obtain ⟨⟨at_, r, st, l, vs, h1, h2⟩, ne, ns, h3⟩ := D
  exact ⟨⟨at_, r, st, l, vs, (upd_ne n1).trans h1, h2⟩, ne, ns, (upd_ne n2).trans h3⟩
theorem Drw.nd {H : Hp} {d c a : Addr} (D : Drw H d c) (h : H a = none) : d ≠ a := by
  obtain ⟨xs, e⟩ := D.get
  exact ne_of_none e h
theorem Drw.nc {H : Hp} {d c a : Addr} (D : Drw H d c) (h : H a = none) : c ≠ a := by
  obtain ⟨ns, e⟩ := D.cl
  exact ne_of_none e h
/-- a draw: a number below many; only the drawer's own list changes -/
def spDraw : Sp := fun vs H Q _ => ∃ (d c : Addr) (many : Int), vs = [.ref d, .int many] ∧ Drw H d c ∧ 1 ≤ many ∧ many < 1073741824 ∧
  ∀ (n : Int) (xs : List V), 0 ≤ n → n < many → Drw (upd H d (.lst xs)) d c → Q (.int n) (upd H d (.lst xs))
def spBegin (K : PySem.W.Frag) : Sp := fun vs H Q _ => ∃ (a : Addr) (ns : List Int), vs = [.ref a] ∧ SqL K H a (ns.map V.int) ∧ ns.length ≤ 63 ∧
  ∀ (H' : Hp) (d c : Addr), Same H H' → H d = none → Drw H' d c → Q (.ref d) H'
/-- the names that the drawer reads -/
structure TDraw (mg : Str → Option Value) : Prop where
  z_int : mg "int" = none
  z_len : mg "len" = none
  z_abs : mg "abs" = none
  z_list : mg "list" = none
section
variable {P : Program} {w : World} {K : PySem.W.Frag} {mg : Str → Option Value} {base : Heap}
theorem ok_begin {f : Addr} {fd : FuncData} (F : Fun K "_law_source" "_law_source" s__law_source f fd) (T : TDraw mg) : FnOk P w K mg base CX0 1 f fd ["_law_script"] (spBegin K) := by
  refine F.ok sc__law_source (fun vs H Q E h => ?_) (fun cdv A outer s H vs Q E hr h => ?_)
  · obtain ⟨a, ns, rfl, _⟩ := h
    rfl
  · obtain ⟨a, ns, rfl, hS, hlen, q⟩ := h
    refine ⟨_, 
      (pss_one (ps_ret (pe_lst (pa_cons (pe_callTy call_list_of (by rfl) T.z_list (by decide +kernel) (pa_cons (pv 0) pa_nil)) (pa_cons pe_int (pa_cons pe_int (pa_cons pe_int (pa_cons pe_int (pa_cons pe_int (pa_cons pe_non (pa_cons pe_int (pa_cons pe_int (pa_cons pe_int pa_nil))))))))))))), ?_⟩
    walk_at "rd"
    intro c hc
    walk_at "rd"
    rename_i d hd
    have ncd : c ≠ d := ne_of_none (show (upd H c (HO.lst (ns.map V.int))) c = _ from upd_same) hd
    refine q _ d c ((same_new hc).trans (same_new hd)) ((same_new hc).free hd) ⟨⟨0, 0, 0, 0, (.int 0, .non, .int 40, .int 0, .int 0), upd_same, by decide⟩, ncd, ns, by rw [upd_ne ncd]; exact upd_same⟩
theorem seq_nxD {t1 t2 : TS} {D : Ends} {σ : L2.St} {H : Hp} (Post : L2.St → Hp → Prop) (h2 : ∀ σ' H', Post σ' H' → t2 D σ' H') (h1 : ∀ nx', (∀ σ' H', Post σ' H' → nx' σ' H') → t1 { D with nx := nx' } σ H) : tSeq t1 t2 D σ H := h1 (t2 D) h2
theorem ok_draw {f : Addr} {fd : FuncData} (F : Fun K "_law_digit" "_law_digit" s__law_digit f fd) (T : TDraw mg) : FnOk P w K mg base CX0 1 f fd ["_law_source_here", "_law_many"] spDraw := by
  refine F.ok sc__law_digit (fun vs H Q E h => ?_) (fun cdv A outer s H vs Q E hr h => ?_)
  · obtain ⟨d, c, m, rfl, _⟩ := h
    rfl
  · obtain ⟨d, c, m, rfl, ⟨⟨at_, rest, st, n, ⟨x5, x6, x7, x8, x9⟩, hd, a0, r0, s0, s1, n0⟩, ncd, ns, hc⟩, m1, m2, q⟩ := h
    have hm0 : 0 < m := by omega
    dsimp only at hd
    refine ⟨_, 
      (pss_cons (ps_asg (pe_op op_add (pe_ix (r := rIxL K) ix_list (pv 0) pe_int (fun _ _ => rfl)) pe_int) (pg_sub (pv 0) pe_int set_list))
      (pss_cons (ps_if (PW.pt (pw_and (pt_cmpR op_eq (pe_ix (r := rIxL K) ix_list (pv 0) pe_int (fun _ _ => rfl)) pe_int (nomark _)) (pw_and1 (pt_cmpR op_lt (pe_ix (r := rIxL K) ix_list (pv 0) pe_int (fun _ _ => rfl)) (pe_callB call_len_seq (by rfl) T.z_len (by decide +kernel) (pa_cons (pe_ix (r := rIxL K) ix_list (pv 0) pe_int (fun _ _ => rfl)) pa_nil)) (nomark _))))) 
       (pss_cons (ps_set (i := 2) sc__law_digit.nd rfl (Or.inl rfl) (pe_ix (r := rIxL K) ix_list (pe_ix (r := rIxL K) ix_list (pv 0) pe_int (fun _ _ => rfl)) (pe_ix (r := rIxL K) ix_list (pv 0) pe_int (fun _ _ => rfl)) (fun _ _ => rfl)))
       (pss_cons (ps_asg (pe_op op_add (pe_ix (r := rIxL K) ix_list (pv 0) pe_int (fun _ _ => rfl)) pe_int) (pg_sub (pv 0) pe_int set_list))
       (pss_cons (ps_asg (pe_op op_mod (pe_callTy call_int1 (by rfl) T.z_int (by decide +kernel) (pa_cons (pe_op op_add (pe_op op_add (pe_op op_mul (pe_ix (r := rIxL K) ix_list (pv 0) pe_int (fun _ _ => rfl)) pe_int) (pv 2)) pe_int) pa_nil)) pe_int) (pg_sub (pv 0) pe_int set_list))
       (pss_one (ps_if (pt_cmpR op_ge (pe_callB call_abs (by rfl) T.z_abs (by decide +kernel) (pa_cons (pv 2) pa_nil)) (pe_op op_pow pe_int pe_int) (nomark _)) 
        (pss_one (ps_asg (pe_op op_mod (pe_callTy call_int1 (by rfl) T.z_int (by decide +kernel) (pa_cons (pe_callB call_abs (by rfl) T.z_abs (by decide +kernel) (pa_cons (pv 2) pa_nil)) pa_nil)) (pe_op op_shl pe_int pe_int)) (pg_sub (pv 0) pe_int set_list))) pss_nil))))) pss_nil)
      (pss_cons (ps_if (pt_cmpR op_gt (pe_ix (r := rIxL K) ix_list (pv 0) pe_int (fun _ _ => rfl)) pe_int (nomark _)) 
       (pss_cons (ps_set (i := 3) sc__law_digit.nd rfl (Or.inl rfl) (pe_op op_mod (pe_callTy call_int1 (by rfl) T.z_int (by decide +kernel) (pa_cons (pe_ix (r := rIxL K) ix_list (pv 0) pe_int (fun _ _ => rfl)) pa_nil)) (pv 1)))
       (pss_cons (ps_asg (pe_op op_fdiv (pe_ix (r := rIxL K) ix_list (pv 0) pe_int (fun _ _ => rfl)) (pv 1)) (pg_sub (pv 0) pe_int set_list))
       (pss_one (ps_ret (pv 3))))) pss_nil)
      (pss_cons (ps_if (pt_not (pt_truth (pe_ix (r := rIxL K) ix_list (pv 0) pe_int (fun _ _ => rfl)) (by intro _; rfl))) 
       (pss_one (ps_ret pe_int)) pss_nil)
      (pss_cons (ps_set (i := 4) sc__law_digit.nd rfl (Or.inl rfl) (pe_op op_mod (pe_callTy call_int1 (by rfl) T.z_int (by decide +kernel) (pa_cons (pe_op op_add (pe_op op_mul (pe_op op_add (pe_ix (r := rIxL K) ix_list (pv 0) pe_int (fun _ _ => rfl)) pe_int) pe_int) (pe_op op_mul (pe_ix (r := rIxL K) ix_list (pv 0) pe_int (fun _ _ => rfl)) pe_int)) pa_nil)) pe_int))
      (pss_cons (ps_set (i := 4) sc__law_digit.nd rfl (Or.inl rfl) (pe_op op_mod (pe_callTy call_int1 (by rfl) T.z_int (by decide +kernel) (pa_cons (pe_op op_mul (pv 4) (pe_op op_add (pv 4) (pe_ix (r := rIxL K) ix_list (pv 0) pe_int (fun _ _ => rfl)))) pa_nil)) pe_int))
      (pss_one (ps_ret (pe_op op_mod (pe_callTy call_int1 (by rfl) T.z_int (by decide +kernel) (pa_cons (pe_op op_fdiv (pv 4) pe_int) pa_nil)) (pv 1)))))))))), ?_⟩
    refine seq_nxD (fun σ' H1 => σ' = [some (.ref d), some (.int m), none, none, none] ∧ H1 d = some (.lst [.ref c, .int at_, .int rest, .int st, .int (n + 1), x5, x6, x7, x8, x9]) ∧ H1 c = some (.lst (ns.map V.int)) ∧ ∃ zs, H1 = upd H d (.lst zs)) ?_ (fun nx' hx => ?_)
    · rintro _ H1 ⟨rfl, hd1, hc1, zs, e1⟩
      have q1 : ∀ (k : Int) (xs : List V), 0 ≤ k → k < m → Drw (upd H1 d (.lst xs)) d c → Q (.int k) (upd H1 d (.lst xs)) := fun k xs k0 k1 D => by
        rw [e1, upd_upd] at D ⊢
        exact q k xs k0 k1 D
      refine seq_nxD (fun σ' H2 => ∃ v2 a' r' s', σ' = [some (.ref d), some (.int m), v2, none, none] ∧ H2 d = some (.lst [.ref c, .int a', .int r', .int s', .int (n + 1), x5, x6, x7, x8, x9]) ∧ H2 c = some (.lst (ns.map V.int)) ∧ (∃ zs, H2 = upd H d (.lst zs)) ∧ 0 ≤ a' ∧ 0 ≤ r' ∧ 0 ≤ s' ∧ s' < 2147483647) ?_ (fun nx' hx => ?_)
      · rintro _ H2 ⟨v2, a', r', s', rfl, hd2, hc2, ⟨zs, e2⟩, b1, b2, b3, b4⟩
        have D2 : Drw H2 d c := ⟨⟨a', r', s', n + 1, (x5, x6, x7, x8, x9), hd2, b1, b2, b3, b4, by omega⟩, ncd, ns, hc2⟩
        have q2 : ∀ k : Int, 0 ≤ k → k < m → Q (.int k) H2 := fun k k0 k1 => by
          have D3 := D2
          rw [e2] at D3 ⊢
          exact q k zs k0 k1 D3
        have hD : CDiv r' m := ⟨by omega, m2⟩
        walk_at "rd"
        refine ite2 (fun h2 => ?_) (fun h2 => ?_)
        · have h2 : 0 < r' := of_decide_eq_true h2
          walk_at "rd"
          refine (show ∀ (xs : List V), Drw (upd H2 d (.lst xs)) d c → Q (.int (r' % m)) (upd H2 d (.lst xs)) from fun xs D => ?_) _ ⟨⟨a', r' / m, s', n + 1, (x5, x6, x7, x8, x9), upd_same, b1, Int.ediv_nonneg b2 (by omega), b3, b4, by omega⟩, ncd, ns, by rw [upd_ne ncd]; exact hc2⟩
          rw [e2, upd_upd] at D ⊢
          exact q _ xs (Int.emod_nonneg _ (by omega)) (Int.emod_lt_of_pos _ hm0) D
        · walk_at "rd"
          refine ⟨!(ns.map V.int).isEmpty, .inl ⟨_, sl_of hc2, rfl⟩, ?_⟩
          refine ite2 (fun h3 => ?_) (fun h3 => ?_)
          · walk_at "rd"
            exact q2 0 (by omega) (by omega)
          · walk_at "rd"
            exact q2 _ (Int.emod_nonneg _ (by omega)) (Int.emod_lt_of_pos _ hm0)
      · walk_at "rd"
        refine ite2 (fun h1 => ?_) (fun h1 => ?_)
        · have e0 : rest = 0 := by have := of_decide_eq_true h1; cases this; rfl
          subst e0
          walk_at "rd"
          refine ite2 (fun h2 => ?_) (fun h2 => ?_)
          · have h2 : at_ < ((ns.map V.int).length : Int) := of_decide_eq_true h2
            rw [List.length_map] at h2
            have hj : at_.toNat < ns.length := by omega
            walk_at "rd"
            refine r_ixL (v := V.int ns[at_.toNat]) (sl_of hc1) (atI_lt (j := at_.toNat) (by omega) (by rw [List.getElem?_map, List.getElem?_eq_getElem hj]; rfl)) ?_
            walk_at "rd"
            refine ite2 (fun h3 => ?_) (fun h3 => ?_)
            · walk_at "rd"
              rw [upd_upd, upd_upd]
              refine hx _ _ ⟨_, at_ + 1, _, _, rfl, upd_same, by rw [upd_ne ncd]; exact hc1, ⟨_, by rw [e1, upd_upd]⟩, by omega, Int.emod_nonneg _ (Int.ne_of_gt (pow2_pos (Int.toNat 900))), Int.emod_nonneg _ (by decide), Int.emod_lt_of_pos _ (by decide)⟩
            · walk_at "rd"
              rw [upd_upd]
              refine hx _ _ ⟨_, at_ + 1, 0, _, rfl, upd_same, by rw [upd_ne ncd]; exact hc1, ⟨_, by rw [e1, upd_upd]⟩, by omega, by omega, Int.emod_nonneg _ (by decide), Int.emod_lt_of_pos _ (by decide)⟩
          · walk_at "rd"
            exact hx _ _ ⟨_, at_, 0, st, rfl, hd1, hc1, ⟨zs, e1⟩, a0, r0, s0, s1⟩
        · walk_at "rd"
          exact hx _ _ ⟨_, at_, rest, st, rfl, hd1, hc1, ⟨zs, e1⟩, a0, r0, s0, s1⟩
    · walk_at "rd"
      exact hx _ _ ⟨rfl, upd_same, by rw [upd_ne ncd]; exact hc, _, rfl⟩
end
end Zn
/-! more readings: texts, while, chains -/
namespace Zn
open PySem PySem.Spec PyProof.Rows L2 TL
section
variable {σ : L2.St} {H : Hp} {K : PySem.W.Frag} {Q : VK} {ta tb te tc : TE} {t u c : TT} {D : Ends} {t1 t2 : TS} {g : TG} {i : Nat} {v x y : V} {r r' : R2} {tr : TA}
theorem r_chain (q : ta σ H fun x H1 => tb σ H1 fun y H2 => r x y H2 fun z H3 => ∃ k, z = .bl k ∧
    (if k = true then tc σ H3 fun v H4 => r' y v H4 Q else Q (.bl false) H3)) : tChain r r' ta tb tc σ H Q := q
theorem r_ss {a b : Str} {R : Str → Str → Prop} (q : R a b) : ∃ i j, V.str a = V.str i ∧ V.str b = V.str j ∧ R i j := ⟨a, b, rfl, rfl, q⟩
theorem r_sign {c : Nat} {z : Str} {R : Nat → Str → Prop} (q : R c z) : ∃ (d : Nat) (y : Str), V.str ⟨#[c]⟩ = V.str ⟨#[d]⟩ ∧ V.str z = V.str y ∧ R d y := ⟨c, z, rfl, rfl, q⟩
theorem r_ixS {z : Str} {i : Int} {c : Nat} (h : z.length ≤ sizeLine) (e : atI z.cps.toList i = some c) (q : Q (.str ⟨#[c]⟩) H) : rIxS (.str z) (.int i) H Q := ⟨z, i, c, rfl, rfl, h, e, q⟩
theorem r_slS {z : Str} {lo hi : Option Int} (h : z.length ≤ sizeLine) (q : Q (.str (cutS z lo hi)) H) : rSlS (.str z) lo hi H Q := ⟨z, rfl, h, q⟩
theorem r_lenS {z : Str} {R : Str → Prop} (q : R z) : ∃ y, [V.str z] = [V.str y] ∧ R y := ⟨z, rfl, q⟩
theorem r_istr {R : It → Hp → Prop} (q : te σ H fun v H1 => ∃ x, v = .str x ∧ R (Its x) H1) : iStr te σ H R := q
theorem r_1s {z : Str} {R : Str → Prop} (q : R z) : ∃ y, V.str z = V.str y ∧ R y := ⟨z, rfl, q⟩
theorem r_62 {j : Int} {R : Prop} (h1 : -(2 ^ 62) ≤ j) (h2 : j < 2 ^ 62) (q : R) : -(2 ^ 62) ≤ j ∧ j < 2 ^ 62 ∧ R := ⟨h1, h2, q⟩
theorem r_M1 {f : V → List V → Hp → VK → Prop} (q : ta σ H fun x H1 => (∃ a, x = .str a) ∧ tb σ H1 fun y H2 => f x [y] H2 Q) : tM1 f ta tb σ H Q := q
theorem r_exS {z : Str} {R : Prop} (q : R) : (∃ a, V.str z = V.str a) ∧ R := ⟨⟨z, rfl⟩, q⟩
theorem r_s1 {a b : Str} {R : Str → Str → Prop} (q : R a b) : ∃ i j, V.str a = V.str i ∧ [V.str b] = [V.str j] ∧ R i j := ⟨a, b, rfl, rfl, q⟩
theorem r_truL {p : Addr} {xs : List V} {R : Bool → Prop} (h : H p = some (.lst xs)) (q : R (!xs.isEmpty)) : ∃ k, TruV K (.ref p) H k ∧ R k := ⟨_, .inl ⟨xs, .inl (.inl h), rfl⟩, q⟩
theorem r_truT {p : Addr} {xs : List V} {R : Bool → Prop} (h : H p = some (.tup xs)) (q : R (!xs.isEmpty)) : ∃ k, TruV K (.ref p) H k ∧ R k := ⟨_, .inr (.inl ⟨xs, .inl (.inl h), rfl⟩), q⟩
theorem r_truI {i : Int} {R : Bool → Prop} (q : R (i != 0)) : ∃ k, TruV K (.int i) H k ∧ R k := ⟨_, rfl, q⟩
theorem seq_same (h2 : t2 D σ H) (h1 : ∀ nx' : L2.St → Hp → Prop, nx' σ H → t1 { D with nx := nx' } σ H) : tSeq t1 t2 D σ H := h1 (t2 D) h2
theorem ne_nil {xs : List V} (h : (!xs.isEmpty) = true) : xs ≠ [] := by
  intro e
  subst e
  cases h
theorem r_lz {n : Nat} {R : Prop} (h : n ≤ sizeLine) (q : R) : n ≤ sizeLine ∧ R := ⟨h, q⟩
theorem r_inY {p : Addr} {xs : List V} (h : SqL K H p xs ∨ SqT K H p xs) (e1 : flatV x = true) (e2 : xs.all flatV = true) (q : Q (.bl (inV x xs)) H) : rIn K false x (.ref p) H Q := ⟨p, xs, rfl, h, e1, e2, q⟩
theorem r_inN {p : Addr} {xs : List V} (h : SqL K H p xs ∨ SqT K H p xs) (e1 : flatV x = true) (e2 : xs.all flatV = true) (q : Q (.bl (!inV x xs)) H) : rIn K true x (.ref p) H Q := ⟨p, xs, rfl, h, e1, e2, q⟩
theorem r_while (q : ∃ Z : Nat → L2.St → Hp → Prop, (∃ m, Z m σ H) ∧ ∀ m σ H, Z m σ H → t σ H fun b H1 =>
    if b = true then ∃ Y : L2.St → Hp → Prop, (∀ σ' H', Y σ' H' → ∃ m', m' < m ∧ Z m' σ' H') ∧ t1 { D with nx := Y, ct := Y, bk := D.nx } σ H1
    else D.nx σ H1) : tWhile t t1 D σ H := q
theorem Same.mut {H H' : Hp} {g : Addr} {o : HO} (s : Same H H') (hg : H g = none) : Same H (upd H' g o) := fun b x e => by
  rw [upd_ne (ne_of_none e hg)]
  exact s _ _ e
theorem keep_new {d : Addr} {H H1 : Hp} {p : Addr} {o : HO} (s : Keep d H H1) (h : H1 p = none) : Keep d H (upd H1 p o) := s.trans (Same.keep (same_new h))
theorem Keep.free {d : Addr} {H H1 : Hp} {p : Addr} (s : Keep d H H1) (n : p ≠ d) (h : H1 p = none) : H p = none := by
  cases e : H p with
  | none => rfl
  | some x =>
    have := s _ _ n e
    rw [h] at this
    cases this
theorem Keep.mut {d : Addr} {H H1 : Hp} {p : Addr} {o : HO} (s : Keep d H H1) (h : H p = none) : Keep d H (upd H1 p o) := fun b x n e => by
  rw [upd_ne (ne_of_none e h)]
  exact s _ _ n e
theorem map_get {ns : List Int} {i : Nat} {x : V} (hi : (ns.map V.int)[i]? = some x) : ∃ u, x = V.int u ∧ ns[i]? = some u := by
  rw [List.getElem?_map] at hi
  cases e : ns[i]? with
  | none => rw [e] at hi; cases hi
  | some u => rw [e] at hi; exact ⟨u, (Option.some.inj hi).symm, rfl⟩
theorem small {w : Int} (h1 : 1 ≤ w) (h8 : w ≤ 8) : (2 : Int) ^ w.toNat ≤ 256 := by
  have : w = 1 ∨ w = 2 ∨ w = 3 ∨ w = 4 ∨ w = 5 ∨ w = 6 ∨ w = 7 ∨ w = 8 := by omega
  rcases this with h | h | h | h | h | h | h | h <;> subst h <;> decide
/-- the parts of a text -/
theorem tl_cut {z : Str} {a b : Int} (h0 : 0 ≤ a) (h1 : 0 ≤ b) : tl (cutS z (some a) (some b)) = ((tl z).drop a.toNat).take (b.toNat - a.toNat) := by
  show ((tl z).drop (HT.sIx z.length 0 (some a))).take (HT.sIx z.length z.length (some b) - HT.sIx z.length 0 (some a)) = _
  obtain ⟨n, rfl⟩ := Int.eq_ofNat_of_zero_le h0
  obtain ⟨m, rfl⟩ := Int.eq_ofNat_of_zero_le h1
  rw [HT.sIx_nat, HT.sIx_nat, len_tl, Int.toNat_natCast, Int.toNat_natCast]
  by_cases h : n ≤ (tl z).length
  · rw [Nat.min_eq_left h]
    by_cases h2 : m ≤ (tl z).length
    · rw [Nat.min_eq_left h2]
    · rw [Nat.min_eq_right (by omega), List.take_of_length_le (by rw [List.length_drop]; omega), List.take_of_length_le (by rw [List.length_drop]; omega)]
  · rw [List.drop_of_length_le (by omega), List.drop_of_length_le (by omega), List.take_nil, List.take_nil]
theorem tl_cut_to {z : Str} {b : Int} (h1 : 0 ≤ b) : tl (cutS z none (some b)) = (tl z).take b.toNat := by
  have := tl_cut (z := z) (Int.le_refl 0) h1
  show ((tl z).drop (HT.sIx z.length 0 none)).take (HT.sIx z.length z.length (some b) - HT.sIx z.length 0 none) = _
  have e : HT.sIx z.length 0 (some 0) = 0 := HT.sIx_nat _ _ 0 |>.trans (by simp)
  have e2 : HT.sIx z.length 0 none = 0 := rfl
  rw [e2, ← e]
  exact this
end
end Zn
/-! trees of tuples; heaps that keep all but some lists -/
namespace Zn
open PySem PySem.Spec PyProof.Rows L2 TL
theorem at0 {a : V} {l : List V} : atI (a :: l) 0 = some a := atI_nat (j := 0) rfl
theorem at1 {a b : V} {l : List V} : atI (a :: b :: l) 1 = some b := atI_nat (j := 1) rfl
theorem at2 {a b c : V} {l : List V} : atI (a :: b :: c :: l) 2 = some c := atI_nat (j := 2) rfl
theorem at3 {a b c d : V} {l : List V} : atI (a :: b :: c :: d :: l) 3 = some d := atI_nat (j := 3) rfl
theorem at4 {a b c d e : V} {l : List V} : atI (a :: b :: c :: d :: e :: l) 4 = some e := atI_nat (j := 4) rfl
/-- signs that a text can have -/
def okB (z : Str) : Bool := (tl z).all (decide <| · < 1114112)
theorem strOk_of {t : Str} (h : okB t = true) : PyData.strOk t = true := by
  unfold PyData.strOk
  rw [← Array.all_toList]
  exact h
/-- what stands is kept, but in the lists of S -/
structure Kp (S : List Addr) (H H' : Hp) : Prop where
  x : ∀ b o, b ∉ S → H b = some o → H' b = some o
  t : ∀ b xs, H b = some (.tup xs) → H' b = some (.tup xs)
theorem Kp.refl (S : List Addr) (H : Hp) : Kp S H H := ⟨fun _ _ _ h => h, fun _ _ h => h⟩
theorem Kp.trans {S : List Addr} {H H1 H2 : Hp} (a : Kp S H H1) (b : Kp S H1 H2) : Kp S H H2 := ⟨fun c o n h => b.x c o n (a.x c o n h), fun c o h => b.t c o (a.t c o h)⟩
theorem Kp.mono {S S' : List Addr} {H H1 : Hp} (a : Kp S H H1) (h : ∀ b ∈ S, b ∈ S') : Kp S' H H1 := ⟨fun c o n e => a.x c o (fun m => n (h c m)) e, a.t⟩
theorem Kp.same {S : List Addr} {H H1 : Hp} (s : Same H H1) : Kp S H H1 := ⟨fun c o _ e => s _ _ e, fun c o e => s _ _ e⟩
theorem Kp.new {S : List Addr} {H H1 : Hp} {p : Addr} {o : HO} (a : Kp S H H1) (h : H1 p = none) : Kp S H (upd H1 p o) := a.trans (.same (same_new h))
theorem Kp.set {S : List Addr} {H H1 : Hp} {p : Addr} {l : List V} {o : HO} (a : Kp S H H1) (m : p ∈ S) (h : H1 p = some (.lst l)) : Kp S H (upd H1 p o) :=
  a.trans ⟨fun c x n e => by rw [upd_ne (fun (k : c = p) => n (k ▸ m))]; exact e, fun c x e => by rw [upd_ne (ne_of e h (by intro z; cases z))]; exact e⟩
theorem Kp.free {S : List Addr} {H H1 : Hp} {p : Addr} (a : Kp S H H1) (n : p ∉ S) (h : H1 p = none) : H p = none := by
  cases e : H p with
  | none => rfl
  | some x =>
    have := a.x _ _ n e
    rw [h] at this
    cases this
/-- a list that was made behind H -/
theorem Kp.mut {S : List Addr} {H H1 : Hp} {p : Addr} {l : List V} {o : HO} (a : Kp S H H1) (h0 : H p = none) (h : H1 p = some (.lst l)) : Kp S H (upd H1 p o) :=
  ⟨fun c x n e => by rw [upd_ne (ne_of_none e h0)]; exact a.x _ _ n e, fun c x e => by rw [upd_ne (ne_of (a.t _ _ e) h (by intro z; cases z))]; exact a.t _ _ e⟩
theorem Kp.seq {S : List Addr} {K : PySem.W.Frag} {H H1 : Hp} {p : Addr} {l : List V} (a : Kp S H H1) (n : p ∉ S) (h : SqL K H p l) : SqL K H1 p l := by
  rcases h with (h | ⟨o, h⟩) | h
  · exact .inl (.inl (a.x _ _ n h))
  · exact .inl (.inr ⟨o, a.x _ _ n h⟩)
  · exact .inr h
theorem Kp.drw {H : Hp} {d c : Addr} {zs : List V} {S : List Addr} (D : Drw H d c) (m : d ∈ S) : Kp S H (upd H d (.lst zs)) := by
  obtain ⟨l, h⟩ := D.get
  exact (Kp.refl S H).set m h
/-- what is no reference -/
def Atom : V → Prop
  | .non => True
  | .bl _ => True
  | .int _ => True
  | .str s => okB s = true
  | _ => False
/-- a tree of tuples, at most n deep -/
def Tree : Nat → Hp → V → Prop
  | 0, _, v => Atom v
  | n + 1, H, v => Atom v ∨ ∃ p xs, v = .ref p ∧ H p = some (.tup xs) ∧ ∀ x ∈ xs, Tree n H x
theorem Tree.atom {v : V} {H : Hp} (h : Atom v) : ∀ n, Tree n H v
  | 0 => h
  | _ + 1 => .inl h
theorem Tree.up : ∀ {n : Nat} {H : Hp} {v : V}, Tree n H v → Tree (n + 1) H v
  | 0, _, _, h => .inl h
  | _ + 1, _, _, h => by
    rcases h with h | ⟨p, xs, e, hp, hx⟩
    · exact .inl h
    · exact .inr ⟨p, xs, e, hp, fun x m => (hx x m).up⟩
theorem Tree.le {n m : Nat} {H : Hp} {v : V} (h : Tree n H v) (hm : n ≤ m) : Tree m H v := by
  induction hm with
  | refl => exact h
  | step _ ih => exact ih.up
theorem Tree.kp : ∀ {n : Nat} {S : List Addr} {H H' : Hp} {v : V}, Tree n H v → Kp S H H' → Tree n H' v
  | 0, _, _, _, _, h, _ => h
  | _ + 1, _, _, _, _, h, k => by
    rcases h with h | ⟨p, xs, e, hp, hx⟩
    · exact .inl h
    · exact .inr ⟨p, xs, e, k.t _ _ hp, fun x m => (hx x m).kp k⟩
theorem Tree.mk {n : Nat} {H : Hp} {p : Addr} {xs : List V} (hp : H p = some (.tup xs)) (h : ∀ x ∈ xs, Tree n H x) : Tree (n + 1) H (.ref p) := .inr ⟨p, xs, rfl, hp, h⟩
theorem Tree.tup {n : Nat} {H : Hp} {p : Addr} {xs : List V} (hp : H p = none) (h : ∀ x ∈ xs, Tree n H x) : Tree (n + 1) (upd H p (.tup xs)) (.ref p) :=
  .mk upd_same fun x m => (h x m).kp (.same (S := []) (same_new hp))
theorem Tree.str {s : Str} {H : Hp} {n : Nat} (h : okB s = true) : Tree n H (.str s) := .atom (v := .str s) h n
theorem Tree.int {i : Int} {H : Hp} {n : Nat} : Tree n H (.int i) := .atom (v := .int i) trivial n
theorem Tree.non {H : Hp} {n : Nat} : Tree n H .non := .atom (v := .non) trivial n
theorem all_cons {α : Type} {P : α → Prop} {x : α} {xs : List α} (h : P x) (hs : ∀ y ∈ xs, P y) : ∀ y ∈ x :: xs, P y := fun y m => by
  rcases List.mem_cons.mp m with rfl | m
  · exact h
  · exact hs y m
theorem all_nil {α : Type} {P : α → Prop} : ∀ y ∈ ([] : List α), P y := fun _ m => by cases m
/-- the tree as a value -/
theorem Tree.dp {K : PySem.W.Frag} : ∀ {n : Nat} {H : Hp} {v : V}, Tree n H v → ∃ D : PyData, Dp K H v D ∧ D.canLay0 = true ∧ D.depth ≤ n := by
  have at_ : ∀ {v : V} {H : Hp}, Atom v → ∃ D : PyData, Dp K H v D ∧ D.canLay0 = true ∧ D.depth ≤ 0 := fun {v H} h => by
    cases v with
    | non => exact ⟨.none, .non, rfl, by simp [PyData.depth]⟩
    | bl b => exact ⟨.bool b, .bl b, rfl, by simp [PyData.depth]⟩
    | int i => exact ⟨.int i, .int i, rfl, by simp [PyData.depth]⟩
    | str s => exact ⟨.str s, .str s, by simp [PyData.canLay0, strOk_of h], by simp [PyData.depth]⟩
    | _ => exact h.elim
  intro n
  induction n with
  | zero => exact fun h => at_ h
  | succ n ih =>
    intro H v h
    rcases h with h | ⟨p, xs, rfl, hp, hx⟩
    · obtain ⟨D, h1, h2, h3⟩ := at_ (H := H) h
      exact ⟨D, h1, h2, by omega⟩
    · have : ∃ ds : List PyData, DpAll K H xs ds ∧ PyData.canLayAll0 ds = true ∧ PyData.depthAll ds ≤ n := by
        clear hp
        induction xs with
        | nil => exact ⟨[], .nil, by simp [PyData.canLayAll0], by simp [PyData.depthAll]⟩
        | cons x xs ihx =>
          obtain ⟨ds, h1, h2, h3⟩ := ihx fun y m => hx y (List.mem_cons_of_mem _ m)
          obtain ⟨e, g1, g2, g3⟩ := ih (hx x List.mem_cons_self)
          exact ⟨e :: ds, .cons g1 h1, by simp [PyData.canLayAll0, g2, h2], by simp only [PyData.depthAll]; omega⟩
      obtain ⟨ds, h1, h2, h3⟩ := this
      exact ⟨.tuple ds, .tup (.inl (.inl hp)) h1, by simp [PyData.canLay0, h2], by simp only [PyData.depth]; omega⟩
end Zn
/-! more rules: any of ints, zip of tuples -/
namespace Zn
open PySem PySem.Spec PyProof.Rows L2 TL
section
variable {X : Cx}
def rAnyI (K : PySem.W.Frag) : List V → Hp → VK → Prop := fun vs H Q => ∃ (a : Addr) (ns : List Int), vs = [V.ref a] ∧ SqL K H a (ns.map V.int) ∧ Q (.bl (ns.any (· != 0))) H
theorem truth_ints {prog : Program} {w : World} {A : Around} {ns : List Int} {its : List Value} (e : IntsAre its ns) :
    TruthOf prog w A (fun i v => its.toArray[i]? = some v) (fun i => ns.getD i 0 != 0) := fun i v s Q E hv hq => by
  have hv' : its[i]? = some v := by simpa using hv
  have hi : i < ns.length := by
    have h1 := (vals_of_ints e).length
    rw [List.length_map] at h1
    rw [h1]
    exact (List.getElem?_eq_some_iff.mp hv').1
  obtain ⟨t, ht⟩ := e.get i ns[i] (List.getElem?_eq_getElem hi)
  rw [ht] at hv'
  cases hv'
  have hg : ns.getD i 0 = ns[i] := by rw [List.getD_eq_getElem?_getD, List.getElem?_eq_getElem hi] <;> rfl
  have hq' : Q (ns.getD i 0 != 0) s := hq
  rw [hg] at hq'
  exact PyProof.Rows.truthy_int hq'
theorem any_rangeI : ∀ ns : List Int, (List.range ns.length).any (fun i => ns.getD i 0 != 0) = ns.any (· != 0)
  | [] => rfl
  | b :: bs => by
    rw [List.length_cons, List.range_succ_eq_map, List.any_cons, List.any_map, List.any_cons, ← any_rangeI bs]
    all_goals rfl
theorem cr_anyI (hc : X.calm = true) : CallR X (.builtin "any") (rAnyI X.K) := by
  intro pins s σ H vs us Q I r h
  obtain ⟨a, ns, rfl, hs, q⟩ := h
  obtain ⟨its, rv, hl, _⟩ := I.list hs
  rw [Vals.ref1 r]
  have hb := rv.ints
  have hlen : its.length = ns.length := by
    have h1 := rv.length
    rw [List.length_map] at h1
    exact h1.symm
  refine call_any_walk (iter_any hl.isList fun s₂ e2 st hne => ?_)
  subst e2
  refine ⟨_, _, _, _, _, _, _, rfl, Walks.list (A := X.A.in1) (I.ok.hd hc) _ a hne its.toArray, st, truth_ints hb, fun h' tk hk => ?_⟩
  refine ⟨.bl _, H, I.kept fun b o eo => hk b o (fun hmem => ?_) (Heap.get?_push_of_some _ eo), ?_, q⟩
  · rcases List.mem_cons.mp hmem with e1 | hmem
    · exact absurd (e1 ▸ Heap.lt_size eo) (Nat.lt_irrefl _)
    · cases hmem
  · show Value.bool _ = Value.bool _
    rw [← any_rangeI, List.size_toArray, hlen]
end
theorem walk_zipT {K : PySem.W.Frag} {a b : Addr} {xs ys : List V} {n : Nat} (hn : n = min xs.length ys.length) : Walk (RZ.ItzT K a b) n (fun H => SqT K H a xs ∧ SqT K H b ys) (YPair (fun i => xs[i]?) (fun i => ys[i]?)) := by
  subst hn
  refine ⟨fun i _ hi q => ?_, fun _ q => ⟨xs, ys, q.1, q.2, by omega⟩, fun i H v H' _ q y => ?_⟩
  · have h1 : i < xs.length := by omega
    have h2 : i < ys.length := by omega
    exact ⟨xs, ys, xs[i], ys[i], q.1, q.2, by simp [h1], by simp [h2]⟩
  · obtain ⟨T, x, z, h1, h2, h3, h4, h5⟩ := y
    exact ⟨T, x, z, h1, h2, h3, h4 xs q.1, h5 ys q.2⟩
/-- tuples stand still -/
def Tp (H H' : Hp) : Prop := ∀ b xs, H b = some (.tup xs) → H' b = some (.tup xs)
theorem Same.tp {H H' : Hp} (s : Same H H') : Tp H H' := fun b xs h => s _ _ h
theorem Kp.tp {S : List Addr} {H H' : Hp} (s : Kp S H H') : Tp H H' := s.t
theorem Tp.refl (H : Hp) : Tp H H := fun _ _ h => h
theorem Tp.trans {H H1 H2 : Hp} (a : Tp H H1) (b : Tp H1 H2) : Tp H H2 := fun c x h => b c x (a c x h)
theorem Tp.set {H : Hp} {p : Addr} {l : List V} {o : HO} (h : H p = some (.lst l)) : Tp H (upd H p o) := fun c x e => by
  rw [upd_ne (ne_of e h (by intro z; cases z))]
  exact e
theorem getL {α : Type} {xs : List α} {i : Nat} {x : α} (h : xs[i]? = some x) : i < xs.length := (List.getElem?_eq_some_iff.mp h).1
theorem get_map {α β : Type} {f : α → β} {xs : List α} {i : Nat} {y : β} (h : (xs.map f)[i]? = some y) : ∃ x, xs[i]? = some x ∧ f x = y := by
  rw [List.getElem?_map] at h
  cases e : xs[i]? with
  | none => rw [e] at h; cases h
  | some u => rw [e] at h; exact ⟨u, rfl, Option.some.inj h⟩
theorem take_snoc {α : Type} {xs : List α} {i : Nat} {x : α} (h : xs[i]? = some x) : xs.take (i + 1) = xs.take i ++ [x] := by
  rw [List.take_add_one, h]
  rfl
theorem lt_line {n : Nat} (h : n < 100000) : n < sizeLine := Nat.lt_of_lt_of_le h (by decide)
/-- a comprehension whose list is known ahead: only new things are made in its turns -/
theorem lcM {J : It} {n : Nat} {G : Hp → Prop} {Y : Nat → Hp → V → Hp → Prop} (w : Walk J n G Y) (out : List V) {g : TG} {tt : TT} {te : TE} {vs : List Nat} {σ : L2.St} {H1 : Hp} {C : Addr} {Qd : Hp → Prop}
    (hn : out.length = n) (hz : n < 100000) (hC : H1 C = none) (hG : ∀ H', Same H1 H' → G H')
    (hs : ∀ i x H' H'', i < n → Same H1 H' → Y i H' x H'' → (∀ y H4, out[i]? = some y → Same H' H4 → ∃ acc, H4 C = some (.lst acc) ∧ acc.length < sizeLine ∧ (Same H1 (upd H4 C (.lst (acc ++ [y]))) ∧ upd H4 C (.lst (acc ++ [y])) C = some (.lst (out.take (i + 1))))) →
      g x (wipe σ vs) H'' fun σ2 H2 => wipe σ2 vs = wipe σ vs ∧ tt σ2 H2 fun b H3 =>
      if b = true then te σ2 H3 fun y H4 => ∃ acc, H4 C = some (.lst acc) ∧ acc.length < sizeLine ∧ (Same H1 (upd H4 C (.lst (acc ++ [y]))) ∧ upd H4 C (.lst (acc ++ [y])) C = some (.lst (out.take (i + 1)))) else (Same H1 H3 ∧ H3 C = some (.lst (out.take (i + 1)))))
    (hd : ∀ H', Same H1 H' → H' C = some (.lst out) → Qd H') :
    ∃ W : Nat → Nat → Hp → Prop, (∃ m, W 0 m (upd H1 C (.lst []))) ∧ ∀ i m H, W i m H →
      (J.stop i H ∧ Qd H) ∨ (J.go i H ∧ ∃ Nx : Hp → Prop, (∀ H', Nx H' → ∃ m', m' < m ∧ W (i + 1) m' H') ∧ ∀ x H', J.yld i H x H' → g x (wipe σ vs) H' fun σ2 H2 => wipe σ2 vs = wipe σ vs ∧ tt σ2 H2 fun b H3 =>
        if b = true then te σ2 H3 fun y H4 => ∃ acc, H4 C = some (.lst acc) ∧ acc.length < sizeLine ∧ Nx (upd H4 C (.lst (acc ++ [y]))) else Nx H3) := by
  refine lc_it w (fun i H' => Same H1 H' ∧ H' C = some (.lst (out.take i))) ⟨same_new hC, upd_same⟩ (fun i H' _ h => hG H' h.1) (fun i x H' H'' hi h hy => ?_) (fun H' h => hd H' h.1 ?_)
  · refine hs i x H' H'' hi h.1 hy fun y H4 e s => ⟨out.take i, s _ _ h.2, ?_, Zn.Same.mut (h.1.trans s) hC, ?_⟩
    · rw [List.length_take]
      exact lt_line (by omega)
    · rw [upd_same, take_snoc e]
  · rw [h.2, List.take_of_length_le (by omega)]
theorem r_zip {K : PySem.W.Frag} {ta : TA} {σ : L2.St} {H : Hp} {R : It → Hp → Prop} (q : ta σ H fun vs H1 => ∃ a b xs ys, vs = [.ref a, .ref b] ∧ ((SqL K H1 a xs ∧ SqL K H1 b ys ∧ R (Itz K a b) H1) ∨ (SqT K H1 a xs ∧ SqT K H1 b ys ∧ R (RZ.ItzT K a b) H1))) : RZ.iZipA K ta σ H R := q
theorem r_zip2 {K : PySem.W.Frag} {H1 : Hp} {a b : Addr} {xs ys : List V} {R1 R2 : Addr → Addr → Prop} (h1 : SqT K H1 a xs) (h2 : SqT K H1 b ys) (q : R2 a b) :
    ∃ a' b' xs ys, [V.ref a, V.ref b] = [.ref a', .ref b'] ∧ ((SqL K H1 a' xs ∧ SqL K H1 b' ys ∧ R1 a' b') ∨ (SqT K H1 a' xs ∧ SqT K H1 b' ys ∧ R2 a' b')) := ⟨a, b, xs, ys, rfl, .inr ⟨h1, h2, q⟩⟩
theorem r_all {K : PySem.W.Frag} {H : Hp} {Q : VK} {a : Addr} {bs : List Bool} (h : SqL K H a (bs.map V.bl)) (q : Q (.bl (bs.all id)) H) : rAll K [.ref a] H Q := ⟨a, bs, rfl, h, q⟩
theorem r_any {K : PySem.W.Frag} {H : Hp} {Q : VK} {a : Addr} {bs : List Bool} (h : SqL K H a (bs.map V.bl)) (q : Q (.bl (bs.any id)) H) : rAny K [.ref a] H Q := ⟨a, bs, rfl, h, q⟩
theorem r_anyI {K : PySem.W.Frag} {H : Hp} {Q : VK} {a : Addr} {ns : List Int} (h : SqL K H a (ns.map V.int)) (q : Q (.bl (ns.any (· != 0))) H) : rAnyI K [.ref a] H Q := ⟨a, ns, rfl, h, q⟩
theorem r_sum {K : PySem.W.Frag} {H : Hp} {Q : VK} {a : Addr} {ns : List Int} (h : SqL K H a (ns.map V.int)) (q : Q (.int ns.sum) H) : rSum K [.ref a] H Q := ⟨a, ns, rfl, h, q⟩
end Zn
namespace Zn
open PySem PySem.Spec PyProof.Rows L2 TL
theorem r_rep {H : Hp} {Q : VK} {p : Addr} {k : Int} {xs : List V} (h : H p = some (.lst xs)) (h0 : -(2 ^ 63) ≤ k) (h1 : k < 2 ^ 63) (h2 : xs.length * k.toNat ≤ sizeLine) (q : ∀ c, H c = none → Q (.ref c) (upd H c (.lst (List.replicate k.toNat xs).flatten))) : rRep (.ref p) (.int k) H Q := ⟨p, k, xs, rfl, rfl, h, h0, h1, h2, q⟩
theorem rep_one {v : V} (n : Nat) : (List.replicate n [v]).flatten = List.replicate n v := by
  induction n with
  | zero => rfl
  | succ n ih => rw [List.replicate_succ, List.flatten_cons, ih]; rfl
theorem cutV_to {xs : List V} (n : Nat) : cutV xs none (some (n : Int)) = xs.take n := by
  unfold cutV
  rw [HT.sIx_nat]
  show (xs.drop 0).take (min n xs.length - 0) = _
  rw [List.drop_zero, Nat.sub_zero]
  by_cases h : n ≤ xs.length
  · rw [Nat.min_eq_left h]
  · rw [Nat.min_eq_right (by omega), List.take_of_length_le (Nat.le_refl _), List.take_of_length_le (by omega)]
theorem cutV_from {xs : List V} (n : Nat) : cutV xs (some (n : Int)) none = xs.drop n := by
  unfold cutV
  rw [HT.sIx_nat]
  show (xs.drop (min n xs.length)).take (xs.length - min n xs.length) = _
  by_cases h : n ≤ xs.length
  · rw [Nat.min_eq_left h, List.take_of_length_le (by rw [List.length_drop]; omega)]
  · rw [Nat.min_eq_right (by omega), List.drop_of_length_le (Nat.le_refl _), List.drop_of_length_le (by omega), List.take_nil]
theorem ints_at {ns : List Int} {i : Int} {j : Nat} {u : Int} (e : i = (j : Int)) (h : ns[j]? = some u) : atI (ns.map V.int) i = some (.int u) := atI_lt e (by rw [List.getElem?_map, h]; rfl)
theorem getD_at {ns : List Int} {j : Nat} (h : j < ns.length) : ns[j]? = some (ns.getD j 0) := by
  rw [List.getD_eq_getElem?_getD, List.getElem?_eq_getElem h]
  rfl
end Zn
namespace Zn
open PySem PySem.Spec PyProof.Rows L2 TL
/-- a comprehension that draws: R tells of what is made so far -/
theorem lcK {J : It} {n : Nat} {G : Hp → Prop} {Y : Nat → Hp → V → Hp → Prop} (w : Walk J n G Y) (S : List Addr) (R : Hp → List V → Prop) {d c : Addr} {g : TG} {tt : TT} {te : TE} {vs : List Nat} {σ : L2.St} {H1 : Hp} {C : Addr} {Qd : Hp → Prop}
    (hz : n < 100000) (hC : H1 C = none) (hCS : C ∉ S) (hD : Drw H1 d c) (hG : ∀ H', Kp S H1 H' → G H')
    (stab : ∀ H H' xs, Kp (C :: S) H H' → R H xs → R H' xs) (h0 : R (upd H1 C (.lst [])) [])
    (hs : ∀ i x H' H'' xs, i < n → Kp S H1 H' → Drw H' d c → H' C = some (.lst xs) → xs.length = i → R H' xs → Y i H' x H'' → (∀ y H4, Kp S H' H4 → Drw H4 d c → R H4 (xs ++ [y]) → ∃ acc, H4 C = some (.lst acc) ∧ acc.length < sizeLine ∧ (∃ zs, Kp S H1 (upd H4 C (.lst (acc ++ [y]))) ∧ Drw (upd H4 C (.lst (acc ++ [y]))) d c ∧ upd H4 C (.lst (acc ++ [y])) C = some (.lst zs) ∧ zs.length = i + 1 ∧ R (upd H4 C (.lst (acc ++ [y]))) zs)) →
      g x (wipe σ vs) H'' fun σ2 H2 => wipe σ2 vs = wipe σ vs ∧ tt σ2 H2 fun b H3 =>
      if b = true then te σ2 H3 fun y H4 => ∃ acc, H4 C = some (.lst acc) ∧ acc.length < sizeLine ∧ (∃ zs, Kp S H1 (upd H4 C (.lst (acc ++ [y]))) ∧ Drw (upd H4 C (.lst (acc ++ [y]))) d c ∧ upd H4 C (.lst (acc ++ [y])) C = some (.lst zs) ∧ zs.length = i + 1 ∧ R (upd H4 C (.lst (acc ++ [y]))) zs)
      else (∃ zs, Kp S H1 H3 ∧ Drw H3 d c ∧ H3 C = some (.lst zs) ∧ zs.length = i + 1 ∧ R H3 zs))
    (hd : ∀ H' xs, Kp S H1 H' → Drw H' d c → H' C = some (.lst xs) → xs.length = n → R H' xs → Qd H') :
    ∃ W : Nat → Nat → Hp → Prop, (∃ m, W 0 m (upd H1 C (.lst []))) ∧ ∀ i m H, W i m H →
      (J.stop i H ∧ Qd H) ∨ (J.go i H ∧ ∃ Nx : Hp → Prop, (∀ H', Nx H' → ∃ m', m' < m ∧ W (i + 1) m' H') ∧ ∀ x H', J.yld i H x H' → g x (wipe σ vs) H' fun σ2 H2 => wipe σ2 vs = wipe σ vs ∧ tt σ2 H2 fun b H3 =>
        if b = true then te σ2 H3 fun y H4 => ∃ acc, H4 C = some (.lst acc) ∧ acc.length < sizeLine ∧ Nx (upd H4 C (.lst (acc ++ [y]))) else Nx H3) := by
  refine lc_it w (fun i H' => ∃ zs, Kp S H1 H' ∧ Drw H' d c ∧ H' C = some (.lst zs) ∧ zs.length = i ∧ R H' zs) ⟨[], (Kp.refl _ _).new hC, hD.same (same_new hC), upd_same, rfl, h0⟩ (fun i H' _ ⟨_, k, _⟩ => hG H' k) (fun i x H' H'' hi ⟨zs, k, D, hz', hl, r⟩ hy => ?_) (fun H' ⟨zs, k, D, hz', hl, r⟩ => hd H' zs k D hz' hl r)
  refine hs i x H' H'' zs hi k D hz' hl r hy fun y H4 k4 D4 r4 => ?_
  have h4 := k4.x _ _ hCS hz'
  refine ⟨zs, h4, lt_line (by omega), zs ++ [y], (k.trans k4).mut hC h4, D4.upd (hD.nd hC) (hD.nc hC), upd_same, by rw [List.length_append, hl]; rfl, ?_⟩
  exact stab H4 _ _ ((Kp.refl _ _).set List.mem_cons_self h4) r4
theorem notin1 {a d : Addr} (h : a ≠ d) : a ∉ [d] := by simpa using h
theorem notin2 {a d e : Addr} (h : a ≠ d) (k : a ≠ e) : a ∉ [d, e] := by simp [h, k]
theorem small0 {w : Int} (h1 : 0 ≤ w) (h8 : w ≤ 8) : 1 ≤ (2 : Int) ^ w.toNat ∧ (2 : Int) ^ w.toNat ≤ 256 := by
  have : w = 0 ∨ w = 1 ∨ w = 2 ∨ w = 3 ∨ w = 4 ∨ w = 5 ∨ w = 6 ∨ w = 7 ∨ w = 8 := by omega
  rcases this with h | h | h | h | h | h | h | h | h <;> subst h <;> decide
theorem ixN_at {n : Nat} {i : Int} (h0 : 0 ≤ i) (h1 : i < (n : Int)) : ixN n i = some i.toNat := by
  have h1' : i.toNat < n := by omega
  unfold ixN
  simp [h0, h1, h1']
theorem ints_ex {ns : List Int} {i : Int} (h0 : 0 ≤ i) (h1 : i < (ns.length : Int)) : atI (ns.map V.int) i = some (.int (ns.getD i.toNat 0)) := ints_at (j := i.toNat) (by omega) (getD_at (by omega))
theorem getD_mem {ns : List Int} {j : Nat} (h : j < ns.length) : ns.getD j 0 ∈ ns := List.mem_of_getElem? (getD_at h)
end Zn
/-! places within a def's own text, by numbers -/
namespace Zn
open PySem
def exK : Expr → List Expr
  | .BoolOp _ vs _ => vs
  | .BinOp l _ r _ => [l, r]
  | .UnaryOp _ o _ => [o]
  | .IfExp t b o _ => [t, b, o]
  | .ListComp e gs _ _ => e :: gs.flatMap fun g => g.iter :: g.ifs
  | .Compare l _ cs _ => l :: cs
  | .Call f as _ _ => f :: as
  | .Attribute v _ _ => [v]
  | .Subscript v s _ => [v, s]
  | .Starred v _ => [v]
  | .List es _ => es
  | .Tuple es _ _ => es
  | _ => []
def stK : Stmt → List Expr
  | .Return (some v) _ => [v]
  | .Assign ts v _ => v :: ts
  | .AugAssign t _ v _ => [v, t]
  | .For t i _ _ _ => [i, t]
  | .While t _ _ _ => [t]
  | .If t _ _ _ => [t]
  | .Expr v _ => [v]
  | _ => []
def blK : Stmt → List (List Stmt)
  | .For _ _ b _ _ => [b]
  | .While _ b _ _ => [b]
  | .If _ b o _ => [b, o]
  | _ => []
def p0 : Pos := ⟨0, 0, 0, 0⟩
def stA (ss : List Stmt) (i : Nat) : Stmt := ss.getD i (.Pass p0)
def blA (s : Stmt) (i : Nat) : List Stmt := (blK s).getD i []
def exA (s : Stmt) (i : Nat) : Expr := (stK s).getD i (.Name "" p0)
def exP (e : Expr) : List Nat → Expr
  | [] => e
  | i :: is => exP ((exK e).getD i (.Name "" p0)) is
def lcS (d : Scope) : Expr → Scope
  | .ListComp _ _ s _ => s
  | _ => d
end Zn
namespace Zn
open PySem PySem.Spec PyProof.Rows L2
theorem lookup_relabF {f : Str × NameKind → Str × NameKind} (hf : ∀ n k, f (n, k) = (n, .cell) ∨ f (n, k) = (n, k)) : ∀ {names : List (Str × NameKind)} {x : Str}, names.lookup x = some .cell ∨ names.lookup x = some .free → (names.map f).lookup x = some .cell ∨ (names.map f).lookup x = some .free
  | [], _, h => by simp at h
  | (n, k) :: names, x, h => by
    rw [List.map_cons]
    rw [List.lookup_cons] at h
    rcases hf n k with e | e <;> rw [e, List.lookup_cons] <;> cases hx : x == n <;> rw [hx] at h
    · exact lookup_relabF hf h
    · exact .inl rfl
    · exact lookup_relabF hf h
    · exact h
theorem lookup_relab {env : Env} {names : List (Str × NameKind)} {x : Str} (h : names.lookup x = some .cell ∨ names.lookup x = some .free) :
    (names.map fun (n, k) => if (k == NameKind.free && env.scope.kind == .function && env.kindOf n == some .cell) then (n, NameKind.cell) else (n, k)).lookup x = some .cell ∨ (names.map fun (n, k) => if (k == NameKind.free && env.scope.kind == .function && env.kindOf n == some .cell) then (n, NameKind.cell) else (n, k)).lookup x = some .free := by
  refine lookup_relabF (fun n k => ?_) h
  dsimp only
  split
  · exact .inl rfl
  · exact .inr rfl
theorem blk2 {N : List Str} {sc scope : Scope} {own : List (Str × Nat)} {env : Env} (h : BlkOk N sc scope own) : BlkOk N (relabel sc env) scope own :=
  ⟨h.kind, h.uniq, h.ix, fun y hy e => lookup_relab (h.free y hy e), h.own⟩
end Zn
namespace Zn
open PySem PySem.Spec PyProof.Rows L2 TL
theorem r_tupOfL {K : PySem.W.Frag} {H : Hp} {p : Addr} {ys : List V} {R : V → Hp → Prop} (h : SqL K H p ys) (q : ∀ l, H l = none → R (.ref l) (upd H l (.tup ys))) :
    ∃ p' ys', [V.ref p] = [V.ref p'] ∧ ((SqL K H p' ys' ∧ ∀ l, H l = none → R (.ref l) (upd H l (.tup ys'))) ∨ (SqT K H p' ys' ∧ R (.ref p') H)) := ⟨p, ys, rfl, .inl ⟨h, q⟩⟩
theorem r_tupOfT {K : PySem.W.Frag} {H : Hp} {p : Addr} {ys : List V} {R : V → Hp → Prop} (h : SqT K H p ys) (q : R (.ref p) H) :
    ∃ p' ys', [V.ref p] = [V.ref p'] ∧ ((SqL K H p' ys' ∧ ∀ l, H l = none → R (.ref l) (upd H l (.tup ys'))) ∨ (SqT K H p' ys' ∧ R (.ref p') H)) := ⟨p, ys, rfl, .inr ⟨h, q⟩⟩
theorem r_lst1 {K : PySem.W.Frag} {H : Hp} {p : Addr} {ys : List V} {R : V → Hp → Prop} (h : SqL K H p ys ∨ SqT K H p ys) (q : ∀ l, H l = none → R (.ref l) (upd H l (.lst ys))) :
    ∃ p' ys', [V.ref p] = [V.ref p'] ∧ (SqL K H p' ys' ∨ SqT K H p' ys') ∧ ∀ l, H l = none → R (.ref l) (upd H l (.lst ys')) := ⟨p, ys, rfl, h, q⟩
theorem cutV_most {xs : List V} : cutV xs none (some (-1)) = xs.take (xs.length - 1) := by
  unfold cutV
  have e : HT.sIx xs.length xs.length (some (-1)) = xs.length - 1 := by
    show (if (-1 : Int) < 0 then ((-1 : Int) + (xs.length : Int)).toNat else min (-1 : Int).toNat xs.length) = _
    rw [if_pos (by decide)]
    omega
  rw [e]
  show (xs.drop 0).take (xs.length - 1 - 0) = _
  rw [List.drop_zero, Nat.sub_zero]
theorem atI_end {α : Type} {xs : List α} {v : α} (h : xs[xs.length - 1]? = some v) : atI xs (-1) = some v := by
  have hl : xs.length - 1 < xs.length := (List.getElem?_eq_some_iff.mp h).1
  have e : ixN xs.length (-1) = some (xs.length - 1) := by
    unfold ixN
    rw [if_neg (by decide), if_pos (by omega)]
    congr 1
    omega
  unfold atI
  rw [e]
  exact h
theorem map_cutV {ns : List Int} {lo hi : Option Int} : ∃ ms : List Int, cutV (ns.map V.int) lo hi = ms.map V.int ∧ ms.length ≤ ns.length := by
  unfold cutV
  rw [← List.map_drop, ← List.map_take]
  refine ⟨_, rfl, ?_⟩
  rw [List.length_take, List.length_drop]
  omega
end Zn
namespace Zn
open PySem PySem.Spec PyProof.Rows L2 TL
abbrev rTupOf (K : PySem.W.Frag) : List V → Hp → VK → Prop := fun xs H Q => ∃ p ys, xs = [.ref p] ∧ ((SqL K H p ys ∧ ∀ l, H l = none → Q (.ref l) (upd H l (.tup ys))) ∨ (SqT K H p ys ∧ Q (.ref p) H))
abbrev rLstOf (K : PySem.W.Frag) : List V → Hp → VK → Prop := fun xs H Q => ∃ p ys, xs = [.ref p] ∧ (SqL K H p ys ∨ SqT K H p ys) ∧ ∀ l, H l = none → Q (.ref l) (upd H l (.lst ys))
abbrev rLenS (K : PySem.W.Frag) : List V → Hp → VK → Prop := fun xs H Q => ∃ p ys, xs = [.ref p] ∧ (SqL K H p ys ∨ SqT K H p ys) ∧ Q (.int ys.length) H
end Zn
namespace Zn
open PySem PySem.Spec PyProof.Rows L2 TL
theorem r_tpL {K : PySem.W.Frag} {H : Hp} {p : Addr} {ys : List V} {Q : VK} (h : SqL K H p ys) (q : ∀ l, H l = none → Q (.ref l) (upd H l (.tup ys))) : rTupOf K [.ref p] H Q := ⟨p, ys, rfl, .inl ⟨h, q⟩⟩
theorem r_tpT {K : PySem.W.Frag} {H : Hp} {p : Addr} {ys : List V} {Q : VK} (h : SqT K H p ys) (q : Q (.ref p) H) : rTupOf K [.ref p] H Q := ⟨p, ys, rfl, .inr ⟨h, q⟩⟩
theorem r_lsO {K : PySem.W.Frag} {H : Hp} {p : Addr} {ys : List V} {Q : VK} (h : SqL K H p ys ∨ SqT K H p ys) (q : ∀ l, H l = none → Q (.ref l) (upd H l (.lst ys))) : rLstOf K [.ref p] H Q := ⟨p, ys, rfl, h, q⟩
theorem r_lnS {K : PySem.W.Frag} {H : Hp} {p : Addr} {ys : List V} {Q : VK} (h : SqL K H p ys ∨ SqT K H p ys) (q : Q (.int ys.length) H) : rLenS K [.ref p] H Q := ⟨p, ys, rfl, h, q⟩
theorem cat_ints {a b : List Int} : a.map V.int ++ b.map V.int = (a ++ b).map V.int := List.map_append.symm
theorem cat_int1 {a : List Int} {u : Int} : a.map V.int ++ [V.int u] = (a ++ [u]).map V.int := by rw [List.map_append]; rfl
end Zn
namespace Zn
open PySem PySem.Spec PyProof.Rows L2 TL
theorem fz {K : PySem.W.Frag} {a b : Addr} {xs ys : List V} {g : TG} {tb : TS} {nx : L2.St → Hp → Prop} {rt : VK} {σ : L2.St} {H : Hp} (hl : xs.length = ys.length) (Pv : Nat → L2.St → Hp → Prop) (h0 : Pv 0 σ H) (hq : ∀ i σ H, Pv i σ H → SqT K H a xs ∧ SqT K H b ys)
    (hs : ∀ (i : Nat) (x y : V) (T : Addr) (σ : L2.St) (H : Hp), xs[i]? = some x → ys[i]? = some y → Pv i σ H → H T = none → g (.ref T) σ (upd H T (.tup [x, y])) fun σ2 H2 => tb { nx := Pv (i + 1), rt := rt, bk := nx, ct := Pv (i + 1) } σ2 H2) (hd : ∀ σ H, Pv xs.length σ H → nx σ H) :
    ∃ W : Nat → Nat → L2.St → Hp → Prop, (∃ m, W 0 m σ H) ∧ ∀ i m σ H, W i m σ H →
      ((RZ.ItzT K a b).stop i H ∧ nx σ H) ∨ ((RZ.ItzT K a b).go i H ∧ ∃ N : L2.St → Hp → Prop, (∀ σ' H', N σ' H' → ∃ m', m' < m ∧ W (i + 1) m' σ' H') ∧ ∀ v H', (RZ.ItzT K a b).yld i H v H' → g v σ H' fun σ2 H2 => tb { nx := N, rt := rt, bk := nx, ct := N } σ2 H2) :=
  RZ.for_zipT (D := { nx := nx, rt := rt, bk := nx, ct := nx }) hl Pv h0 hq hs hd
end Zn
namespace Zn
open PySem PySem.Spec PyProof.Rows L2 TL
theorem r_nn {R : Prop} (q : R) : V.non = V.non ∧ R := ⟨rfl, q⟩
end Zn
/-! rules of my own: extend by a tuple, a read that is one of two, defs with a default -/
namespace Zn
open PySem PySem.Spec PyProof.Rows L2 TL
theorem meets_extT (l : Addr) (items : Array Value) (n : Nat) (b : Addr) (items2 : Array Value) (hs0 : ¬(!items.isEmpty && Builtin.List.listTooLong (items.size + items2.size)) = true) (hs1 : items.size ≤ sizeLine) (hs2 : items.size + items2.size ≤ sizeLine) :
    Meets (Builtin.«list.extend» ⟨[.ref l, .ref b], []⟩) (fun _ R s => s.heap.get? l = some { cls := .type "list", data := .seq items n } ∧ IsTup s.heap b items2 ∧ R (.ok (.ret Value.none)) { s with heap := s.heap.update l (Obj.mapSeq fun x => x ++ items2) }) :=
  .of_wp fun prog w A R s h => by
    obtain ⟨hl, ⟨o, ho, hc, n2, hd⟩, h⟩ := h
    have hz' : (items ++ items2).size ≤ sizeLine + 1 := by rw [Array.size_append]; omega
    show wpAny _ A.in1 (Builtin.List.listExtendWith (.ref l) (.ref b) .none) _ _ s
    unfold Builtin.List.listExtendWith
    refine wpAny_bind (wpAny_typeOf ⟨o, ho, hc⟩ ?_)
    have h1 : (Builtin.List.listSameRef (.ref l) (.ref b) || Value.type "tuple" == Value.type "list" || Value.type "tuple" == Value.type "tuple") = true := by simp
    simp only [h1, if_true]
    refine wpAny_bind ?_
    unfold Builtin.List.listItems
    refine wpAny_bind (wpAny_seqItems ho hd (wpAny_pure ?_))
    refine wpAny_bind ?_
    refine wpAny_bind (wpAny_seqItems hl rfl (wpAny_pure ?_))
    simp only [if_neg hs0]
    show wpAny _ A.in1 (updateSeq l (· ++ items2) >>= fun _ => ret .none) _ _ s
    refine wpAny_bind (wpAny_updateSeq hl rfl (hz := hs1) (_hz' := hz') ?_)
    exact wpAny_pure ⟨_, rfl, h⟩
section
variable {X : Cx}
def rExtT (K : PySem.W.Frag) : V → List V → Hp → VK → Prop := fun x vs H Q => ∃ l b xs zs, x = .ref l ∧ vs = [.ref b] ∧ H l = some (.lst xs) ∧ SqT K H b zs ∧ xs.length + zs.length ≤ sizeLine ∧ Q .non (upd H l (.lst (xs ++ zs)))
theorem mt_extT : MtM X "list.extend" (rExtT X.K) := by
  intro pins s σ H x vs v us Q I rx rv h
  obtain ⟨l, b, xs, zs, rfl, rfl, hH, hB, hz, q⟩ := h
  cases rx
  obtain ⟨u, rfl, ru⟩ := rv.one
  cases ru
  obtain ⟨z, its, n, r, hl, e⟩ := I.lstM hH
  obtain ⟨its2, r2, e2, z2⟩ := I.tuple hB
  have hl2 := r2.length
  have hsz : its.toArray.size + its2.toArray.size ≤ sizeLine := by rw [List.size_toArray, List.size_toArray]; omega
  have hlong : ¬ (!its.toArray.isEmpty && Builtin.List.listTooLong (its.toArray.size + its2.toArray.size)) = true := by
    rw [notLongL hsz, Bool.and_false]
    exact Bool.false_ne_true
  refine call_meets PySem.F.slot_list_extend ⟨_, e, rfl⟩ PySem.F.entry_list_extend (PySem.F.args_list_extend_2 _ _)
    (meets_extT l its.toArray n b its2.toArray hlong (by rw [List.size_toArray]; omega) hsz) ⟨e, e2, ?_⟩
  refine ⟨.non, _, I.lset (its' := its ++ its2) hH e (by simp) (r.append r2) ?_, rfl, q⟩
  rw [List.length_append]
  omega
/-- one of two readings -/
def tEi (t1 t2 : TE) : TE := fun σ H Q => t1 σ H Q ∨ t2 σ H Q
theorem pe_ei {e : Expr} {t1 t2 : TE} (h1 : PE X e t1) (h2 : PE X e t2) : PE X e (tEi t1 t2) :=
  ⟨fun pins s σ H Q I h => h.elim (h1.run pins s σ H Q I) (h2.run pins s σ H Q I)⟩
end
theorem r_extT {K : PySem.W.Frag} {H : Hp} {Q : VK} {p b : Addr} {xs zs : List V} (h : H p = some (.lst xs)) (hb : SqT K H b zs) (e : xs.length + zs.length ≤ sizeLine) (q : Q .non (upd H p (.lst (xs ++ zs)))) : rExtT K (.ref p) [.ref b] H Q := ⟨p, b, xs, zs, rfl, rfl, h, hb, e, q⟩
theorem r_dget {σ : L2.St} {H : Hp} {Q : VK} {td ty : TE} (q : td σ H fun x H1 => ty σ H1 fun y H2 => ∃ a v, x = .ref a ∧ DGet H2 a y (some v) ∧ Q v H2) : tDGet td ty σ H Q := q
theorem r_dni {σ : L2.St} {H : Hp} {Q : VK} {td ty : TE} (q : ty σ H fun y H1 => td σ H1 fun x H2 => ∃ a o, x = .ref a ∧ DGet H2 a y o ∧ Q (.bl (!o.isSome)) H2) : tDNotIn ty td σ H Q := q
theorem r_din {σ : L2.St} {H : Hp} {Q : VK} {td ty : TE} (q : ty σ H fun y H1 => td σ H1 fun x H2 => ∃ a o, x = .ref a ∧ DGet H2 a y o ∧ Q (.bl o.isSome) H2) : tDIn ty td σ H Q := q
theorem r_dput {σ : L2.St} {H : Hp} {D : Ends} {td ty tv : TE} (q : tv σ H fun v H1 => td σ H1 fun x H2 => ty σ H2 fun y H3 => ∃ a H4, x = .ref a ∧ DPut H3 a y v H4 ∧ D.nx σ H4) : sDPut td ty tv D σ H := q
/-- dicts with ints as keys, at most 63 entries and so on -/
theorem dgi {H : Hp} {a : Addr} {kvs : List (Key × V)} {i : Int} (h : H a = some (.dK kvs)) : DGet H a (.int i) (valV kvs (.inl i)) := .k (k := Sum.inl i) h
theorem dpi {H : Hp} {a : Addr} {kvs : List (Key × V)} {i : Int} {v : V} (h : H a = some (.dK kvs)) (hl : kvs.length < sizeLine) : DPut H a (.int i) v (upd H a (.dK (putK kvs (.inl i) v))) := .k (k := Sum.inl i) h hl
section
variable {X : Cx}
theorem pe_calS {x : Str} {k : Nat} {sp : Sp} {e : Expr} {es : List Expr} {t : TA} {p pos : Pos} (C : Cal X.prog X.w X.K X.mg X.base x k sp) (hr : Room k X.A) (hg : Gl X x) (ha : PA X (e :: es) t)
    (hdb : (x == ("__debug__" : Str)) = false := by decide) (he : starEach (e :: es) X.env = (false, eval e X.env) :: starEach es X.env := by rfl)
    (hst : (backTo pos (starEach es X.env)).any (·.1) = true := by rfl) : PE X (.Call (.Name x p) (e :: es) [] pos) (tCal sp t) := by
  obtain ⟨f, hm, F, hk⟩ := C
  exact StX.pe_callS2 F hr hk hg hm pass0 ha hdb he hst
end
theorem r_star {K : PySem.W.Frag} {te : TE} {t : TA} {σ : L2.St} {H : Hp} {Q : List V → Hp → Prop} (q : te σ H fun x H1 => ∃ p xs, x = V.ref p ∧ (SqT K H1 p xs ∨ SqL K H1 p xs) ∧ t σ H1 fun ys H2 => Q (xs ++ ys) H2) : StX.tStar K te t σ H Q := q
/-- from a def with defaults to its call without them -/
theorem cal_ofD {P : Program} {w : World} {K : PySem.W.Frag} {mg : Str → Option Value} {base : Heap} {x : Str} {f : Addr} {fd : FuncData} {ps : List Str} {k : Nat} {sp : Sp} {dvs : List V} (hm : mg x = some (.ref f)) (hk : PySem.W.keepIn K (.ref f) = true)
    (hb : ∃ ds, Vals dvs ds ∧ Binds K fd ps ds) (G : FnOk P w K mg base CX0 k f fd ps sp) : Cal P w K mg base x k (fun vs H Q E => sp (vs ++ dvs) H Q E) := by
  obtain ⟨ds, hd, hb⟩ := hb
  exact ⟨f, hm, (G.raw hb hd).imp fun vs H Q E h => h, hk⟩
end Zn
/-! values told apart from the heap: what code does, told of values alone -/
namespace Zn
open PySem PySem.Spec PyProof.Rows L2 TL
inductive G where
  | non | bl (b : Bool) | int (i : Int) | str (s : Str) | drw | raw (v : V)
  | tup (xs : List G) | lst (xs : List G) | dK (ks : List L2.Key) (xs : List G) | dT (ks : List (List L2.Key)) (xs : List G)
  | dN (w : World) (ks : List G) (xs : List G) | obj (C : Addr) | ins (C dx : Addr) (ks : List Str) (xs : List G)
mutual
/-- the key that a value is -/
def nk : G → NestedKey
  | .bl b => .num (if b = true then 1 else 0)
  | .int i => .num i
  | .str s => .text s
  | .tup xs => .tup (nkL xs)
  | _ => .none
def nkL : List G → List NestedKey
  | [] => []
  | g :: gs => nk g :: nkL gs
end
mutual
/-- it can be a key -/
def okK : G → Bool
  | .non => true
  | .bl _ => true
  | .int _ => true
  | .str _ => true
  | .tup xs => okKL xs
  | _ => false
def okKL : List G → Bool
  | [] => true
  | g :: gs => okK g && okKL gs
end
/-- they can be keys -/
def OkKs (ks : List G) : Prop := okKL ks = true ∧ ∀ k ∈ nkL ks, k.depth ≤ 8
abbrev NX := NestedKey × Addr × V
abbrev NY := NestedKey × Addr × Value
def NxY (xs : List NX) (ys : List NY) : Prop := Paired (fun (p : NX) (q : NY) => p.1 = q.1 ∧ p.2.1 = q.2.1 ∧ RelV p.2.2 q.2.2) xs ys
/-- what is true of a dict with keys that are tuples within tuples -/
def DnAt (w : World) (D : Addr) (xs : List NX) (h : Heap) : Prop := (D == sysModules) = false ∧ xs.length ≤ sizeLine ∧ ∃ (ys : List NY) (ob : Obj) (es : Array DictEntry) (ep : Nat), NxY xs ys ∧ h.get? D = some ob ∧ ob.ExactDict ∧ ob.data = .dict es ep ∧
  es.toList = ys.map (fun y => (⟨y.1.hash w, .ref y.2.1, y.2.2⟩ : DictEntry)) ∧ (ys.map (·.1)).Nodup
def DnO (w : World) (D : Addr) (xs : List NX) : HO := .ext (DnAt w D xs)
/-- where a call runs: the module's part, the drawer -/
structure Wd where
  K : PySem.W.Frag
  d : Addr
  c : Addr
  dr : Prop
abbrev AS := Addr → Prop
def TupAt (K : PySem.W.Frag) (H : Hp) (p : Addr) (xs : List V) : Prop := H p = some (.tup xs) ∨ SqT K (fun _ => none) p xs
theorem TupAt.sq {K : PySem.W.Frag} {H : Hp} {p : Addr} {xs : List V} (h : TupAt K H p xs) : SqT K H p xs := by
  rcases h with h | h | h
  · exact .inl (.inl h)
  · rcases h with h | ⟨o, h⟩ <;> cases h
  · exact .inr h
mutual
def Rg (W : Wd) (S : AS) (H : Hp) : G → V → Prop
  | .non, v => v = .non
  | .bl b, v => v = .bl b
  | .int i, v => v = .int i
  | .str s, v => v = .str s
  | .drw, v => W.dr ∧ v = .ref W.d
  | .raw u, v => v = u
  | .tup gs, v => ∃ p vs, v = .ref p ∧ TupAt W.K H p vs ∧ RgL W S H gs vs
  | .lst gs, v => ∃ p vs, v = .ref p ∧ ¬ S p ∧ H p = some (.lst vs) ∧ RgL W S H gs vs
  | .dK ks gs, v => ∃ p vs, v = .ref p ∧ ¬ S p ∧ Rd H p (.dK (ks.zip vs)) ∧ ks.length = gs.length ∧ RgL W S H gs vs
  | .dT ks gs, v => ∃ p vs, v = .ref p ∧ ¬ S p ∧ Rd H p (.dT (ks.zip vs)) ∧ ks.length = gs.length ∧ RgL W S H gs vs
  | .dN w ks gs, v => ∃ p q xs, v = .ref p ∧ ¬ S p ∧ H p = some (DnO w q xs) ∧ xs.map (fun x => x.1) = nkL ks ∧ OkKs ks ∧ RgL W S H ks (xs.map fun x => V.ref x.2.1) ∧ RgL W S H gs (xs.map fun x => x.2.2)
  | .obj C, v => ∃ p dx, v = .ref p ∧ ¬ S p ∧ H p = some (.ins C dx [])
  | .ins C dx ks gs, v => ∃ p vs, v = .ref p ∧ ¬ S p ∧ H p = some (.ins C dx (ks.zip vs)) ∧ ks.length = gs.length ∧ RgL W S H gs vs
def RgL (W : Wd) (S : AS) (H : Hp) : List G → List V → Prop
  | [], vs => vs = []
  | g :: gs, vs => ∃ v ws, vs = v :: ws ∧ Rg W S H g v ∧ RgL W S H gs ws
end
/-- what an owned thing holds -/
def RgO (W : Wd) (S : AS) (H : Hp) : G → HO → Prop
  | .lst gs, o => ∃ vs, o = .lst vs ∧ RgL W S H gs vs
  | .dK ks gs, o => ∃ vs, o = .dK (ks.zip vs) ∧ ks.length = gs.length ∧ RgL W S H gs vs
  | .dT ks gs, o => ∃ vs, o = .dT (ks.zip vs) ∧ ks.length = gs.length ∧ RgL W S H gs vs
  | .dN w ks gs, o => ∃ q xs, o = DnO w q xs ∧ xs.map (fun x => x.1) = nkL ks ∧ OkKs ks ∧ RgL W S H ks (xs.map fun x => V.ref x.2.1) ∧ RgL W S H gs (xs.map fun x => x.2.2)
  | .ins C dx ks gs, o => ∃ vs, o = .ins C dx (ks.zip vs) ∧ ks.length = gs.length ∧ RgL W S H gs vs
  | _, _ => False
/-- from a state to a later one: what is not in S stands, S grows by new things alone -/
structure Nxt (S : AS) (H : Hp) (S' : AS) (H' : Hp) : Prop where
  x : ∀ b o, ¬ S b → H b = some o → H' b = some o
  t : ∀ b xs, H b = some (.tup xs) → H' b = some (.tup xs)
  s : ∀ a, S' a → S a ∨ H a = none
theorem Nxt.refl (S : AS) (H : Hp) : Nxt S H S H := ⟨fun _ _ _ h => h, fun _ _ h => h, fun _ h => .inl h⟩
theorem Nxt.trans {S S1 S2 : AS} {H H1 H2 : Hp} (a : Nxt S H S1 H1) (b : Nxt S1 H1 S2 H2) : Nxt S H S2 H2 := by
  have key : ∀ c o, H c = some o → ¬ S c → ¬ S1 c := fun c o h n m => by
    rcases a.s c m with z | z
    · exact n z
    · rw [h] at z; cases z
  refine ⟨fun c o n h => b.x c o (key c o h n) (a.x c o n h), fun c xs h => b.t c xs (a.t c xs h), fun c m => ?_⟩
  rcases b.s c m with z | z
  · exact a.s c z
  · cases e : H c with
    | none => exact .inr rfl
    | some o =>
      by_cases n : S c
      · exact .inl n
      · have := a.x c o n e
        rw [z] at this
        cases this
theorem Nxt.same {S : AS} {H H' : Hp} (s : Same H H') : Nxt S H S H' := ⟨fun b o _ h => s b o h, fun b xs h => s b _ h, fun _ h => .inl h⟩
section
variable {W : Wd} {S S' : AS} {H H' : Hp}
theorem Nxt.rd (n : Nxt S H S' H') {p : Addr} {o : HO} (h : Rd H p o) (k : ¬ S p) : Rd H' p o := by
  rcases h with h | ⟨q, h⟩
  · exact .inl (n.x _ _ k h)
  · exact .inr ⟨q, n.x _ _ k h⟩
theorem Nxt.nS (n : Nxt S H S' H') {p : Addr} {o : HO} (h : H p = some o) (k : ¬ S p) : ¬ S' p := fun m => by
  rcases n.s p m with z | z
  · exact k z
  · rw [h] at z; cases z
theorem Nxt.nSd (n : Nxt S H S' H') {p : Addr} {o : HO} (h : Rd H p o) (k : ¬ S p) : ¬ S' p := by
  rcases h with h | ⟨q, h⟩
  · exact n.nS h k
  · exact n.nS h k
mutual
theorem Rg.nx (n : Nxt S H S' H') : ∀ {g : G} {v : V}, Rg W S H g v → Rg W S' H' g v
  | .non, _, h => h
  | .bl _, _, h => h
  | .int _, _, h => h
  | .str _, _, h => h
  | .drw, _, h => h
  | .raw _, _, h => h
  | .tup gs, v, h => by
    obtain ⟨p, vs, e, ht, hs⟩ := h
    refine ⟨p, vs, e, ?_, RgL.nx n hs⟩
    rcases ht with ht | ht
    · exact .inl (n.t _ _ ht)
    · exact .inr ht
  | .lst gs, v, h => by
    obtain ⟨p, vs, e, k, ht, hs⟩ := h
    exact ⟨p, vs, e, n.nS ht k, n.x _ _ k ht, RgL.nx n hs⟩
  | .dK ks gs, v, h => by
    obtain ⟨p, vs, e, k, ht, l, hs⟩ := h
    exact ⟨p, vs, e, n.nSd ht k, n.rd ht k, l, RgL.nx n hs⟩
  | .dT ks gs, v, h => by
    obtain ⟨p, vs, e, k, ht, l, hs⟩ := h
    exact ⟨p, vs, e, n.nSd ht k, n.rd ht k, l, RgL.nx n hs⟩
  | .dN w ks gs, v, h => by
    obtain ⟨p, q, xs, e, k, ht, e1, e2, h1, h2⟩ := h
    exact ⟨p, q, xs, e, n.nS ht k, n.x _ _ k ht, e1, e2, RgL.nx n h1, RgL.nx n h2⟩
  | .obj C, v, h => by
    obtain ⟨p, dx, e, k, ht⟩ := h
    exact ⟨p, dx, e, n.nS ht k, n.x _ _ k ht⟩
  | .ins C dx ks gs, v, h => by
    obtain ⟨p, vs, e, k, ht, l, hs⟩ := h
    exact ⟨p, vs, e, n.nS ht k, n.x _ _ k ht, l, RgL.nx n hs⟩
theorem RgL.nx (n : Nxt S H S' H') : ∀ {gs : List G} {vs : List V}, RgL W S H gs vs → RgL W S' H' gs vs
  | [], _, h => h
  | g :: gs, vs, h => by
    obtain ⟨v, ws, e, h1, h2⟩ := h
    exact ⟨v, ws, e, Rg.nx n h1, RgL.nx n h2⟩
end
theorem RgO.nx (n : Nxt S H S' H') {g : G} {o : HO} (h : RgO W S H g o) : RgO W S' H' g o := by
  cases g with
  | lst gs => obtain ⟨vs, e, h⟩ := h; exact ⟨vs, e, h.nx n⟩
  | dK ks gs => obtain ⟨vs, e, l, h⟩ := h; exact ⟨vs, e, l, h.nx n⟩
  | dT ks gs => obtain ⟨vs, e, l, h⟩ := h; exact ⟨vs, e, l, h.nx n⟩
  | dN w ks gs => obtain ⟨q, xs, e, e1, e2, h1, h2⟩ := h; exact ⟨q, xs, e, e1, e2, h1.nx n, h2.nx n⟩
  | ins C dx ks gs => obtain ⟨vs, e, l, h⟩ := h; exact ⟨vs, e, l, h.nx n⟩
  | _ => exact h.elim
theorem RgO.fz {g : G} {o : HO} {p : Addr} (h : RgO W S H g o) (hp : H p = some o) (k : ¬ S p) : Rg W S H g (.ref p) := by
  cases g with
  | lst gs => obtain ⟨vs, rfl, h⟩ := h; exact ⟨p, vs, rfl, k, hp, h⟩
  | dK ks gs => obtain ⟨vs, rfl, l, h⟩ := h; exact ⟨p, vs, rfl, k, .inl hp, l, h⟩
  | dT ks gs => obtain ⟨vs, rfl, l, h⟩ := h; exact ⟨p, vs, rfl, k, .inl hp, l, h⟩
  | dN w ks gs => obtain ⟨q, xs, rfl, e1, e2, h1, h2⟩ := h; exact ⟨p, q, xs, rfl, k, hp, e1, e2, h1, h2⟩
  | ins C dx ks gs => obtain ⟨vs, rfl, l, h⟩ := h; exact ⟨p, vs, rfl, k, hp, l, h⟩
  | _ => exact h.elim
theorem RgO.ntup {g : G} {xs : List V} (h : RgO W S H g (.tup xs)) : False := by
  cases g with
  | lst gs => obtain ⟨vs, e, h⟩ := h; cases e
  | dK ks gs => obtain ⟨vs, e, h⟩ := h; cases e
  | dT ks gs => obtain ⟨vs, e, h⟩ := h; cases e
  | dN w ks gs => obtain ⟨q, xs, e, h⟩ := h; cases e
  | ins C dx ks gs => obtain ⟨vs, e, h⟩ := h; cases e
  | _ => exact h
theorem RgL.len : ∀ {gs : List G} {vs : List V}, RgL W S H gs vs → vs.length = gs.length
  | [], _, h => by cases h; rfl
  | g :: gs, vs, h => by
    obtain ⟨v, ws, rfl, _, h2⟩ := h
    rw [List.length_cons, List.length_cons, h2.len]
theorem RgL.get : ∀ {gs : List G} {vs : List V} {i : Nat} {v : V}, RgL W S H gs vs → vs[i]? = some v → ∃ g, gs[i]? = some g ∧ Rg W S H g v
  | [], _, i, v, h, e => by cases h; simp at e
  | g :: gs, vs, i, v, h, e => by
    obtain ⟨u, ws, rfl, h1, h2⟩ := h
    cases i with
    | zero => simp at e; subst e; exact ⟨g, rfl, h1⟩
    | succ i =>
      obtain ⟨g', e', r⟩ := h2.get (i := i) (v := v) (by simpa using e)
      exact ⟨g', by simpa using e', r⟩
theorem RgL.get' : ∀ {gs : List G} {vs : List V} {i : Nat} {g : G}, RgL W S H gs vs → gs[i]? = some g → ∃ v, vs[i]? = some v ∧ Rg W S H g v
  | [], _, i, v, h, e => by simp at e
  | g :: gs, vs, i, g', h, e => by
    obtain ⟨u, ws, rfl, h1, h2⟩ := h
    cases i with
    | zero => simp at e; subst e; exact ⟨u, rfl, h1⟩
    | succ i =>
      obtain ⟨v', e', r⟩ := h2.get' (i := i) (g := g') (by simpa using e)
      exact ⟨v', by simpa using e', r⟩
theorem RgL.app : ∀ {gs hs : List G} {vs ws : List V}, RgL W S H gs vs → RgL W S H hs ws → RgL W S H (gs ++ hs) (vs ++ ws)
  | [], _, _, _, h, k => by cases h; exact k
  | g :: gs, hs, vs, ws, h, k => by
    obtain ⟨u, us, rfl, h1, h2⟩ := h
    exact ⟨u, us ++ ws, rfl, h1, h2.app k⟩
theorem RgL.one {g : G} {v : V} (h : Rg W S H g v) : RgL W S H [g] [v] := ⟨v, [], rfl, h, rfl⟩
theorem RgL.take : ∀ {gs : List G} {vs : List V} (n : Nat), RgL W S H gs vs → RgL W S H (gs.take n) (vs.take n)
  | _, _, 0, _ => rfl
  | [], vs, n + 1, h => by cases h; exact rfl
  | g :: gs, vs, n + 1, h => by
    obtain ⟨u, us, rfl, h1, h2⟩ := h
    exact ⟨u, us.take n, rfl, h1, h2.take n⟩
theorem RgL.drop : ∀ {gs : List G} {vs : List V} (n : Nat), RgL W S H gs vs → RgL W S H (gs.drop n) (vs.drop n)
  | _, _, 0, h => h
  | [], vs, n + 1, h => by cases h; exact rfl
  | g :: gs, vs, n + 1, h => by
    obtain ⟨u, us, rfl, h1, h2⟩ := h
    exact h2.drop n
theorem RgL.set : ∀ {gs : List G} {vs : List V} (n : Nat) {g : G} {v : V}, RgL W S H gs vs → Rg W S H g v → RgL W S H (gs.set n g) (vs.set n v)
  | [], vs, n, _, _, h, _ => by cases h; exact rfl
  | g :: gs, vs, 0, _, _, h, k => by
    obtain ⟨u, us, rfl, h1, h2⟩ := h
    exact ⟨_, us, rfl, k, h2⟩
  | g :: gs, vs, n + 1, _, _, h, k => by
    obtain ⟨u, us, rfl, h1, h2⟩ := h
    exact ⟨u, us.set n _, rfl, h1, h2.set n k⟩
theorem RgL.erase : ∀ {gs : List G} {vs : List V} (n : Nat), RgL W S H gs vs → RgL W S H (gs.eraseIdx n) (vs.eraseIdx n)
  | [], vs, n, h => by cases h; exact rfl
  | g :: gs, vs, 0, h => by
    obtain ⟨u, us, rfl, h1, h2⟩ := h
    exact h2
  | g :: gs, vs, n + 1, h => by
    obtain ⟨u, us, rfl, h1, h2⟩ := h
    exact ⟨u, us.eraseIdx n, rfl, h1, h2.erase n⟩
theorem RgL.ints : ∀ {ns : List Int} {vs : List V}, RgL W S H (ns.map G.int) vs → vs = ns.map V.int
  | [], _, h => h
  | n :: ns, vs, h => by
    obtain ⟨v, ws, rfl, h1, h2⟩ := h
    have h1 : v = .int n := h1
    rw [h1, RgL.ints h2]
    rfl
theorem RgL.of_ints : ∀ {ns : List Int}, RgL W S H (ns.map G.int) (ns.map V.int)
  | [] => rfl
  | n :: ns => ⟨.int n, ns.map V.int, rfl, rfl, RgL.of_ints⟩
theorem RgL.bls : ∀ {ns : List Bool} {vs : List V}, RgL W S H (ns.map G.bl) vs → vs = ns.map V.bl
  | [], _, h => h
  | n :: ns, vs, h => by
    obtain ⟨v, ws, rfl, h1, h2⟩ := h
    have h1 : v = .bl n := h1
    rw [h1, RgL.bls h2]
    rfl
end
end Zn
/-! the state of a def told by values -/
namespace Zn
open PySem PySem.Spec PyProof.Rows L2 TL
structure Fr extends Wd where
  ps : List Addr
  H0 : Hp
  S0 : AS
  pn : List (Addr × HO)
/-- a slot: nothing told; a value that no one changes any more; a thing of the slot's own -/
inductive SG where
  | un | fz (g : G) | ow (f : Bool) (g : G)
def SlOk (F : Fr) (S : AS) (H : Hp) : SG → Option V → Prop
  | .un, _ => True
  | .fz g, o => ∃ v, o = some v ∧ Rg F.toWd S H g v
  | .ow f g, o => ∃ a u, o = some (.ref a) ∧ S a ∧ H a = some u ∧ RgO F.toWd S H g u ∧ (f = true → F.H0 a = none) ∧ (f = false → a ∈ F.ps)
structure FrOk (F : Fr) : Prop where
  s0 : ∀ a, F.S0 a → F.H0 a ≠ none
  d : F.dr → F.S0 F.d ∧ F.d ∉ F.ps
  p : ∀ a ∈ F.ps, F.H0 a ≠ none
structure Rel (F : Fr) (S : AS) (ρ : List SG) (σ : L2.St) (H : Hp) : Prop where
  ok : FrOk F
  dom : ∀ a, S a → H a ≠ none
  s0 : ∀ a, F.S0 a → S a
  dr : F.dr → ¬ S F.c ∧ Drw H F.d F.c
  kx : ∀ b o, ¬ (F.dr ∧ b = F.d) → b ∉ F.ps → F.H0 b = some o → H b = some o
  kt : ∀ b xs, F.H0 b = some (.tup xs) → H b = some (.tup xs)
  len : σ.length = ρ.length
  pp : ∀ a ∈ F.ps, H a ≠ none
  sl : ∀ (i : Nat) (s : SG), ρ[i]? = some s → ∃ o, σ[i]? = some o ∧ SlOk F S H s o
  dj : ∀ (i j : Nat) (f : Bool) (g : G) (f' : Bool) (g' : G), i ≠ j → ρ[i]? = some (.ow f g) → ρ[j]? = some (.ow f' g') → σ[i]? ≠ σ[j]?
  pin : ∀ p ∈ F.pn, H p.1 = some p.2 ∧ S p.1 ∧ (F.dr → p.1 ≠ F.d) ∧ (∀ (i : Nat) (f : Bool) (g : G), ρ[i]? = some (.ow f g) → σ[i]? ≠ some (some (.ref p.1))) ∧ F.H0 p.1 = none
section
variable {F : Fr} {S S' : AS} {ρ : List SG} {σ : L2.St} {H H' : Hp} {i : Nat} {f : Bool} {g : G} {v : V} {p : Addr}
theorem some_of {a : Option HO} (h : a ≠ none) : ∃ o, a = some o := by
  cases a with
  | none => exact (h rfl).elim
  | some o => exact ⟨o, rfl⟩
/-- what an owned slot is not: the drawer -/
theorem Rel.own (R : Rel F S ρ σ H) (hi : ρ[i]? = some (.ow f g)) : ∃ a u, σ[i]? = some (some (.ref a)) ∧ S a ∧ H a = some u ∧ RgO F.toWd S H g u ∧ (f = true → F.H0 a = none) ∧ (f = false → a ∈ F.ps) ∧ (F.dr → a ≠ F.d) := by
  obtain ⟨o, e, a, u, rfl, h1, h2, h3, h4, h5⟩ := R.sl i _ hi
  refine ⟨a, u, e, h1, h2, h3, h4, h5, fun dr z => ?_⟩
  obtain ⟨k1, k2⟩ := R.ok.d dr
  cases f with
  | true => exact R.ok.s0 _ k1 (by rw [← z]; exact h4 rfl)
  | false => exact k2 (by rw [← z]; exact h5 rfl)
theorem Rel.step (R : Rel F S ρ σ H) (h1 : ∀ b o, ¬ (F.dr ∧ b = F.d) → H b = some o → H' b = some o) (h2 : F.dr → Drw H' F.d F.c) : Rel F S ρ σ H' ∧ Nxt S H S H' := by
  have ht : ∀ b xs, H b = some (.tup xs) → H' b = some (.tup xs) := fun b xs e => h1 b _ (fun ⟨k, z⟩ => by
    obtain ⟨l, hl⟩ := (R.dr k).2.get
    rw [z, hl] at e
    cases e) e
  have n : Nxt S H S H' := ⟨fun b o k e => h1 b o (fun ⟨dr, z⟩ => k (by rw [z]; exact R.s0 _ (R.ok.d dr).1)) e, ht, fun _ h => .inl h⟩
  refine ⟨⟨R.ok, fun a ha => ?_, R.s0, fun k => ⟨(R.dr k).1, h2 k⟩, fun b o k1 k2 e => h1 b o k1 (R.kx b o k1 k2 e), fun b xs e => ht b xs (R.kt b xs e), R.len, fun a ha => ?_, fun j s hj => ?_, R.dj, fun q hq => ?_⟩, n⟩
  · by_cases k : F.dr ∧ a = F.d
    · obtain ⟨l, hl⟩ := (h2 k.1).get
      rw [k.2, hl]
      intro z; cases z
    · obtain ⟨o, e⟩ := some_of (R.dom a ha)
      rw [h1 a o k e]
      intro z; cases z
  · obtain ⟨o, e⟩ := some_of (R.pp a ha)
    rw [h1 a o (fun ⟨dr, z⟩ => (R.ok.d dr).2 (z ▸ ha)) e]
    intro z; cases z
  · obtain ⟨o, e, r⟩ := R.sl j s hj
    refine ⟨o, e, ?_⟩
    cases s with
    | un => trivial
    | fz g => obtain ⟨v, e, r⟩ := r; exact ⟨v, e, r.nx n⟩
    | ow f g =>
      obtain ⟨a, u, e', k1, k2, k3, k4, k5⟩ := r
      obtain ⟨a', u', e2, _, _, _, _, _, k6⟩ := R.own hj
      rw [e, e'] at e2
      cases e2
      exact ⟨a, u, e', k1, h1 a u (fun ⟨dr, z⟩ => k6 dr z) k2, k3.nx n, k4, k5⟩
  · obtain ⟨q1, q2, q3, q4, q5⟩ := R.pin q hq
    exact ⟨h1 _ _ (fun ⟨dr, z⟩ => q3 dr z) q1, q2, q3, q4, q5⟩
theorem Rel.same (R : Rel F S ρ σ H) (s : Same H H') : Rel F S ρ σ H' ∧ Nxt S H S H' := R.step (fun b o _ e => s b o e) fun k => (R.dr k).2.same s
theorem Rel.setF (R : Rel F S ρ σ H) (r : Rg F.toWd S H g v) : Rel F S (ρ.set i (.fz g)) (σ.set i (some v)) H := by
  refine ⟨R.ok, R.dom, R.s0, R.dr, R.kx, R.kt, by rw [List.length_set, List.length_set, R.len], R.pp, fun j s hj => ?_, fun j k f g f' g' hjk hj hk => ?_, fun q hq => ?_⟩
  · rw [List.getElem?_set] at hj ⊢
    by_cases e : i = j
    · subst e
      rw [if_pos rfl] at hj ⊢
      have hl : i < ρ.length := by
        by_cases hl : i < ρ.length
        · exact hl
        · rw [if_neg hl] at hj; cases hj
      rw [if_pos hl] at hj
      cases hj
      rw [if_pos (by rw [R.len]; exact hl)]
      exact ⟨_, rfl, v, rfl, r⟩
    · rw [if_neg e] at hj ⊢
      exact R.sl j s hj
  · have hj' : i ≠ j := fun e => by
      rw [← e, List.getElem?_set, if_pos rfl] at hj
      split at hj <;> cases hj
    have hk' : i ≠ k := fun e => by
      rw [← e, List.getElem?_set, if_pos rfl] at hk
      split at hk <;> cases hk
    rw [List.getElem?_set, if_neg hj'] at hj ⊢
    rw [List.getElem?_set, if_neg hk'] at hk ⊢
    exact R.dj j k f g f' g' hjk hj hk
  · obtain ⟨q1, q2, q3, q4, q5⟩ := R.pin q hq
    refine ⟨q1, q2, q3, fun j f g hj => ?_, q5⟩
    have hj' : i ≠ j := fun e => by
      rw [← e, List.getElem?_set, if_pos rfl] at hj
      split at hj <;> cases hj
    rw [List.getElem?_set, if_neg hj'] at hj ⊢
    exact q4 j f g hj
/-- a new thing at p, not yet told of by a slot -/
theorem Rel.grow (R : Rel F S ρ σ H) {o : HO} (hp : H p = none) : Rel F (fun a => S a ∨ a = p) ρ σ (upd H p o) ∧ Nxt S H (fun a => S a ∨ a = p) (upd H p o) := by
  have s : Same H (upd H p o) := same_new hp
  have n : Nxt S H (fun a => S a ∨ a = p) (upd H p o) := ⟨fun b o _ e => s b o e, fun b xs e => s b _ e, fun a h => h.imp id fun e => by rw [e]; exact hp⟩
  refine ⟨⟨R.ok, fun a ha => ?_, fun a h => .inl (R.s0 a h), fun k => ⟨fun z => ?_, (R.dr k).2.same s⟩, fun b o k1 k2 e => s _ _ (R.kx b o k1 k2 e), fun b xs e => s _ _ (R.kt b xs e), R.len, fun a ha => ?_, fun j t hj => ?_, R.dj, fun q hq => ?_⟩, n⟩
  · rcases ha with ha | rfl
    · obtain ⟨o, e⟩ := some_of (R.dom a ha)
      rw [s _ _ e]
      intro z; cases z
    · rw [upd_same]
      intro z; cases z
  · rcases z with z | z
    · exact (R.dr k).1 z
    · obtain ⟨ns, e⟩ := (R.dr k).2.cl
      rw [z, hp] at e
      cases e
  · obtain ⟨o, e⟩ := some_of (R.pp a ha)
    rw [s _ _ e]
    intro z; cases z
  · obtain ⟨o, e, r⟩ := R.sl j t hj
    refine ⟨o, e, ?_⟩
    cases t with
    | un => trivial
    | fz g => obtain ⟨v, e, r⟩ := r; exact ⟨v, e, r.nx n⟩
    | ow f g =>
      obtain ⟨a, u, e', k1, k2, k3, k4, k5⟩ := r
      exact ⟨a, u, e', .inl k1, s _ _ k2, k3.nx n, k4, k5⟩
  · obtain ⟨q1, q2, q3, q4, q5⟩ := R.pin q hq
    exact ⟨s _ _ q1, .inl q2, q3, q4, q5⟩
/-- nobody's thing -/
def Free (F : Fr) (ρ : List SG) (σ : L2.St) (p : Addr) : Prop := F.H0 p = none ∧ (∀ (i : Nat) (f : Bool) (g : G), ρ[i]? = some (.ow f g) → σ[i]? ≠ some (some (.ref p))) ∧ ∀ q ∈ F.pn, q.1 ≠ p
theorem Rel.new (R : Rel F S ρ σ H) (hp : H p = none) : Free F ρ σ p := by
  refine ⟨?_, fun i f g hi e => ?_, fun q hq e => ?_⟩
  · cases e : F.H0 p with
    | none => rfl
    | some o =>
      by_cases k : F.dr ∧ p = F.d
      · obtain ⟨l, hl⟩ := (R.dr k.1).2.get
        rw [← k.2, hp] at hl
        cases hl
      · by_cases k2 : p ∈ F.ps
        · exact (R.pp p k2 hp).elim
        · have := R.kx p o k k2 e
          rw [hp] at this
          cases this
  · obtain ⟨a, u, e', _, h2, _⟩ := R.own hi
    rw [e] at e'
    cases e'
    rw [hp] at h2
    cases h2
  · have := (R.pin q hq).1
    rw [e, hp] at this
    cases this
theorem set_at {s t : SG} {j : Nat} (h : (ρ.set i s)[j]? = some t) : (i ≠ j ∧ ρ[j]? = some t) ∨ (i = j ∧ s = t ∧ i < ρ.length) := by
  rw [List.getElem?_set] at h
  by_cases e : i = j
  · rw [if_pos e] at h
    by_cases l : i < ρ.length
    · rw [if_pos l] at h
      exact .inr ⟨e, Option.some.inj h, l⟩
    · rw [if_neg l] at h
      cases h
  · rw [if_neg e] at h
    exact .inl ⟨e, h⟩
/-- a thing of the slot's own is changed -/
theorem Rel.mut (R : Rel F S ρ σ H) (hi : ρ[i]? = some (.ow f g)) {a : Addr} (ha : σ[i]? = some (some (.ref a))) {u' : HO} {g' : G} (k : RgO F.toWd S H g' u') : Rel F S (ρ.set i (.ow f g')) σ (upd H a u') ∧ Nxt S H S (upd H a u') := by
  obtain ⟨a', u, e, h1, h2, h3, h4, h5, h6⟩ := R.own hi
  rw [ha] at e
  cases e
  have hl : i < ρ.length := (List.getElem?_eq_some_iff.mp hi).1
  have ht : ∀ b xs, H b = some (.tup xs) → upd H a u' b = some (.tup xs) := fun b xs e => by
    rw [upd_ne (fun z => ?_)]
    · exact e
    · rw [z, h2] at e
      cases e
      exact h3.ntup
  have hx : ∀ b o, b ≠ a → H b = some o → upd H a u' b = some o := fun b o z e => by rw [upd_ne z]; exact e
  have n : Nxt S H S (upd H a u') := ⟨fun b o k e => hx b o (fun z => k (z ▸ h1)) e, ht, fun _ h => .inl h⟩
  have hne : ∀ b, H b ≠ none → upd H a u' b ≠ none := fun b hb => by
    by_cases z : b = a
    · rw [z, upd_same]; intro z; cases z
    · rw [upd_ne z]; exact hb
  refine ⟨⟨R.ok, fun b hb => hne b (R.dom b hb), R.s0, fun q => ⟨(R.dr q).1, (R.dr q).2.upd (h6 q).symm fun z => (R.dr q).1 (z ▸ h1)⟩, fun b o k1 k2 e => ?_, fun b xs e => ht _ _ (R.kt b xs e), by rw [List.length_set, R.len], fun b hb => hne b (R.pp b hb), fun j s hj => ?_, fun j k f g f' g' hjk hj hk => ?_, fun q hq => ?_⟩, n⟩
  · refine hx b o (fun z => ?_) (R.kx b o k1 k2 e)
    cases f with
    | true => rw [z, h4 rfl] at e; cases e
    | false => exact k2 (z ▸ h5 rfl)
  · rw [List.getElem?_set] at hj
    by_cases e : i = j
    · subst e
      rw [if_pos rfl, if_pos hl] at hj
      cases hj
      exact ⟨_, ha, a, u', rfl, h1, upd_same, k.nx n, h4, h5⟩
    · rw [if_neg e] at hj
      obtain ⟨o, e1, r⟩ := R.sl j s hj
      refine ⟨o, e1, ?_⟩
      cases s with
      | un => trivial
      | fz g => obtain ⟨v, e, r⟩ := r; exact ⟨v, e, r.nx n⟩
      | ow f2 g2 =>
        obtain ⟨b, u2, e2, k1, k2, k3, k4, k5⟩ := r
        have nba : b ≠ a := fun z => R.dj i j f g f2 g2 e hi hj (by rw [ha, e1, e2, z])
        exact ⟨b, u2, e2, k1, hx b u2 nba k2, k3.nx n, k4, k5⟩
  · rcases set_at hj with ⟨e1, hj⟩ | ⟨e1, _, _⟩
    · rcases set_at hk with ⟨e2, hk⟩ | ⟨e2, _, _⟩
      · exact R.dj j k _ _ _ _ hjk hj hk
      · subst e2
        exact R.dj j i _ _ _ _ hjk hj hi
    · subst e1
      rcases set_at hk with ⟨e2, hk⟩ | ⟨e2, _, _⟩
      · exact R.dj i k _ _ _ _ hjk hi hk
      · exact (hjk e2).elim
  · obtain ⟨q1, q2, q3, q4, q5⟩ := R.pin q hq
    refine ⟨hx _ _ (fun z => q4 i f g hi (by rw [ha, z])) q1, q2, q3, fun j f2 g2 hj => ?_, q5⟩
    rcases set_at hj with ⟨e1, hj⟩ | ⟨e1, _, _⟩
    · exact q4 j _ _ hj
    · subst e1
      exact q4 i _ _ hi
/-- a new thing becomes a slot's own -/
theorem Rel.setN (R : Rel F S ρ σ H) {o : HO} (hs : S p) (hp : H p = some o) (r : RgO F.toWd S H g o) (fr : Free F ρ σ p) : Rel F S (ρ.set i (.ow true g)) (σ.set i (some (.ref p))) H := by
  obtain ⟨f0, f1, f2⟩ := fr
  refine ⟨R.ok, R.dom, R.s0, R.dr, R.kx, R.kt, by rw [List.length_set, List.length_set, R.len], R.pp, fun j s hj => ?_, fun j k f g f' g' hjk hj hk => ?_, fun q hq => ?_⟩
  · rcases set_at hj with ⟨e, hj⟩ | ⟨e, e2, l⟩
    · rw [List.getElem?_set, if_neg e]
      exact R.sl j s hj
    · subst e2
      subst e
      rw [List.getElem?_set, if_pos rfl, if_pos (by rw [R.len]; exact l)]
      exact ⟨_, rfl, p, o, rfl, hs, hp, r, fun _ => f0, fun z => by cases z⟩
  · rcases set_at hj with ⟨e, hj⟩ | ⟨e, e2, l⟩
    · rcases set_at hk with ⟨e', hk⟩ | ⟨e', e2', l'⟩
      · rw [List.getElem?_set, if_neg e, List.getElem?_set, if_neg e']
        exact R.dj j k _ _ _ _ hjk hj hk
      · subst e'
        rw [List.getElem?_set, if_neg e, List.getElem?_set, if_pos rfl, if_pos (by rw [R.len]; exact l')]
        exact f1 j _ _ hj
    · rcases set_at hk with ⟨e', hk⟩ | ⟨e', e2', l'⟩
      · subst e
        rw [List.getElem?_set, if_pos rfl, if_pos (by rw [R.len]; exact l), List.getElem?_set, if_neg e']
        exact fun z => f1 k _ _ hk z.symm
      · exact (hjk (e.symm.trans e')).elim
  · obtain ⟨q1, q2, q3, q4, q5⟩ := R.pin q hq
    refine ⟨q1, q2, q3, fun j f g hj => ?_, q5⟩
    rcases set_at hj with ⟨e, hj⟩ | ⟨e, e2, l⟩
    · rw [List.getElem?_set, if_neg e]
      exact q4 j _ _ hj
    · subst e
      rw [List.getElem?_set, if_pos rfl, if_pos (by rw [R.len]; exact l)]
      exact fun z => f2 q hq (by cases z; rfl)
theorem Nxt.less {S S' : AS} {H : Hp} (h : ∀ a, S' a → S a) : Nxt S H S' H := ⟨fun _ _ _ e => e, fun _ _ e => e, fun a k => .inl (h a k)⟩
/-- nobody's thing is told no more: it stands still from here on -/
theorem Rel.unN (R : Rel F S ρ σ H) {o : HO} (hs : S p) (hp : H p = some o) (r : RgO F.toWd S H g o) (fr : Free F ρ σ p) :
    Rel F (fun a => S a ∧ a ≠ p) ρ σ H ∧ Nxt S H (fun a => S a ∧ a ≠ p) H ∧ Rg F.toWd (fun a => S a ∧ a ≠ p) H g (.ref p) := by
  obtain ⟨f0, f1, f2⟩ := fr
  have n : Nxt S H (fun a => S a ∧ a ≠ p) H := Nxt.less fun _ h => h.1
  refine ⟨⟨R.ok, fun a h => R.dom a h.1, fun a h => ⟨R.s0 a h, fun z => R.ok.s0 a h (z ▸ f0)⟩, fun k => ⟨fun z => (R.dr k).1 z.1, (R.dr k).2⟩, R.kx, R.kt, R.len, R.pp, fun j s hj => ?_, R.dj, fun q hq => ?_⟩, n, (r.nx n).fz hp fun z => z.2 rfl⟩
  · obtain ⟨o, e, r⟩ := R.sl j s hj
    refine ⟨o, e, ?_⟩
    cases s with
    | un => trivial
    | fz g => obtain ⟨v, e, r⟩ := r; exact ⟨v, e, r.nx n⟩
    | ow f g =>
      obtain ⟨a, u, e', k1, k2, k3, k4, k5⟩ := r
      exact ⟨a, u, e', ⟨k1, fun z => f1 j f g hj (by rw [e, e', z])⟩, k2, k3.nx n, k4, k5⟩
  · obtain ⟨q1, q2, q3, q4, q5⟩ := R.pin q hq
    exact ⟨q1, ⟨q2, f2 q hq⟩, q3, q4, q5⟩
theorem Rel.forget (R : Rel F S ρ σ H) : Rel F S (ρ.set i .un) σ H := by
  refine ⟨R.ok, R.dom, R.s0, R.dr, R.kx, R.kt, by rw [List.length_set, R.len], R.pp, fun j s hj => ?_, fun j k f g f' g' hjk hj hk => ?_, fun q hq => ?_⟩
  · rcases set_at hj with ⟨e, hj⟩ | ⟨e, e2, l⟩
    · exact R.sl j s hj
    · subst e2
      subst e
      exact ⟨σ[i]'(by rw [R.len]; exact l), List.getElem?_eq_getElem _, trivial⟩
  · rcases set_at hj with ⟨e, hj⟩ | ⟨e, e2, l⟩
    · rcases set_at hk with ⟨e', hk⟩ | ⟨e', e2', l'⟩
      · exact R.dj j k _ _ _ _ hjk hj hk
      · cases e2'
    · cases e2
  · obtain ⟨q1, q2, q3, q4, q5⟩ := R.pin q hq
    refine ⟨q1, q2, q3, fun j f g hj => ?_, q5⟩
    rcases set_at hj with ⟨e, hj⟩ | ⟨e, e2, l⟩
    · exact q4 j _ _ hj
    · cases e2
/-- a slot's own thing stands still from here on -/
theorem Rel.frz (R : Rel F S ρ σ H) (hi : ρ[i]? = some (.ow true g)) : ∃ (a : Addr) (S' : AS), σ[i]? = some (some (.ref a)) ∧ Rel F S' (ρ.set i (.fz g)) σ H ∧ Nxt S H S' H ∧ Rg F.toWd S' H g (.ref a) := by
  obtain ⟨a, u, ha, h1, h2, h3, h4, _⟩ := R.own hi
  have R1 := R.forget (i := i)
  have hl : i < ρ.length := (List.getElem?_eq_some_iff.mp hi).1
  have fr : Free F (ρ.set i .un) σ a := by
    refine ⟨h4 rfl, fun j f g' hj e => ?_, fun q hq z => ?_⟩
    · rcases set_at hj with ⟨e1, hj⟩ | ⟨_, e2, _⟩
      · exact R.dj i j _ _ _ _ e1 hi hj (by rw [ha, e])
      · cases e2
    · exact (R.pin q hq).2.2.2.1 i _ _ hi (by rw [ha, z])
  obtain ⟨R2, n, r⟩ := R1.unN h1 h2 h3 fr
  refine ⟨a, _, ha, ?_, n, r⟩
  have R3 := R2.setF (i := i) r
  rw [List.set_set] at R3
  have : σ.set i (some (.ref a)) = σ := by
    apply List.ext_getElem?
    intro j
    rw [List.getElem?_set]
    by_cases e : i = j
    · rw [if_pos e, ← e, if_pos (by rw [R.len]; exact hl), ha]
    · rw [if_neg e]
  rw [this] at R3
  exact R3
end
end Zn
/-! judgements: a rule of the hand layer, and what it asks of values -/
namespace Zn
open PySem PySem.Spec PyProof.Rows L2 TL
abbrev RS := List SG
abbrev UE := RS → (RS → G → Prop) → Prop
abbrev UT := RS → (RS → Bool → Prop) → Prop
abbrev UA := RS → (RS → List G → Prop) → Prop
abbrev UO := RS → (RS → Option Int → Prop) → Prop
abbrev UG := G → RS → (RS → Prop) → Prop
abbrev UGs := List G → RS → (RS → Prop) → Prop
structure Bs where
  nx : RS → Prop
  rt : RS → G → Prop
  bk : RS → Prop := fun _ => False
  ct : RS → Prop := fun _ => False
abbrev US := Bs → RS → Prop
def LE (F : Fr) (t : TE) (u : UE) : Prop := ∀ (ρ : RS) (Φ : RS → G → Prop) (σ : L2.St) (H : Hp) (S : AS) (Q : VK), u ρ Φ → Rel F S ρ σ H →
  (∀ ρ' g v H' S', Φ ρ' g → Nxt S H S' H' → Rel F S' ρ' σ H' → Rg F.toWd S' H' g v → Q v H') → t σ H Q
/-- a new thing, nobody's yet -/
def LN (F : Fr) (t : TE) (u : UE) : Prop := ∀ (ρ : RS) (Φ : RS → G → Prop) (σ : L2.St) (H : Hp) (S : AS) (Q : VK), u ρ Φ → Rel F S ρ σ H →
  (∀ ρ' g p o H' S', Φ ρ' g → Nxt S H S' H' → Rel F S' ρ' σ H' → S' p → H' p = some o → RgO F.toWd S' H' g o → Free F ρ' σ p → Q (.ref p) H') → t σ H Q
def LT (F : Fr) (t : TT) (u : UT) : Prop := ∀ (ρ : RS) (Φ : RS → Bool → Prop) (σ : L2.St) (H : Hp) (S : AS) (Q : Bool → Hp → Prop), u ρ Φ → Rel F S ρ σ H →
  (∀ ρ' b H' S', Φ ρ' b → Nxt S H S' H' → Rel F S' ρ' σ H' → Q b H') → t σ H Q
def LA (F : Fr) (t : TA) (u : UA) : Prop := ∀ (ρ : RS) (Φ : RS → List G → Prop) (σ : L2.St) (H : Hp) (S : AS) (Q : List V → Hp → Prop), u ρ Φ → Rel F S ρ σ H →
  (∀ ρ' gs vs H' S', Φ ρ' gs → Nxt S H S' H' → Rel F S' ρ' σ H' → RgL F.toWd S' H' gs vs → Q vs H') → t σ H Q
def LO (F : Fr) (t : TO) (u : UO) : Prop := ∀ (ρ : RS) (Φ : RS → Option Int → Prop) (σ : L2.St) (H : Hp) (S : AS) (Q : Option Int → Hp → Prop), u ρ Φ → Rel F S ρ σ H →
  (∀ ρ' b H' S', Φ ρ' b → Nxt S H S' H' → Rel F S' ρ' σ H' → Q b H') → t σ H Q
/-- a target: the slots that it stores to are in is -/
def LG (F : Fr) (is : List Nat) (t : TG) (u : UG) : Prop := ∀ (g : G) (v : V) (ρ : RS) (Φ : RS → Prop) (σ : L2.St) (H : Hp) (S : AS) (Q : L2.St → Hp → Prop), u g ρ Φ → Rel F S ρ σ H → Rg F.toWd S H g v →
  (∀ ρ' σ' H' S', Φ ρ' → Nxt S H S' H' → Rel F S' ρ' σ' H' → (σ'.length = σ.length ∧ ∀ i, i ∉ is → σ'[i]? = σ[i]?) → Q σ' H') → t v σ H Q
def LGs (F : Fr) (is : List Nat) (t : TGs) (u : UGs) : Prop := ∀ (gs : List G) (vs : List V) (ρ : RS) (Φ : RS → Prop) (σ : L2.St) (H : Hp) (S : AS) (Q : L2.St → Hp → Prop), u gs ρ Φ → Rel F S ρ σ H → RgL F.toWd S H gs vs →
  (∀ ρ' σ' H' S', Φ ρ' → Nxt S H S' H' → Rel F S' ρ' σ' H' → (σ'.length = σ.length ∧ ∀ i, i ∉ is → σ'[i]? = σ[i]?) → Q σ' H') → t vs σ H Q
/-- J walks over gs as long as what is not in S stands -/
structure IsIt (F : Fr) (S : AS) (H : Hp) (J : It) (gs : List G) : Prop where
  go : ∀ i H1 S1, i < gs.length → Nxt S H S1 H1 → J.go i H1
  stop : ∀ H1 S1, Nxt S H S1 H1 → J.stop gs.length H1
  yld : ∀ i H1 S1 x H2, i < gs.length → Nxt S H S1 H1 → J.yld i H1 x H2 → Same H1 H2 ∧ ∃ g, gs[i]? = some g ∧ Rg F.toWd S1 H2 g x
def LI (F : Fr) (t : TI) (u : UA) : Prop := ∀ (ρ : RS) (Φ : RS → List G → Prop) (σ : L2.St) (H : Hp) (S : AS) (R : It → Hp → Prop), u ρ Φ → Rel F S ρ σ H →
  (∀ ρ' gs J H' S', Φ ρ' gs → Nxt S H S' H' → Rel F S' ρ' σ H' → IsIt F S' H' J gs → R J H') → t σ H R
structure Em (F : Fr) (S : AS) (H : Hp) (B : Bs) (E : Ends) : Prop where
  nx : ∀ ρ' σ' H' S', B.nx ρ' → Nxt S H S' H' → Rel F S' ρ' σ' H' → E.nx σ' H'
  rt : ∀ ρ' σ' H' S' g v, B.rt ρ' g → Nxt S H S' H' → Rel F S' ρ' σ' H' → Rg F.toWd S' H' g v → E.rt v H'
  bk : ∀ ρ' σ' H' S', B.bk ρ' → Nxt S H S' H' → Rel F S' ρ' σ' H' → E.bk σ' H'
  ct : ∀ ρ' σ' H' S', B.ct ρ' → Nxt S H S' H' → Rel F S' ρ' σ' H' → E.ct σ' H'
theorem Em.mono {F : Fr} {S S1 : AS} {H H1 : Hp} {B : Bs} {E : Ends} (m : Em F S H B E) (n : Nxt S H S1 H1) : Em F S1 H1 B E :=
  ⟨fun a b c d e k r => m.nx a b c d e (n.trans k) r, fun a b c d g v e k r q => m.rt a b c d g v e (n.trans k) r q, fun a b c d e k r => m.bk a b c d e (n.trans k) r, fun a b c d e k r => m.ct a b c d e (n.trans k) r⟩
def LS (F : Fr) (t : TS) (w : US) : Prop := ∀ (ρ : RS) (B : Bs) (σ : L2.St) (H : Hp) (S : AS) (E : Ends), w B ρ → Rel F S ρ σ H → Em F S H B E → t E σ H
section
variable (X : Cx)
structure GE (e : Expr) (t : TE) (u : UE) : Prop where
  pe : PE X e t
  le : ∀ F : Fr, F.K = X.K → LE F t u
structure GN (e : Expr) (t : TE) (u : UE) : Prop where
  pe : PE X e t
  le : ∀ F : Fr, F.K = X.K → LN F t u
structure GT (e : Expr) (t : TT) (u : UT) : Prop where
  pe : PT X e t
  le : ∀ F : Fr, F.K = X.K → LT F t u
structure GW (e : Expr) (t : TT) (u : UT) : Prop where
  pe : PW X e t
  le : ∀ F : Fr, F.K = X.K → LT F t u
structure GTs (e : List Expr) (t : TT) (u : UT) : Prop where
  pe : PTs X e t
  le : ∀ F : Fr, F.K = X.K → LT F t u
structure GA (e : List Expr) (t : TA) (u : UA) : Prop where
  pe : PA X e t
  le : ∀ F : Fr, F.K = X.K → LA F t u
structure GO (e : Option Expr) (t : TO) (u : UO) : Prop where
  pe : PO X e t
  le : ∀ F : Fr, F.K = X.K → LO F t u
structure GG (is : List Nat) (e : Expr) (t : TG) (u : UG) : Prop where
  pe : PG X e t
  le : ∀ F : Fr, F.K = X.K → LG F is t u
structure GGs (is : List Nat) (e : List Expr) (t : TGs) (u : UGs) : Prop where
  pe : PGs X e t
  le : ∀ F : Fr, F.K = X.K → LGs F is t u
structure GI (tg e : Expr) (t : TI) (u : UA) : Prop where
  pe : PI X tg e t
  le : ∀ F : Fr, F.K = X.K → LI F t u
structure GS (e : Stmt) (t : TS) (w : US) : Prop where
  pe : PS X e t
  le : ∀ F : Fr, F.K = X.K → LS F t w
structure GSs (e : List Stmt) (t : TS) (w : US) : Prop where
  pe : PSs X e t
  le : ∀ F : Fr, F.K = X.K → LS F t w
end
/-! ### expressions -/
section
variable {X : Cx} {e a b : Expr} {t ta tb : TE} {u ua ub : UE} {pos : Pos}
def uC (g : G) : UE := fun ρ Φ => Φ ρ g
theorem le_c {F : Fr} {v : V} {g : G} (h : ∀ W S H, Rg W S H g v) : LE F (tC v) (uC g) := fun ρ Φ σ H S Q q R k => k ρ g v H S q (.refl _ _) R (h _ _ _)
theorem ge_int {i j} : GE X (.Constant (.int i) j pos) (tC (.int i)) (uC (.int i)) := ⟨pe_int, fun _ _ => le_c fun _ _ _ => rfl⟩
theorem ge_bl {i j} : GE X (.Constant (.bool i) j pos) (tC (.bl i)) (uC (.bl i)) := ⟨pe_bl, fun _ _ => le_c fun _ _ _ => rfl⟩
theorem ge_non {j} : GE X (.Constant .none j pos) (tC .non) (uC .non) := ⟨pe_non, fun _ _ => le_c fun _ _ _ => rfl⟩
theorem ge_str {x j} : GE X (.Constant (.str x) j pos) (tC (.str x)) (uC (.str x)) := ⟨pe_str, fun _ _ => le_c fun _ _ _ => rfl⟩
def uVar (i : Nat) : UE := fun ρ Φ => ∃ g, ρ[i]? = some (.fz g) ∧ Φ ρ g
theorem le_var {F : Fr} {i : Nat} : LE F (tVar i) (uVar i) := fun ρ Φ σ H S Q ⟨g, hg, q⟩ R k => by
  obtain ⟨o, e, v, rfl, r⟩ := R.sl i _ hg
  exact ⟨v, e, k ρ g v H S q (.refl _ _) R r⟩
theorem ge_var {i : Nat} {x : Str} (hN : X.N[i]? = some x) (hv : Vis X.env.scope x) (hd : (x == ("__debug__" : Str)) = false := by decide) (hcd : (x == ("__classdict__" : Str)) = false := by decide) : GE X (.Name x pos) (tVar i) (uVar i) := ⟨pe_var hN hv hd hcd, fun _ _ => le_var⟩
/-- a slot's own thing is handed on: it stands still from here on -/
def uFrz (i : Nat) : UE := fun ρ Φ => ∃ g, ρ[i]? = some (.ow true g) ∧ Φ (ρ.set i (.fz g)) g
theorem le_frz {F : Fr} {i : Nat} : LE F (tVar i) (uFrz i) := fun ρ Φ σ H S Q ⟨g, hg, q⟩ R k => by
  obtain ⟨a, S', ha, R', n, r⟩ := R.frz hg
  exact ⟨_, ha, k _ g _ H S' q n R' r⟩
theorem ge_frz {i : Nat} {x : Str} (hN : X.N[i]? = some x) (hv : Vis X.env.scope x) (hd : (x == ("__debug__" : Str)) = false := by decide) (hcd : (x == ("__classdict__" : Str)) = false := by decide) : GE X (.Name x pos) (tVar i) (uFrz i) := ⟨pe_var hN hv hd hcd, fun _ _ => le_frz⟩
/-- operators of two values -/
def Lr2 (K : PySem.W.Frag) (r : R2) (ur : G → G → (G → Prop) → Prop) : Prop := ∀ (W : Wd) (S : AS) (H : Hp) (g1 g2 : G) (v1 v2 : V) (Φ : G → Prop) (Q : VK), W.K = K → (∀ a, S a → H a ≠ none) → Rg W S H g1 v1 → Rg W S H g2 v2 → ur g1 g2 Φ →
  (∀ g v H', Φ g → Same H H' → Rg W S H' g v → Q v H') → r v1 v2 H Q
structure GOp (X : Cx) (f : Value → Value → Sem Value) (r : R2) (ur : G → G → (G → Prop) → Prop) : Prop where
  ho : OpR X f r
  le : Lr2 X.K r ur
def uOp (ur : G → G → (G → Prop) → Prop) (ua ub : UE) : UE := fun ρ Φ => ua ρ fun ρ1 x => ub ρ1 fun ρ2 y => ur x y fun z => Φ ρ2 z
theorem le_op {F : Fr} {r : R2} {ur : G → G → (G → Prop) → Prop} (h : Lr2 F.K r ur) (ha : LE F ta ua) (hb : LE F tb ub) : LE F (tOp r ta tb) (uOp ur ua ub) := fun ρ Φ σ H S Q q R k => by
  refine ha ρ _ σ H S _ q R fun ρ1 g1 v1 H1 S1 q1 n1 R1 r1 => ?_
  refine hb ρ1 _ σ H1 S1 _ q1 R1 fun ρ2 g2 v2 H2 S2 q2 n2 R2 r2 => ?_
  refine h F.toWd S2 H2 g1 g2 v1 v2 _ _ rfl R2.dom (r1.nx n2) r2 q2 fun g v H' q3 s3 r3 => ?_
  obtain ⟨R3, n3⟩ := R2.same s3
  exact k ρ2 g v H' S2 q3 ((n1.trans n2).trans n3) R3 r3
theorem ge_op {op : Operator} {r : R2} {ur} (ho : GOp X (binaryOp op) r ur) (ha : GE X a ta ua) (hb : GE X b tb ub) : GE X (.BinOp a op b pos) (tOp r ta tb) (uOp ur ua ub) := ⟨pe_op ho.ho ha.pe hb.pe, fun F h => le_op (h ▸ ho.le) (ha.le F h) (hb.le F h)⟩
theorem ge_cmpR {op : CmpOp} {r : R2} {ur} (ho : GOp X (compareOp op) r ur) (ha : GE X a ta ua) (hb : GE X b tb ub) (hm : behindInMarks op b = false) : GE X (.Compare a [op] [b] pos) (tOp r ta tb) (uOp ur ua ub) := ⟨pe_cmpR ho.ho ha.pe hb.pe hm, fun F h => le_op (h ▸ ho.le) (ha.le F h) (hb.le F h)⟩
def uTest (u : UE) : UT := fun ρ Φ => u ρ fun ρ1 g => ∃ k, g = .bl k ∧ Φ ρ1 k
theorem le_test {F : Fr} (ha : LE F ta ua) : LT F (tTest ta) (uTest ua) := fun ρ Φ σ H S Q q R k => by
  refine ha ρ _ σ H S _ q R fun ρ1 g v H1 S1 ⟨c, e, q1⟩ n1 R1 r1 => ?_
  subst e
  exact ⟨c, r1, k ρ1 c H1 S1 q1 n1 R1⟩
theorem gt_cmpR {op : CmpOp} {r : R2} {ur} (ho : GOp X (compareOp op) r ur) (ha : GE X a ta ua) (hb : GE X b tb ub) (hm : behindInMarks op b = false) : GT X (.Compare a [op] [b] pos) (tTest (tOp r ta tb)) (uTest (uOp ur ua ub)) := ⟨pt_cmpR ho.ho ha.pe hb.pe hm, fun F h => le_test (le_op (h ▸ ho.le) (ha.le F h) (hb.le F h))⟩
theorem gt_val {t : TE} {u : UE} (h : GE X e t u) (he : ∀ whole, isTrue e X.env whole = (do let v ← whole; standAt e.pos; holding [v] (truthy v)) := by intro _; rfl) : GT X e (tB t) (uTest u) := ⟨pt_val h.pe he, fun F k => le_test (h.le F k)⟩
def uNot (u : UT) : UT := fun ρ Φ => u ρ fun ρ1 b => Φ ρ1 (!b)
theorem gt_not {tA : TT} {uA : UT} (ha : GT X a tA uA) : GT X (.UnaryOp .Not a pos) (tNot tA) (uNot uA) := ⟨pt_not ha.pe, fun F h ρ Φ σ H S Q q R k => ha.le F h ρ _ σ H S _ q R fun ρ1 b H1 S1 q1 n1 R1 => k ρ1 _ H1 S1 q1 n1 R1⟩
def uAnd (u v : UT) : UT := fun ρ Φ => u ρ fun ρ1 b => if b = true then v ρ1 Φ else Φ ρ1 false
def uOr (u v : UT) : UT := fun ρ Φ => u ρ fun ρ1 b => if b = true then Φ ρ1 true else v ρ1 Φ
theorem gw_and1 {tA : TT} {uA : UT} (ha : GT X a tA uA) : GW X (.BoolOp .And [a] pos) tA uA := ⟨pw_and1 ha.pe, ha.le⟩
theorem gw_or1 {tA : TT} {uA : UT} (ha : GT X a tA uA) : GW X (.BoolOp .Or [a] pos) tA uA := ⟨pw_or1 ha.pe, ha.le⟩
theorem gw_and {tA tB : TT} {uA uB : UT} {rest : List Expr} (ha : GT X a tA uA) (hb : GW X (.BoolOp .And (b :: rest) pos) tB uB) : GW X (.BoolOp .And (a :: b :: rest) pos) (tAnd tA tB) (uAnd uA uB) :=
  ⟨pw_and ha.pe hb.pe, fun F h ρ Φ σ H S Q q R k => ha.le F h ρ _ σ H S _ q R fun ρ1 c H1 S1 q1 n1 R1 => by
    cases c with
    | true => exact hb.le F h ρ1 Φ σ H1 S1 Q q1 R1 fun ρ2 c H2 S2 q2 n2 R2 => k ρ2 c H2 S2 q2 (n1.trans n2) R2
    | false => exact k ρ1 false H1 S1 q1 n1 R1⟩
theorem gw_or {tA tB : TT} {uA uB : UT} {rest : List Expr} (ha : GT X a tA uA) (hb : GW X (.BoolOp .Or (b :: rest) pos) tB uB) : GW X (.BoolOp .Or (a :: b :: rest) pos) (tOr tA tB) (uOr uA uB) :=
  ⟨pw_or ha.pe hb.pe, fun F h ρ Φ σ H S Q q R k => ha.le F h ρ _ σ H S _ q R fun ρ1 c H1 S1 q1 n1 R1 => by
    cases c with
    | false => exact hb.le F h ρ1 Φ σ H1 S1 Q q1 R1 fun ρ2 c H2 S2 q2 n2 R2 => k ρ2 c H2 S2 q2 (n1.trans n2) R2
    | true => exact k ρ1 true H1 S1 q1 n1 R1⟩
theorem GW.gt {tA : TT} {uA : UT} (h : GW X e tA uA) : GT X e tA uA := ⟨h.pe.pt, h.le⟩
theorem gts_nil : GTs X [] tYes (fun ρ Φ => Φ ρ true) := ⟨pts_nil, fun F _ ρ Φ σ H S Q q R k => k ρ true H S q (.refl _ _) R⟩
theorem gts_one {c : Expr} {tA : TT} {uA : UT} (h : GT X c tA uA) : GTs X [c] tA uA := ⟨pts_one h.pe, h.le⟩
/-- and, or, not of bools, as values -/
def uAndV (ua ub : UE) : UE := fun ρ Φ => ua ρ fun ρ1 g => ∃ c, g = .bl c ∧ if c = true then ub ρ1 Φ else Φ ρ1 (.bl false)
def uOrV (ua ub : UE) : UE := fun ρ Φ => ua ρ fun ρ1 g => ∃ c, g = .bl c ∧ if c = true then Φ ρ1 (.bl true) else ub ρ1 Φ
def uNotV (ua : UE) : UE := fun ρ Φ => ua ρ fun ρ1 g => ∃ c, g = .bl c ∧ Φ ρ1 (.bl (!c))
theorem ge_one {op} (ha : GE X a ta ua) : GE X (.BoolOp op [a] pos) ta ua := ⟨pe_one ha.pe, ha.le⟩
theorem ge_and {rest : List Expr} (ha : GE X a ta ua) (hb : GE X (.BoolOp .And (b :: rest) pos) tb ub) : GE X (.BoolOp .And (a :: b :: rest) pos) (tAndV ta tb) (uAndV ua ub) :=
  ⟨pe_and ha.pe hb.pe, fun F h ρ Φ σ H S Q q R k => ha.le F h ρ _ σ H S _ q R fun ρ1 g v H1 S1 ⟨c, e, q1⟩ n1 R1 r1 => by
    subst e
    refine ⟨c, r1, ?_⟩
    cases c with
    | true => exact hb.le F h ρ1 Φ σ H1 S1 Q q1 R1 fun ρ2 c v2 H2 S2 q2 n2 R2 => k ρ2 c v2 H2 S2 q2 (n1.trans n2) R2
    | false => exact k ρ1 _ _ H1 S1 q1 n1 R1 rfl⟩
theorem ge_or {rest : List Expr} (ha : GE X a ta ua) (hb : GE X (.BoolOp .Or (b :: rest) pos) tb ub) : GE X (.BoolOp .Or (a :: b :: rest) pos) (tOrV ta tb) (uOrV ua ub) :=
  ⟨pe_or ha.pe hb.pe, fun F h ρ Φ σ H S Q q R k => ha.le F h ρ _ σ H S _ q R fun ρ1 g v H1 S1 ⟨c, e, q1⟩ n1 R1 r1 => by
    subst e
    refine ⟨c, r1, ?_⟩
    cases c with
    | false => exact hb.le F h ρ1 Φ σ H1 S1 Q q1 R1 fun ρ2 c v2 H2 S2 q2 n2 R2 => k ρ2 c v2 H2 S2 q2 (n1.trans n2) R2
    | true => exact k ρ1 _ _ H1 S1 q1 n1 R1 rfl⟩
theorem ge_not (ha : GE X a ta ua) : GE X (.UnaryOp .Not a pos) (tNotV ta) (uNotV ua) :=
  ⟨pe_not ha.pe, fun F h ρ Φ σ H S Q q R k => ha.le F h ρ _ σ H S _ q R fun ρ1 g v H1 S1 ⟨c, e, q1⟩ n1 R1 r1 => by
    subst e
    exact ⟨c, r1, k ρ1 _ _ H1 S1 q1 n1 R1 rfl⟩⟩
def uIf (u : UT) (ua ub : UE) : UE := fun ρ Φ => u ρ fun ρ1 b => if b = true then ua ρ1 Φ else ub ρ1 Φ
theorem ge_ifExp {c : Expr} {tA : TT} {uA : UT} (hc : GT X c tA uA) (ha : GE X a ta ua) (hb : GE X b tb ub) : GE X (.IfExp c a b pos) (tIf tA ta tb) (uIf uA ua ub) :=
  ⟨pe_ifExp hc.pe ha.pe hb.pe, fun F h ρ Φ σ H S Q q R k => hc.le F h ρ _ σ H S _ q R fun ρ1 c H1 S1 q1 n1 R1 => by
    cases c with
    | true => exact ha.le F h ρ1 Φ σ H1 S1 Q q1 R1 fun ρ2 c v2 H2 S2 q2 n2 R2 => k ρ2 c v2 H2 S2 q2 (n1.trans n2) R2
    | false => exact hb.le F h ρ1 Φ σ H1 S1 Q q1 R1 fun ρ2 c v2 H2 S2 q2 n2 R2 => k ρ2 c v2 H2 S2 q2 (n1.trans n2) R2⟩
/-- arguments -/
def uNil : UA := fun ρ Φ => Φ ρ []
def uCons (ua : UE) (ur : UA) : UA := fun ρ Φ => ua ρ fun ρ1 g => ur ρ1 fun ρ2 gs => Φ ρ2 (g :: gs)
theorem ga_nil : GA X [] tNil uNil := ⟨pa_nil, fun F _ ρ Φ σ H S Q q R k => k ρ [] [] H S q (.refl _ _) R rfl⟩
theorem ga_cons {es : List Expr} {tr : TA} {ur : UA} (ha : GE X e ta ua) (hr : GA X es tr ur) (hs : starEach (e :: es) X.env = (false, eval e X.env) :: starEach es X.env := by rfl) : GA X (e :: es) (tCons ta tr) (uCons ua ur) :=
  ⟨pa_cons ha.pe hr.pe hs, fun F h ρ Φ σ H S Q q R k => ha.le F h ρ _ σ H S _ q R fun ρ1 g v H1 S1 q1 n1 R1 r1 =>
    hr.le F h ρ1 _ σ H1 S1 _ q1 R1 fun ρ2 gs vs H2 S2 q2 n2 R2 r2 => k ρ2 (g :: gs) (v :: vs) H2 S2 q2 (n1.trans n2) R2 ⟨v, vs, rfl, r1.nx n2, r2⟩⟩
/-- a new thing that is handed on at once -/
theorem LN.le {F : Fr} (h : LN F t u) : LE F t u := fun ρ Φ σ H S Q q R k => h ρ Φ σ H S Q q R fun ρ1 g p o H1 S1 q1 n1 R1 s hp r fr => by
  obtain ⟨R2, n2, r2⟩ := R1.unN s hp r fr
  exact k ρ1 g _ H1 _ q1 (n1.trans n2) R2 r2
theorem GN.ge (h : GN X e t u) : GE X e t u := ⟨h.pe, fun F k => (h.le F k).le⟩
/-- .. at an address that is free -/
theorem new_lst {F : Fr} {S : AS} {ρ : RS} {σ : L2.St} {H : Hp} {p : Addr} {g : G} {o : HO} (R : Rel F S ρ σ H) (hp : H p = none) (r : RgO F.toWd S H g o) :
    Nxt S H (fun a => S a ∨ a = p) (upd H p o) ∧ Rel F (fun a => S a ∨ a = p) ρ σ (upd H p o) ∧ RgO F.toWd (fun a => S a ∨ a = p) (upd H p o) g o ∧ Free F ρ σ p := by
  obtain ⟨R1, n1⟩ := R.grow (o := o) hp
  exact ⟨n1, R1, r.nx n1, R.new hp⟩
def uLst (ua : UA) : UE := fun ρ Φ => ua ρ fun ρ1 gs => gs.length ≤ 100000 ∧ Φ ρ1 (.lst gs)
theorem gn_lst {es : List Expr} {tr : TA} {ur : UA} (h : GA X es tr ur) : GN X (.List es pos) (tLst tr) (uLst ur) :=
  ⟨pe_lst h.pe, fun F k ρ Φ σ H S Q q R j => h.le F k ρ _ σ H S _ q R fun ρ1 gs vs H1 S1 ⟨l, q1⟩ n1 R1 r1 => ⟨len_ok (by rw [r1.len]; exact l), fun p hp => by
    obtain ⟨n2, R2, r2, fr⟩ := new_lst (g := .lst gs) R1 hp ⟨vs, rfl, r1⟩
    exact j ρ1 (.lst gs) p _ _ _ q1 (n1.trans n2) R2 (.inr rfl) upd_same r2 fr⟩⟩
def uTup (ua : UA) : UE := fun ρ Φ => ua ρ fun ρ1 gs => gs.length ≤ 100000 ∧ Φ ρ1 (.tup gs)
theorem rg_tup {W : Wd} {S : AS} {H : Hp} {gs : List G} {vs : List V} {p : Addr} (hp : H p = none) (r : RgL W S H gs vs) : Rg W S (upd H p (.tup vs)) (.tup gs) (.ref p) := ⟨p, vs, rfl, .inl upd_same, r.nx (Nxt.same (same_new hp))⟩
theorem ge_tup {es : List Expr} {x1} {tr : TA} {ur : UA} (h : GA X es tr ur) : GE X (.Tuple es x1 pos) (tTup tr) (uTup ur) :=
  ⟨pe_tup h.pe, fun F k ρ Φ σ H S Q q R j => h.le F k ρ _ σ H S _ q R fun ρ1 gs vs H1 S1 ⟨l, q1⟩ n1 R1 r1 => ⟨len_ok (by rw [r1.len]; exact l), fun p hp => by
    obtain ⟨R2, n2⟩ := R1.same (same_new (o := .tup vs) hp)
    exact j ρ1 (.tup gs) _ _ _ q1 (n1.trans n2) R2 (rg_tup hp r1)⟩⟩
end
/-! ### statements -/
section
variable {X : Cx} {e : Expr} {t : TE} {u : UE} {pos : Pos} {st : Stmt} {rest : List Stmt}
theorem gss_nil : GSs X [] tNext (fun B ρ => B.nx ρ) := ⟨pss_nil, fun F _ ρ B σ H S E q R m => m.nx ρ σ H S q (.refl _ _) R⟩
def uSeq (w1 w2 : US) : US := fun B ρ => w1 { B with nx := w2 B } ρ
theorem gss_cons {t1 t2 : TS} {w1 w2 : US} (h1 : GS X st t1 w1) (h2 : GSs X rest t2 w2) : GSs X (st :: rest) (tSeq t1 t2) (uSeq w1 w2) :=
  ⟨pss_cons h1.pe h2.pe, fun F k ρ B σ H S E q R m => h1.le F k ρ _ σ H S _ q R ⟨fun ρ' σ' H' S' q' n' R' => h2.le F k ρ' B σ' H' S' E q' R' (m.mono n'), m.rt, m.bk, m.ct⟩⟩
theorem gss_one {t1 : TS} {w1 : US} (h1 : GS X st t1 w1) : GSs X [st] t1 w1 := ⟨pss_one h1.pe, h1.le⟩
theorem gs_pass : GS X (.Pass pos) tNext (fun B ρ => B.nx ρ) := ⟨ps_pass, fun F _ ρ B σ H S E q R m => m.nx ρ σ H S q (.refl _ _) R⟩
theorem gs_break : GS X (.Break pos) tBreak (fun B ρ => B.bk ρ) := ⟨ps_break, fun F _ ρ B σ H S E q R m => m.bk ρ σ H S q (.refl _ _) R⟩
theorem gs_continue : GS X (.Continue pos) tCont (fun B ρ => B.ct ρ) := ⟨ps_continue, fun F _ ρ B σ H S E q R m => m.ct ρ σ H S q (.refl _ _) R⟩
def uRet (u : UE) : US := fun B ρ => u ρ fun ρ1 g => B.rt ρ1 g
theorem gs_ret (h : GE X e t u) : GS X (.Return (some e) pos) (tRet t) (uRet u) := ⟨ps_ret h.pe, fun F k ρ B σ H S E q R m => h.le F k ρ _ σ H S _ q R fun ρ1 g v H1 S1 q1 n1 R1 r1 => m.rt ρ1 σ H1 S1 g v q1 n1 R1 r1⟩
theorem gs_retN : GS X (.Return none pos) tRetN (fun B ρ => B.rt ρ .non) := ⟨ps_retN, fun F k ρ B σ H S E q R m => m.rt ρ σ H S .non .non q (.refl _ _) R rfl⟩
def uDrop (u : UE) : US := fun B ρ => u ρ fun ρ1 _ => B.nx ρ1
theorem gs_expr (h : GE X e t u) (hs : swapsWith e none pos.line X.env = pure false := by rfl) : GS X (.Expr e pos) (tDrop t) (uDrop u) := ⟨ps_expr h.pe hs, fun F k ρ B σ H S E q R m => h.le F k ρ _ σ H S _ q R fun ρ1 g v H1 S1 q1 n1 R1 r1 => m.nx ρ1 σ H1 S1 q1 n1 R1⟩
def uIfS (c : UT) (a b : US) : US := fun B ρ => c ρ fun ρ1 k => if k = true then a B ρ1 else b B ρ1
theorem gs_if {c : Expr} {a b : List Stmt} {tc : TT} {uc : UT} {ta tb : TS} {wa wb : US} (hc : GT X c tc uc) (ha : GSs X a ta wa) (hb : GSs X b tb wb) : GS X (.If c a b pos) (tIfS tc ta tb) (uIfS uc wa wb) :=
  ⟨ps_if hc.pe ha.pe hb.pe, fun F k ρ B σ H S E q R m => hc.le F k ρ _ σ H S _ q R fun ρ1 c H1 S1 q1 n1 R1 => by
    cases c with
    | true => exact ha.le F k ρ1 B σ H1 S1 E q1 R1 (m.mono n1)
    | false => exact hb.le F k ρ1 B σ H1 S1 E q1 R1 (m.mono n1)⟩
/-- x = e -/
def uSet (i : Nat) (u : UE) : US := fun B ρ => u ρ fun ρ1 g => B.nx (ρ1.set i (.fz g))
theorem le_set {F : Fr} {i : Nat} (h : LE F t u) : LS F (tAsg t (gName i)) (uSet i u) := fun ρ B σ H S E q R m => h ρ _ σ H S _ q R fun ρ1 g v H1 S1 q1 n1 R1 r1 => m.nx _ _ H1 S1 q1 n1 (R1.setF r1)
theorem gs_set {i : Nat} {x : Str} {pos' : Pos} (hN : X.N.Nodup) (hi : X.N[i]? = some x) (hx : Loc X.env.scope x) (he : GE X e t u) (hs : swapsWith e (some (.Name x pos')) pos.line X.env = pure false := by rfl) (hf : X.fn x = true ∨ X.env.scope.names.lookup x = some .local := by first | exact .inl rfl | exact .inr rfl | assumption) :
    GS X (.Assign [.Name x pos'] e pos) (tAsg t (gName i)) (uSet i u) := ⟨ps_set hN hi hx he.pe hs hf, fun F k => le_set (he.le F k)⟩
/-- x = e, a new thing that x alone holds -/
def uSetO (i : Nat) (u : UE) : US := fun B ρ => u ρ fun ρ1 g => B.nx (ρ1.set i (.ow true g))
theorem le_setO {F : Fr} {i : Nat} (h : LN F t u) : LS F (tAsg t (gName i)) (uSetO i u) := fun ρ B σ H S E q R m => h ρ _ σ H S _ q R fun ρ1 g p o H1 S1 q1 n1 R1 s1 hp r1 fr => m.nx _ _ H1 S1 q1 n1 (R1.setN s1 hp r1 fr)
theorem gs_setO {i : Nat} {x : Str} {pos' : Pos} (hN : X.N.Nodup) (hi : X.N[i]? = some x) (hx : Loc X.env.scope x) (he : GN X e t u) (hs : swapsWith e (some (.Name x pos')) pos.line X.env = pure false := by rfl) (hf : X.fn x = true ∨ X.env.scope.names.lookup x = some .local := by first | exact .inl rfl | exact .inr rfl | assumption) :
    GS X (.Assign [.Name x pos'] e pos) (tAsg t (gName i)) (uSetO i u) := ⟨ps_set hN hi hx he.pe hs hf, fun F k => le_setO (he.le F k)⟩
/-- targets -/
def vName (i : Nat) : UG := fun g ρ Φ => Φ (ρ.set i (.fz g))
theorem gg_name {i : Nat} {x : Str} (hN : X.N.Nodup) (hi : X.N[i]? = some x) (hx : Loc X.env.scope x) (hf : X.fn x = true ∨ X.env.scope.names.lookup x = some .local := by first | exact .inl rfl | exact .inr rfl | assumption) : GG X [i] (.Name x pos) (gName i) (vName i) :=
  ⟨pg_name hN hi hx hf, fun F _ g v ρ Φ σ H S Q q R r k => k _ _ H S q (.refl _ _) (R.setF r) ⟨List.length_set, fun j hj => by rw [List.getElem?_set, if_neg (fun z => hj (by rw [z]; exact List.mem_singleton.mpr rfl))]⟩⟩
def vNil : UGs := fun gs ρ Φ => gs = [] ∧ Φ ρ
def vCons (t : UG) (us : UGs) : UGs := fun gs ρ Φ => ∃ g r, gs = g :: r ∧ t g ρ fun ρ' => us r ρ' Φ
theorem ggs_nil : GGs X [] [] gNil vNil := ⟨pgs_nil, fun F _ gs vs ρ Φ σ H S Q ⟨e, q⟩ R r k => by
  subst e
  cases r
  exact ⟨rfl, k ρ σ H S q (.refl _ _) R ⟨rfl, fun _ _ => rfl⟩⟩⟩
theorem ggs_cons {is js : List Nat} {es : List Expr} {tg : TG} {tgs : TGs} {ug : UG} {ugs : UGs} (h : GG X is e tg ug) (hs : GGs X js es tgs ugs) (hm : (assignEach (e :: es) X.env).map (·.2) = assign e X.env :: (assignEach es X.env).map (·.2) := by rfl) : GGs X (is ++ js) (e :: es) (gCons tg tgs) (vCons ug ugs) :=
  ⟨pgs_cons h.pe hs.pe hm, fun F k gs vs ρ Φ σ H S Q ⟨g, r, e, q⟩ R rr j => by
    subst e
    obtain ⟨v, ws, rfl, r1, r2⟩ := rr
    refine ⟨v, ws, rfl, h.le F k g v ρ _ σ H S _ q R r1 fun ρ1 σ1 H1 S1 q1 n1 R1 e1 => ?_⟩
    exact hs.le F k r ws ρ1 Φ σ1 H1 S1 Q q1 R1 (r2.nx n1) fun ρ2 σ2 H2 S2 q2 n2 R2 e2 => j ρ2 σ2 H2 S2 q2 (n1.trans n2) R2 ⟨e2.1.trans e1.1, fun i hi => (e2.2 i fun z => hi (List.mem_append_right _ z)).trans (e1.2 i fun z => hi (List.mem_append_left _ z))⟩⟩
def vTup (n : Nat) (us : UGs) : UG := fun g ρ Φ => ∃ gs, g = .tup gs ∧ gs.length = n ∧ us gs ρ Φ
theorem gg_tup {is : List Nat} {es : List Expr} {k : Nat} {tgs : TGs} {ugs : UGs} {n : Nat} (hc : X.calm = true) (h : GGs X is es tgs ugs)
    (hn : (assignEach es X.env).length = n := by rfl) (hst : (assignEach es X.env).findIdx? (·.1) = none := by rfl) : GG X is (.Tuple es k pos) (gTup X.K n tgs) (vTup n ugs) :=
  ⟨pg_tup hc h.pe hn hst, fun F k g v ρ Φ σ H S Q ⟨gs, e, l, q⟩ R r j => by
    subst e
    obtain ⟨p, vs, rfl, ht, rs⟩ := r
    exact ⟨p, vs, rfl, k ▸ ht.sq, by rw [rs.len, l], h.le F k gs vs ρ Φ σ H S Q q R rs j⟩⟩
def uAsg (u : UE) (v : UG) : US := fun B ρ => u ρ fun ρ1 g => v g ρ1 B.nx
theorem gs_asg {is : List Nat} {tg : Expr} {g : TG} {ug : UG} (he : GE X e t u) (hg : GG X is tg g ug) (hs : swapsWithSole [tg] e pos.line X.env = pure false := by rfl) (hw : swappedStores [tg] e X.env = pure none := by rfl)
    (h1 : (assignEach [tg] X.env).map (·.2) = [assign tg X.env] := by rfl) : GS X (.Assign [tg] e pos) (tAsg t g) (uAsg u ug) :=
  ⟨ps_asg he.pe hg.pe hs hw h1, fun F k ρ B σ H S E q R m => he.le F k ρ _ σ H S _ q R fun ρ1 g v H1 S1 q1 n1 R1 r1 => hg.le F k g v ρ1 _ σ H1 S1 _ q1 R1 r1 fun ρ2 σ2 H2 S2 q2 n2 R2 _ => m.nx ρ2 σ2 H2 S2 q2 (n1.trans n2) R2⟩
/-- loops -/
def uFor (ui : UA) (ug : UG) (ub : US) : US := fun B ρ => ui ρ fun ρ1 gs => ∃ Iv : Nat → RS → Prop, Iv 0 ρ1 ∧ (∀ i g ρ, gs[i]? = some g → Iv i ρ → ug g ρ fun ρ' => ub { B with nx := Iv (i + 1), ct := Iv (i + 1), bk := B.nx } ρ') ∧ ∀ ρ, Iv gs.length ρ → B.nx ρ
def LIat (F : Fr) (ρ : RS) (σ : L2.St) (H : Hp) (S : AS) (t : TI) (u : UA) : Prop := ∀ (Φ : RS → List G → Prop) (R : It → Hp → Prop), u ρ Φ → Rel F S ρ σ H →
  (∀ ρ' gs J H' S', Φ ρ' gs → Nxt S H S' H' → Rel F S' ρ' σ H' → IsIt F S' H' J gs → R J H') → t σ H R
theorem le_forAt {F : Fr} {ρ : RS} {σ : L2.St} {H : Hp} {S : AS} {B : Bs} {E : Ends} {is : List Nat} {wi : TI} {ui : UA} {g : TG} {ug : UG} {tb : TS} {ub : US} (hi : LIat F ρ σ H S wi ui) (hg : LG F is g ug) (hb : LS F tb ub) (q : uFor ui ug ub B ρ) (R : Rel F S ρ σ H) (m : Em F S H B E) : tFor wi g tb E σ H := hi _ _ q R fun ρ1 gs J H1 S1 ⟨Iv, i0, is, ie⟩ n1 R1 it => by
    refine ⟨fun i m σ' H' => m = gs.length - i ∧ i ≤ gs.length ∧ ∃ ρ' S', Iv i ρ' ∧ Nxt S1 H1 S' H' ∧ Rel F S' ρ' σ' H', ⟨_, rfl, Nat.zero_le _, ρ1, S1, i0, .refl _ _, R1⟩, ?_⟩
    rintro i m' σ' H' ⟨rfl, hi', ρ', S', iv, n', R'⟩
    by_cases hlt : i < gs.length
    · refine .inr ⟨it.go i H' S' hlt n', fun σ2 H2 => ∃ ρ2 S2, Iv (i + 1) ρ2 ∧ Nxt S1 H1 S2 H2 ∧ Rel F S2 ρ2 σ2 H2, fun σ2 H2 ⟨ρ2, S2, a, b, c⟩ => ⟨gs.length - (i + 1), by omega, rfl, hlt, ρ2, S2, a, b, c⟩, fun x H2 y => ?_⟩
      obtain ⟨s2, g', eg, r2⟩ := it.yld i H' S' x H2 hlt n' y
      obtain ⟨R2, n2⟩ := R'.same s2
      refine hg g' x ρ' _ σ' H2 S' _ (is i g' ρ' eg iv) R2 r2 fun ρ3 σ3 H3 S3 q3 n3 R3 _ => ?_
      have n03 : Nxt S1 H1 S3 H3 := (n'.trans n2).trans n3
      refine hb ρ3 _ σ3 H3 S3 _ q3 R3 ⟨fun ρ4 σ4 H4 S4 q4 n4 R4 => ⟨ρ4, S4, q4, n03.trans n4, R4⟩, fun ρ4 σ4 H4 S4 g4 v4 q4 n4 R4 r4 => m.rt ρ4 σ4 H4 S4 g4 v4 q4 ((n1.trans n03).trans n4) R4 r4, fun ρ4 σ4 H4 S4 q4 n4 R4 => m.nx ρ4 σ4 H4 S4 q4 ((n1.trans n03).trans n4) R4, fun ρ4 σ4 H4 S4 q4 n4 R4 => ⟨ρ4, S4, q4, n03.trans n4, R4⟩⟩
    · have e : i = gs.length := by omega
      subst e
      exact .inl ⟨it.stop H' S' n', m.nx ρ' σ' H' S' (ie ρ' iv) (n1.trans n') R'⟩
theorem le_for {F : Fr} {is : List Nat} {wi : TI} {ui : UA} {g : TG} {ug : UG} {tb : TS} {ub : US} (hi : LI F wi ui) (hg : LG F is g ug) (hb : LS F tb ub) : LS F (tFor wi g tb) (uFor ui ug ub) := fun ρ _ σ H S _ q R m => le_forAt (fun Φ R' => hi ρ Φ σ H S R') hg hb q R m
theorem gs_for {is : List Nat} {iter tg : Expr} {body : List Stmt} {wi : TI} {ui : UA} {g : TG} {ug : UG} {tb : TS} {ub : US} (hp : PassesOwn (model X.prog X.w) X.A X.env X.xe) (hc : X.calm = true) (hi : GI X tg iter wi ui) (hg : GG X is tg g ug) (hb : GSs X body tb ub)
    (hs : ∀ x, foldedSetIterable iter X.env x = pure x := by intro _; rfl) : GS X (.For tg iter body [] pos) (tFor wi g tb) (uFor ui ug ub) :=
  ⟨ps_for hp hc hi.pe hg.pe hb.pe hs, fun F k => le_for (hi.le F k) (hg.le F k) (hb.le F k)⟩
def uWhile (uc : UT) (ub : US) : US := fun B ρ => ∃ Z : Nat → RS → Prop, (∃ m, Z m ρ) ∧ ∀ m ρ, Z m ρ → uc ρ fun ρ1 b => if b = true then ub { B with nx := fun ρ' => ∃ m', m' < m ∧ Z m' ρ', ct := fun ρ' => ∃ m', m' < m ∧ Z m' ρ', bk := B.nx } ρ1 else B.nx ρ1
theorem gs_while {c : Expr} {body : List Stmt} {tc : TT} {uc : UT} {tb : TS} {ub : US} (hp : PassesOwn (model X.prog X.w) X.A X.env X.xe) (hc : GT X c tc uc) (hb : GSs X body tb ub) : GS X (.While c body [] pos) (tWhile tc tb) (uWhile uc ub) :=
  ⟨ps_while hp hc.pe hb.pe, fun F k ρ B σ H S E ⟨Z, ⟨m0, z0⟩, zs⟩ R m => by
    refine ⟨fun m σ' H' => ∃ ρ' S', Z m ρ' ∧ Nxt S H S' H' ∧ Rel F S' ρ' σ' H', ⟨m0, ρ, S, z0, .refl _ _, R⟩, ?_⟩
    rintro m1 σ' H' ⟨ρ', S', z', n', R'⟩
    refine hc.le F k ρ' _ σ' H' S' _ (zs m1 ρ' z') R' fun ρ2 b H2 S2 q2 n2 R2 => ?_
    cases b with
    | false => exact m.nx ρ2 σ' H2 S2 q2 (n'.trans n2) R2
    | true =>
      refine ⟨fun σ3 H3 => ∃ m', m' < m1 ∧ ∃ ρ3 S3, Z m' ρ3 ∧ Nxt S H S3 H3 ∧ Rel F S3 ρ3 σ3 H3, fun σ3 H3 h => h, ?_⟩
      refine hb.le F k ρ2 _ σ' H2 S2 _ q2 R2 ⟨fun ρ4 σ4 H4 S4 ⟨m', l, z⟩ n4 R4 => ⟨m', l, ρ4, S4, z, (n'.trans n2).trans n4, R4⟩, fun ρ4 σ4 H4 S4 g4 v4 q4 n4 R4 r4 => m.rt ρ4 σ4 H4 S4 g4 v4 q4 ((n'.trans n2).trans n4) R4 r4, fun ρ4 σ4 H4 S4 q4 n4 R4 => m.nx ρ4 σ4 H4 S4 q4 ((n'.trans n2).trans n4) R4, fun ρ4 σ4 H4 S4 ⟨m', l, z⟩ n4 R4 => ⟨m', l, ρ4, S4, z, (n'.trans n2).trans n4, R4⟩⟩⟩
end
end Zn
/-! defs and their calls, operators, built-ins -/
namespace Zn
open PySem PySem.Spec PyProof.Rows L2 TL
structure Okw (W : Wd) (S : AS) (H : Hp) : Prop where
  dom : ∀ a, S a → H a ≠ none
  dr : W.dr → S W.d ∧ ¬ S W.c ∧ Drw H W.d W.c
structure Aft (W : Wd) (H H' : Hp) : Prop where
  x : ∀ b o, ¬ (W.dr ∧ b = W.d) → H b = some o → H' b = some o
  dr : W.dr → Drw H' W.d W.c
theorem Aft.of {W : Wd} {S : AS} {H H' : Hp} (o : Okw W S H) (s : Same H H') : Aft W H H' := ⟨fun b u _ e => s b u e, fun k => (o.dr k).2.2.same s⟩
/-- a def, told of values -/
def spG (K : PySem.W.Frag) (uf : List G → (G → Prop) → Prop) : Sp := fun vs H Q _ => ∃ (W : Wd) (S : AS) (gs : List G) (Φ : G → Prop), W.K = K ∧ uf gs Φ ∧ Okw W S H ∧ RgL W S H gs vs ∧
  ∀ g v H', Φ g → Aft W H H' → Rg W S H' g v → Q v H'
theorem Rel.okw {F : Fr} {S : AS} {ρ : RS} {σ : L2.St} {H : Hp} (R : Rel F S ρ σ H) : Okw F.toWd S H := ⟨R.dom, fun k => ⟨R.s0 _ (R.ok.d k).1, R.dr k⟩⟩
def uCal (uf : List G → (G → Prop) → Prop) (ua : UA) : UE := fun ρ Φ => ua ρ fun ρ1 gs => uf gs fun g => Φ ρ1 g
theorem le_cal {F : Fr} {uf} {t : TA} {ua : UA} (h : LA F t ua) : LE F (tCal (spG F.K uf) t) (uCal uf ua) := fun ρ Φ σ H S Q q R k => h ρ _ σ H S _ q R fun ρ1 gs vs H1 S1 q1 n1 R1 r1 =>
  ⟨F.toWd, S1, gs, _, rfl, q1, R1.okw, r1, fun g v H' q2 af r2 => by
    obtain ⟨R2, n2⟩ := R1.step af.x af.dr
    exact k ρ1 g v H' S1 q2 (n1.trans n2) R2 r2⟩
section
variable {X : Cx}
theorem ge_cal {x : Str} {k : Nat} {uf} {e : Expr} {es : List Expr} {t : TA} {ua : UA} {p pos : Pos} (C : Cal X.prog X.w X.K X.mg X.base x k (spG X.K uf)) (hr : Room k X.A) (hg : Gl X x) (ha : GA X (e :: es) t ua)
    (hdb : (x == ("__debug__" : Str)) = false := by decide) (he : starEach (e :: es) X.env = (false, eval e X.env) :: starEach es X.env := by rfl)
    (hpl : (backTo pos (starEach es X.env)).any (·.1) = false := by rfl) : GE X (.Call (.Name x p) (e :: es) [] pos) (tCal (spG X.K uf) t) (uCal uf ua) :=
  ⟨pe_cal C hr hg ha.pe hdb he hpl, fun F h => h ▸ le_cal (ha.le F h)⟩
theorem ge_cal0 {x : Str} {k : Nat} {uf} {p pos : Pos} (C : Cal X.prog X.w X.K X.mg X.base x k (spG X.K uf)) (hr : Room k X.A) (hg : Gl X x)
    (hdb : (x == ("__debug__" : Str)) = false := by decide) : GE X (.Call (.Name x p) [] [] pos) (tCal (spG X.K uf) tNil) (uCal uf uNil) :=
  ⟨pe_cal0 C hr hg hdb, fun F h => h ▸ le_cal ((ga_nil (X := X)).le F h)⟩
end
/-- what is wanted of a def's body -/
def ends0 (Φ : G → Prop) : Bs := { nx := fun _ => Φ .non, rt := fun _ g => Φ g }
def startR (N : List Str) (gs : List G) : RS := gs.map SG.fz ++ List.replicate (N.length - gs.length) SG.un
section
variable {P : Program} {w : World} {K : PySem.W.Frag} {mg : Str → Option Value} {base : Heap}
theorem rel_start {W : Wd} {S : AS} {H : Hp} {gs : List G} {vs : List V} {N : List Str} (o : Okw W S H) (r : RgL W S H gs vs) : Rel { toWd := W, ps := [], H0 := H, S0 := S, pn := [] } S (startR N gs) (start N vs) H := by
  refine ⟨⟨o.dom, fun k => ⟨(o.dr k).1, by simp⟩, fun a h => (nomatch h)⟩, o.dom, fun _ h => h, fun k => (o.dr k).2, fun _ _ _ _ h => h, fun _ _ h => h, ?_, fun a h => (nomatch h), fun i s hi => ?_, fun i j f g f' g' _ hi _ => ?_, fun p h => (nomatch h)⟩
  · unfold L2.start startR
    rw [List.length_append, List.length_append, List.length_map, List.length_map, List.length_replicate, List.length_replicate, r.len]
  · unfold startR at hi
    by_cases l : i < gs.length
    · rw [List.getElem?_append_left (by rw [List.length_map]; exact l)] at hi
      obtain ⟨g, hg, rfl⟩ := get_map hi
      obtain ⟨v, hv, rv⟩ := r.get' hg
      refine ⟨some v, ?_, v, rfl, rv⟩
      unfold L2.start
      rw [List.getElem?_append_left (by rw [List.length_map, r.len]; exact l), List.getElem?_map, hv]
      rfl
    · rw [List.getElem?_append_right (by rw [List.length_map]; omega)] at hi
      have e : s = .un := (List.mem_replicate.mp (List.mem_of_getElem? hi)).2
      subst e
      have l2 := (List.getElem?_eq_some_iff.mp hi).1
      rw [List.length_replicate, List.length_map] at l2
      unfold L2.start
      refine ⟨none, ?_, trivial⟩
      rw [List.getElem?_append_right (by rw [List.length_map, r.len]; omega), List.getElem?_replicate, if_pos (by rw [List.length_map, r.len]; exact l2)]
  · unfold startR at hi
    exfalso
    rcases List.mem_append.mp (List.mem_of_getElem? hi) with m | m
    · obtain ⟨z, _, e⟩ := List.mem_map.mp m
      cases e
    · have := (List.mem_replicate.mp m).2
      cases this
theorem g_ok {x : Str} {st : Stmt} {f : Addr} {fd : FuncData} {N ps : List Str} {k : Nat} {uf : List G → (G → Prop) → Prop} (F : Fun K x x st f fd) (sc : FnScope N ps (defScope st)) (hl : ∀ gs Φ, uf gs Φ → gs.length = ps.length)
    (body : ∀ (cdv : Value) (A : Around) (outer : List Env) (s : Shared) (H : Hp) (E : XK), Room k (A.deeper (envOfC x (defScope st) s.heap.objs.size f cdv)) →
      ∃ t u, GSs (cxOf CX0 P w K mg base N x (defScope st) f cdv A outer s H E).nox (defBody st) t u ∧ ∀ gs Φ, uf gs Φ → u (ends0 Φ) (startR N gs)) : FnOk P w K mg base CX0 (k + 1) f fd ps (spG K uf) := by
  refine F.ok sc (fun vs H Q E ⟨W, S, gs, Φ, _, h1, _, h2, _⟩ => by rw [h2.len]; exact hl gs Φ h1) (fun cdv A outer s H vs Q E hr h => ?_)
  obtain ⟨W, S, gs, Φ, hk, h1, h2, h3, h4⟩ := h
  obtain ⟨t, u, g, q⟩ := body cdv A outer s H E hr
  refine ⟨t, g.pe, ?_⟩
  have fin : ∀ {ρ' σ' H' S'} {g : G} {v : V}, Φ g → Rel { toWd := W, ps := [], H0 := H, S0 := S, pn := [] } S' ρ' σ' H' → Rg W S' H' g v → Q v H' := fun {ρ' σ' H' S' g v} q' R' r' => by
    refine h4 g v H' q' ⟨fun b o z e => R'.kx b o z (by simp) e, fun k => (R'.dr k).2⟩ (r'.nx (Nxt.less R'.s0))
  refine g.le { toWd := W, ps := [], H0 := H, S0 := S, pn := [] } hk _ _ _ H S _ (q gs Φ h1) (rel_start h2 h3) ⟨?_, ?_, ?_, ?_⟩
  · exact fun ρ' σ' H' S' q' n' R' => fin (g := .non) q' R' rfl
  · exact fun ρ' σ' H' S' g v q' n' R' r' => fin q' R' r'
  · exact fun _ _ _ _ q' _ _ => q'.elim
  · exact fun _ _ _ _ q' _ _ => q'.elim
end
/-! the drawer's defs, told of values -/
def ufDraw : List G → (G → Prop) → Prop := fun gs Φ => ∃ m : Int, gs = [.drw, .int m] ∧ 1 ≤ m ∧ m < 1073741824 ∧ ∀ n : Int, 0 ≤ n → n < m → Φ (.int n)
theorem draw_g {K : PySem.W.Frag} {vs : List V} {H : Hp} {Q : VK} {E : XK} (h : spG K ufDraw vs H Q E) : spDraw vs H Q E := by
  obtain ⟨W, S, gs, Φ, hk, ⟨m, rfl, m1, m2, hq⟩, o, r, q⟩ := h
  obtain ⟨v1, ws1, rfl, ⟨dr, rfl⟩, r⟩ := r
  obtain ⟨v2, ws2, rfl, r2, r⟩ := r
  cases r
  cases (show v2 = .int m from r2)
  refine ⟨W.d, W.c, m, rfl, (o.dr dr).2.2, m1, m2, fun n xs n0 n1 D => ?_⟩
  exact q (.int n) _ _ (hq n n0 n1) ⟨fun b u z e => by rw [upd_ne (fun k => z ⟨dr, k⟩)]; exact e, fun _ => D⟩ rfl
theorem Cal.imp {P : Program} {w : World} {K : PySem.W.Frag} {mg : Str → Option Value} {base : Heap} {x : Str} {k : Nat} {sp sp' : Sp} (C : Cal P w K mg base x k sp) (h : ∀ vs H Q E, sp' vs H Q E → sp vs H Q E) : Cal P w K mg base x k sp' := by
  obtain ⟨f, hm, F, hk⟩ := C
  exact ⟨f, hm, F.imp h, hk⟩
end Zn
/-! operators, built-ins -/
namespace Zn
open PySem PySem.Spec PyProof.Rows L2 TL
/-- what is only looked at: a still thing or one's own -/
def RgB (W : Wd) (S : AS) (H : Hp) (g : G) (v : V) : Prop := Rg W S H g v ∨ ∃ p o, v = .ref p ∧ H p = some o ∧ RgO W S H g o
theorem RgB.nx {W : Wd} {S : AS} {H H' : Hp} {g : G} {v : V} (h : RgB W S H g v) (s : Same H H') : RgB W S H' g v := by
  rcases h with h | ⟨p, o, e, h1, h2⟩
  · exact .inl (h.nx (Nxt.same s))
  · exact .inr ⟨p, o, e, s _ _ h1, h2.nx (Nxt.same s)⟩
theorem RgB.lst {W : Wd} {S : AS} {H : Hp} {gs : List G} {v : V} (h : RgB W S H (.lst gs) v) : ∃ p vs, v = .ref p ∧ H p = some (.lst vs) ∧ RgL W S H gs vs := by
  rcases h with ⟨p, vs, e, _, h1, h2⟩ | ⟨p, o, e, h1, vs, rfl, h2⟩
  · exact ⟨p, vs, e, h1, h2⟩
  · exact ⟨p, vs, e, h1, h2⟩
theorem RgB.tup {W : Wd} {S : AS} {H : Hp} {gs : List G} {v : V} (h : RgB W S H (.tup gs) v) : ∃ p vs, v = .ref p ∧ SqT W.K H p vs ∧ RgL W S H gs vs := by
  rcases h with ⟨p, vs, e, h1, h2⟩ | ⟨p, o, e, h1, h2⟩
  · exact ⟨p, vs, e, h1.sq, h2⟩
  · exact h2.elim
/-- the items of a list or tuple -/
def sq : G → Option (List G)
  | .lst gs => some gs
  | .tup gs => some gs
  | _ => none
theorem RgB.seq {W : Wd} {S : AS} {H : Hp} {g : G} {gs : List G} {v : V} (h : RgB W S H g v) (e : sq g = some gs) : ∃ p vs, v = .ref p ∧ (SqL W.K H p vs ∨ SqT W.K H p vs) ∧ RgL W S H gs vs := by
  cases g with
  | lst xs =>
    cases e
    obtain ⟨p, vs, e, h1, h2⟩ := h.lst
    exact ⟨p, vs, e, .inl (sl_of h1), h2⟩
  | tup xs =>
    cases e
    obtain ⟨p, vs, e, h1, h2⟩ := h.tup
    exact ⟨p, vs, e, .inr h1, h2⟩
  | _ => cases e
def LB (F : Fr) (t : TE) (u : UE) : Prop := ∀ (ρ : RS) (Φ : RS → G → Prop) (σ : L2.St) (H : Hp) (S : AS) (Q : VK), u ρ Φ → Rel F S ρ σ H →
  (∀ ρ' g v H' S', Φ ρ' g → Nxt S H S' H' → Rel F S' ρ' σ H' → RgB F.toWd S' H' g v → Q v H') → t σ H Q
structure GB (X : Cx) (e : Expr) (t : TE) (u : UE) : Prop where
  pe : PE X e t
  le : ∀ F : Fr, F.K = X.K → LB F t u
theorem GE.gb {X : Cx} {e : Expr} {t : TE} {u : UE} (h : GE X e t u) : GB X e t u := ⟨h.pe, fun F k ρ Φ σ H S Q q R j => h.le F k ρ Φ σ H S Q q R fun ρ' g v H' S' q' n' R' r' => j ρ' g v H' S' q' n' R' (.inl r')⟩
def uBor (i : Nat) : UE := fun ρ Φ => ∃ f g, ρ[i]? = some (.ow f g) ∧ Φ ρ g
section
variable {X : Cx} {e a b : Expr} {t ta tb : TE} {u ua ub : UE} {pos : Pos}
theorem gb_var {i : Nat} {x : Str} (hN : X.N[i]? = some x) (hv : Vis X.env.scope x) (hd : (x == ("__debug__" : Str)) = false := by decide) (hcd : (x == ("__classdict__" : Str)) = false := by decide) : GB X (.Name x pos) (tVar i) (uBor i) :=
  ⟨pe_var hN hv hd hcd, fun F _ ρ Φ σ H S Q ⟨f, g, hg, q⟩ R k => by
    obtain ⟨a, u, ha, h1, h2, h3, _⟩ := R.own hg
    exact ⟨_, ha, k ρ g _ H S q (.refl _ _) R (.inr ⟨a, u, rfl, h2, h3⟩)⟩⟩
/-- operators whose right side is only looked at -/
def Lr2B (K : PySem.W.Frag) (r : R2) (ur : G → G → (G → Prop) → Prop) : Prop := ∀ (W : Wd) (S : AS) (H : Hp) (g1 g2 : G) (v1 v2 : V) (Φ : G → Prop) (Q : VK), W.K = K → (∀ a, S a → H a ≠ none) → Rg W S H g1 v1 → RgB W S H g2 v2 → ur g1 g2 Φ →
  (∀ g v H', Φ g → Same H H' → Rg W S H' g v → Q v H') → r v1 v2 H Q
structure GOpB (X : Cx) (f : Value → Value → Sem Value) (r : R2) (ur : G → G → (G → Prop) → Prop) : Prop where
  ho : OpR X f r
  le : Lr2B X.K r ur
theorem le_opB {F : Fr} {r : R2} {ur : G → G → (G → Prop) → Prop} (h : Lr2B F.K r ur) (ha : LE F ta ua) (hb : LB F tb ub) : LE F (tOp r ta tb) (uOp ur ua ub) := fun ρ Φ σ H S Q q R k => by
  refine ha ρ _ σ H S _ q R fun ρ1 g1 v1 H1 S1 q1 n1 R1 r1 => ?_
  refine hb ρ1 _ σ H1 S1 _ q1 R1 fun ρ2 g2 v2 H2 S2 q2 n2 R2 r2 => ?_
  refine h F.toWd S2 H2 g1 g2 v1 v2 _ _ rfl R2.dom (r1.nx n2) r2 q2 fun g v H' q3 s3 r3 => ?_
  obtain ⟨R3, n3⟩ := R2.same s3
  exact k ρ2 g v H' S2 q3 ((n1.trans n2).trans n3) R3 r3
theorem ge_cmpB {op : CmpOp} {r : R2} {ur} (ho : GOpB X (compareOp op) r ur) (ha : GE X a ta ua) (hb : GB X b tb ub) (hm : behindInMarks op b = false) : GE X (.Compare a [op] [b] pos) (tOp r ta tb) (uOp ur ua ub) := ⟨pe_cmpR ho.ho ha.pe hb.pe hm, fun F h => le_opB (h ▸ ho.le) (ha.le F h) (hb.le F h)⟩
theorem gt_cmpB {op : CmpOp} {r : R2} {ur} (ho : GOpB X (compareOp op) r ur) (ha : GE X a ta ua) (hb : GB X b tb ub) (hm : behindInMarks op b = false) : GT X (.Compare a [op] [b] pos) (tTest (tOp r ta tb)) (uTest (uOp ur ua ub)) := ⟨pt_cmpR ho.ho ha.pe hb.pe hm, fun F h => le_test (le_opB (h ▸ ho.le) (ha.le F h) (hb.le F h))⟩
/-! ints -/
def u2 (C : Int → Int → Prop) (f : Int → Int → G) : G → G → (G → Prop) → Prop := fun x y Φ => ∃ i j, x = .int i ∧ y = .int j ∧ C i j ∧ Φ (f i j)
def u20 (f : Int → Int → G) : G → G → (G → Prop) → Prop := fun x y Φ => ∃ i j, x = .int i ∧ y = .int j ∧ Φ (f i j)
theorem lr_I {K : PySem.W.Frag} {C : Int → Int → Prop} {f : Int → Int → V} {f' : Int → Int → G} (h : ∀ W S H i j, Rg W S H (f' i j) (f i j)) : Lr2 K (rI C f) (u2 C f') := fun W S H g1 g2 v1 v2 Φ Q _ _ r1 r2 ⟨i, j, e1, e2, c, q⟩ k => by
  subst e1
  subst e2
  exact ⟨i, j, r1, r2, c, k _ _ H q (.refl _) (h _ _ _ _ _)⟩
theorem lr_I0 {K : PySem.W.Frag} {f : Int → Int → V} {f' : Int → Int → G} (h : ∀ W S H i j, Rg W S H (f' i j) (f i j)) : Lr2 K (rI0 f) (u20 f') := fun W S H g1 g2 v1 v2 Φ Q _ _ r1 r2 ⟨i, j, e1, e2, q⟩ k => by
  subst e1
  subst e2
  exact ⟨i, j, r1, r2, k _ _ H q (.refl _) (h _ _ _ _ _)⟩
theorem go_add : GOp X (binaryOp .Add) (rI0 fun i j => .int (i + j)) (u20 fun i j => .int (i + j)) := ⟨op_add, lr_I0 fun _ _ _ _ _ => rfl⟩
theorem go_sub : GOp X (binaryOp .Sub) (rI0 fun i j => .int (i - j)) (u20 fun i j => .int (i - j)) := ⟨op_sub, lr_I0 fun _ _ _ _ _ => rfl⟩
theorem go_mul : GOp X (binaryOp .Mult) (rI CMul fun i j => .int (i * j)) (u2 CMul fun i j => .int (i * j)) := ⟨op_mul, lr_I fun _ _ _ _ _ => rfl⟩
theorem go_fdiv : GOp X (binaryOp .FloorDiv) (rI CDiv fun i j => .int (i / j)) (u2 CDiv fun i j => .int (i / j)) := ⟨op_fdiv, lr_I fun _ _ _ _ _ => rfl⟩
theorem go_mod : GOp X (binaryOp .Mod) (rI (fun _ j => 0 < j) fun i j => .int (i % j)) (u2 (fun _ j => 0 < j) fun i j => .int (i % j)) := ⟨op_mod, lr_I fun _ _ _ _ _ => rfl⟩
theorem go_shl : GOp X (binaryOp .LShift) (rI CPow fun i j => .int (i * 2 ^ j.toNat)) (u2 CPow fun i j => .int (i * 2 ^ j.toNat)) := ⟨op_shl, lr_I fun _ _ _ _ _ => rfl⟩
theorem go_shr : GOp X (binaryOp .RShift) (rI (fun _ j => 0 ≤ j) fun i j => .int (i / 2 ^ j.toNat)) (u2 (fun _ j => 0 ≤ j) fun i j => .int (i / 2 ^ j.toNat)) := ⟨op_shr, lr_I fun _ _ _ _ _ => rfl⟩
theorem go_and : GOp X (binaryOp .BitAnd) (rI0 fun i j => .int (Builtin.bitAnd i j)) (u20 fun i j => .int (Builtin.bitAnd i j)) := ⟨op_and, lr_I0 fun _ _ _ _ _ => rfl⟩
theorem go_or : GOp X (binaryOp .BitOr) (rI0 fun i j => .int (Builtin.bitOr i j)) (u20 fun i j => .int (Builtin.bitOr i j)) := ⟨op_or, lr_I0 fun _ _ _ _ _ => rfl⟩
theorem go_xor : GOp X (binaryOp .BitXor) (rI0 fun i j => .int (Builtin.bitXor i j)) (u20 fun i j => .int (Builtin.bitXor i j)) := ⟨op_xor, lr_I0 fun _ _ _ _ _ => rfl⟩
theorem go_lt : GOp X (compareOp .Lt) (rI0 fun i j => .bl (decide (i < j))) (u20 fun i j => .bl (decide (i < j))) := ⟨op_lt, lr_I0 fun _ _ _ _ _ => rfl⟩
theorem go_le : GOp X (compareOp .LtE) (rI0 fun i j => .bl (decide (i ≤ j))) (u20 fun i j => .bl (decide (i ≤ j))) := ⟨op_le, lr_I0 fun _ _ _ _ _ => rfl⟩
theorem go_gt : GOp X (compareOp .Gt) (rI0 fun i j => .bl (decide (j < i))) (u20 fun i j => .bl (decide (j < i))) := ⟨op_gt, lr_I0 fun _ _ _ _ _ => rfl⟩
theorem go_ge : GOp X (compareOp .GtE) (rI0 fun i j => .bl (decide (j ≤ i))) (u20 fun i j => .bl (decide (j ≤ i))) := ⟨op_ge, lr_I0 fun _ _ _ _ _ => rfl⟩
theorem dec_int {i j : Int} : decide (V.int i = V.int j) = decide (i = j) := by
  rw [decide_eq_decide]
  exact ⟨fun h => by cases h; rfl, fun h => by rw [h]⟩
theorem dec_str {i j : Str} : decide (V.str i = V.str j) = decide (i = j) := by
  rw [decide_eq_decide]
  exact ⟨fun h => by cases h; rfl, fun h => by rw [h]⟩
theorem dec_bl {i j : Bool} : decide (V.bl i = V.bl j) = decide (i = j) := by
  rw [decide_eq_decide]
  exact ⟨fun h => by cases h; rfl, fun h => by rw [h]⟩
theorem go_eqI : GOp X (compareOp .Eq) rEq (u20 fun i j => .bl (decide (i = j))) := ⟨op_eq, fun W S H g1 g2 v1 v2 Φ Q _ _ r1 r2 ⟨i, j, e1, e2, q⟩ k => by
  subst e1
  subst e2
  cases (show v1 = .int i from r1)
  cases (show v2 = .int j from r2)
  refine ⟨rfl, ?_⟩
  rw [dec_int]
  exact k _ _ H q (.refl _) rfl⟩
theorem go_neI : GOp X (compareOp .NotEq) rNe (u20 fun i j => .bl (!decide (i = j))) := ⟨op_ne, fun W S H g1 g2 v1 v2 Φ Q _ _ r1 r2 ⟨i, j, e1, e2, q⟩ k => by
  subst e1
  subst e2
  cases (show v1 = .int i from r1)
  cases (show v2 = .int j from r2)
  refine ⟨rfl, ?_⟩
  rw [dec_int]
  exact k _ _ H q (.refl _) rfl⟩
def u2S (f : Str → Str → G) : G → G → (G → Prop) → Prop := fun x y Φ => ∃ i j, x = .str i ∧ y = .str j ∧ Φ (f i j)
theorem go_eqS : GOp X (compareOp .Eq) rEq (u2S fun i j => .bl (decide (i = j))) := ⟨op_eq, fun W S H g1 g2 v1 v2 Φ Q _ _ r1 r2 ⟨i, j, e1, e2, q⟩ k => by
  subst e1
  subst e2
  cases (show v1 = .str i from r1)
  cases (show v2 = .str j from r2)
  refine ⟨rfl, ?_⟩
  rw [dec_str]
  exact k _ _ H q (.refl _) rfl⟩
theorem go_neS : GOp X (compareOp .NotEq) rNe (u2S fun i j => .bl (!decide (i = j))) := ⟨op_ne, fun W S H g1 g2 v1 v2 Φ Q _ _ r1 r2 ⟨i, j, e1, e2, q⟩ k => by
  subst e1
  subst e2
  cases (show v1 = .str i from r1)
  cases (show v2 = .str j from r2)
  refine ⟨rfl, ?_⟩
  rw [dec_str]
  exact k _ _ H q (.refl _) rfl⟩
def u2B (f : Bool → Bool → G) : G → G → (G → Prop) → Prop := fun x y Φ => ∃ i j, x = .bl i ∧ y = .bl j ∧ Φ (f i j)
theorem go_eqB : GOp X (compareOp .Eq) rEq (u2B fun i j => .bl (decide (i = j))) := ⟨op_eq, fun W S H g1 g2 v1 v2 Φ Q _ _ r1 r2 ⟨i, j, e1, e2, q⟩ k => by
  subst e1
  subst e2
  cases (show v1 = .bl i from r1)
  cases (show v2 = .bl j from r2)
  refine ⟨rfl, ?_⟩
  rw [dec_bl]
  exact k _ _ H q (.refl _) rfl⟩
theorem go_neB : GOp X (compareOp .NotEq) rNe (u2B fun i j => .bl (!decide (i = j))) := ⟨op_ne, fun W S H g1 g2 v1 v2 Φ Q _ _ r1 r2 ⟨i, j, e1, e2, q⟩ k => by
  subst e1
  subst e2
  cases (show v1 = .bl i from r1)
  cases (show v2 = .bl j from r2)
  refine ⟨rfl, ?_⟩
  rw [dec_bl]
  exact k _ _ H q (.refl _) rfl⟩
/-- is None -/
def isN : G → Bool
  | .non => true
  | _ => false
theorem isN_v {W : Wd} {S : AS} {H : Hp} {g : G} {v : V} (h : Rg W S H g v) (nr : ∀ u, g ≠ .raw u) : decide (v = .non) = isN g := by
  cases g with
  | non => rw [show v = .non from h]; rfl
  | bl b => rw [show v = .bl b from h]; rfl
  | int b => rw [show v = .int b from h]; rfl
  | str b => rw [show v = .str b from h]; rfl
  | drw => rw [h.2]; rfl
  | raw u => exact (nr u rfl).elim
  | tup xs => obtain ⟨p, vs, rfl, _⟩ := h; rfl
  | lst xs => obtain ⟨p, vs, rfl, _⟩ := h; rfl
  | dK _ xs => obtain ⟨p, vs, rfl, _⟩ := h; rfl
  | dT _ xs => obtain ⟨p, vs, rfl, _⟩ := h; rfl
  | dN _ _ xs => obtain ⟨p, q, vs, rfl, _⟩ := h; rfl
  | obj _ => obtain ⟨p, q, rfl, _⟩ := h; rfl
  | ins _ _ _ _ => obtain ⟨p, q, rfl, _⟩ := h; rfl
def u2N (neg : Bool) : G → G → (G → Prop) → Prop := fun x y Φ => y = .non ∧ (∀ u, x ≠ .raw u) ∧ Φ (.bl (if neg = true then !isN x else isN x))
theorem go_isN : GOp X (compareOp .Is) (fun x y H Q => y = .non ∧ Q (.bl (decide (x = .non))) H) (u2N false) := ⟨op_isN, fun W S H g1 g2 v1 v2 Φ Q _ _ r1 r2 ⟨e, nr, q⟩ k => by
  subst e
  refine ⟨r2, ?_⟩
  rw [isN_v r1 nr]
  exact k _ _ H q (.refl _) rfl⟩
theorem go_notN : GOp X (compareOp .IsNot) (fun x y H Q => y = .non ∧ Q (.bl (!decide (x = .non))) H) (u2N true) := ⟨op_notN, fun W S H g1 g2 v1 v2 Φ Q _ _ r1 r2 ⟨e, nr, q⟩ k => by
  subst e
  refine ⟨r2, ?_⟩
  rw [isN_v r1 nr]
  exact k _ _ H q (.refl _) rfl⟩
/-- an int in ints -/
theorem inV_ints {n : Int} {ns : List Int} : inV (.int n) (ns.map V.int) = decide (n ∈ ns) := by
  unfold inV
  rw [List.any_map, Bool.eq_iff_iff, List.any_eq_true, decide_eq_true_iff]
  constructor
  · rintro ⟨m, hm, e⟩
    have : m = n := by simpa [eqV] using e
    exact this ▸ hm
  · intro h
    exact ⟨n, h, by simp [eqV]⟩
theorem flat_ints {ns : List Int} : (ns.map V.int).all flatV = true := by
  rw [List.all_map, List.all_eq_true]
  intro _ _
  rfl
def u2In (neg : Bool) : G → G → (G → Prop) → Prop := fun x y Φ => ∃ (n : Int) (ns : List Int), x = .int n ∧ sq y = some (ns.map G.int) ∧ Φ (.bl (if neg = true then !decide (n ∈ ns) else decide (n ∈ ns)))
theorem lr_in {K : PySem.W.Frag} {neg : Bool} : Lr2B K (rIn K neg) (u2In neg) := fun W S H g1 g2 v1 v2 Φ Q hk _ r1 r2 ⟨n, ns, e1, e2, q⟩ k => by
  subst e1
  subst hk
  cases (show v1 = .int n from r1)
  obtain ⟨p, vs, rfl, h1, h2⟩ := r2.seq e2
  cases h2.ints
  refine ⟨p, _, rfl, h1, rfl, flat_ints, ?_⟩
  rw [inV_ints]
  refine k _ _ H q (.refl _) ?_
  cases neg <;> rfl
theorem go_in : GOpB X (compareOp .In) (rIn X.K false) (u2In false) := ⟨op_in_seq, lr_in⟩
theorem go_notIn : GOpB X (compareOp .NotIn) (rIn X.K true) (u2In true) := ⟨op_notIn_seq, lr_in⟩
/-- a text in texts -/
theorem inV_strs {n : Str} {ns : List Str} : inV (.str n) (ns.map V.str) = decide (n ∈ ns) := by
  unfold inV
  rw [List.any_map, Bool.eq_iff_iff, List.any_eq_true, decide_eq_true_iff]
  constructor
  · rintro ⟨m, hm, e⟩
    have : m = n := by simpa [eqV] using e
    exact this ▸ hm
  · intro h
    exact ⟨n, h, by simp [eqV]⟩
theorem RgL.strs {W : Wd} {S : AS} {H : Hp} : ∀ {ns : List Str} {vs : List V}, RgL W S H (ns.map G.str) vs → vs = ns.map V.str
  | [], _, h => h
  | n :: ns, vs, h => by
    obtain ⟨v, ws, rfl, h1, h2⟩ := h
    have h1 : v = .str n := h1
    rw [h1, RgL.strs h2]
    rfl
def u2InS (neg : Bool) : G → G → (G → Prop) → Prop := fun x y Φ => ∃ (n : Str) (ns : List Str), x = .str n ∧ sq y = some (ns.map G.str) ∧ Φ (.bl (if neg = true then !decide (n ∈ ns) else decide (n ∈ ns)))
theorem lr_inS {K : PySem.W.Frag} {neg : Bool} : Lr2B K (rIn K neg) (u2InS neg) := fun W S H g1 g2 v1 v2 Φ Q hk _ r1 r2 ⟨n, ns, e1, e2, q⟩ k => by
  subst e1
  subst hk
  cases (show v1 = .str n from r1)
  obtain ⟨p, vs, rfl, h1, h2⟩ := r2.seq e2
  cases h2.strs
  refine ⟨p, _, rfl, h1, rfl, by rw [List.all_map, List.all_eq_true]; intro _ _; rfl, ?_⟩
  rw [inV_strs]
  refine k _ _ H q (.refl _) ?_
  cases neg <;> rfl
theorem go_inS : GOpB X (compareOp .In) (rIn X.K false) (u2InS false) := ⟨op_in_seq, lr_inS⟩
theorem go_notInS : GOpB X (compareOp .NotIn) (rIn X.K true) (u2InS true) := ⟨op_notIn_seq, lr_inS⟩
/-- tuple + tuple -/
def u2Cat : G → G → (G → Prop) → Prop := fun x y Φ => ∃ as bs, x = .tup as ∧ y = .tup bs ∧ as.length + bs.length ≤ 100000 ∧ Φ (.tup (as ++ bs))
theorem go_catA : GOp X (binaryOp .Add) (rCatA X.K) u2Cat := ⟨op_catA, fun W S H g1 g2 v1 v2 Φ Q hk _ r1 r2 ⟨as, bs, e1, e2, l, q⟩ k => by
  subst e1
  subst e2
  obtain ⟨p, vs, rfl, h1, h2⟩ := r1
  obtain ⟨p2, ws, rfl, k1, k2⟩ := r2
  have l1 := h2.len
  have l2 := k2.len
  rw [hk] at h1 k1
  refine ⟨p, p2, vs, ws, rfl, rfl, h1.sq, k1.sq, len_ok (by omega), fun e => ?_, fun e1 e => ?_, fun e1 e2 p3 hp => ?_⟩
  · have : as = [] := by rw [e] at l1; exact List.eq_nil_of_length_eq_zero l1.symm
    subst this
    exact k _ _ H q (.refl _) ⟨p2, ws, rfl, hk ▸ k1, k2⟩
  · have : bs = [] := by rw [e] at l2; exact List.eq_nil_of_length_eq_zero l2.symm
    subst this
    rw [List.append_nil] at q
    exact k _ _ H q (.refl _) ⟨p, vs, rfl, hk ▸ h1, h2⟩
  · exact k _ _ _ q (same_new hp) (rg_tup hp (h2.app k2))⟩
end
/-- a new list out of a look at values -/
def Nw (W : Wd) (S : AS) (H : Hp) (g : G) (Q : VK) : Prop := ∃ o, RgO W S H g o ∧ ∀ p, H p = none → Q (.ref p) (upd H p o)
/-- list + list -/
def Lr2N (K : PySem.W.Frag) (r : R2) (ur : G → G → (G → Prop) → Prop) : Prop := ∀ (W : Wd) (S : AS) (H : Hp) (g1 g2 : G) (v1 v2 : V) (Φ : G → Prop) (Q : VK), W.K = K → Rg W S H g1 v1 → RgB W S H g2 v2 → ur g1 g2 Φ →
  (∀ g o p, Φ g → H p = none → RgO W S H g o → Q (.ref p) (upd H p o)) → r v1 v2 H Q
structure GOpN (X : Cx) (f : Value → Value → Sem Value) (r : R2) (ur : G → G → (G → Prop) → Prop) : Prop where
  ho : OpR X f r
  le : Lr2N X.K r ur
section
variable {X : Cx} {e a b : Expr} {t ta tb : TE} {u ua ub : UE} {pos : Pos}
theorem gn_op {op : Operator} {r : R2} {ur} (ho : GOpN X (binaryOp op) r ur) (ha : GE X a ta ua) (hb : GB X b tb ub) : GN X (.BinOp a op b pos) (tOp r ta tb) (uOp ur ua ub) :=
  ⟨pe_op ho.ho ha.pe hb.pe, fun F h ρ Φ σ H S Q q R k => by
    refine ha.le F h ρ _ σ H S _ q R fun ρ1 g1 v1 H1 S1 q1 n1 R1 r1 => ?_
    refine hb.le F h ρ1 _ σ H1 S1 _ q1 R1 fun ρ2 g2 v2 H2 S2 q2 n2 R2 r2 => ?_
    refine ho.le F.toWd S2 H2 g1 g2 v1 v2 _ _ h (r1.nx n2) r2 q2 fun g o p q3 hp ro => ?_
    obtain ⟨n3, R3, r3, fr⟩ := new_lst R2 hp ro
    exact k ρ2 g p o _ _ q3 ((n1.trans n2).trans n3) R3 (.inr rfl) upd_same r3 fr⟩
def u2CatL : G → G → (G → Prop) → Prop := fun x y Φ => ∃ as bs, x = .lst as ∧ y = .lst bs ∧ as.length + bs.length ≤ 100000 ∧ Φ (.lst (as ++ bs))
theorem go_cat : GOpN X (binaryOp .Add) rCat u2CatL := ⟨op_cat, fun W S H g1 g2 v1 v2 Φ Q hk r1 r2 ⟨as, bs, e1, e2, l, q⟩ k => by
  subst e1
  subst e2
  obtain ⟨p, vs, rfl, _, h1, h2⟩ := r1
  obtain ⟨p2, ws, rfl, k1, k2⟩ := r2.lst
  have l1 := h2.len
  have l2 := k2.len
  exact ⟨p, p2, vs, ws, rfl, rfl, h1, k1, len_ok (by omega), fun p3 hp => k _ _ p3 q hp ⟨_, rfl, h2.app k2⟩⟩⟩
def u2Rep : G → G → (G → Prop) → Prop := fun x y Φ => ∃ as j, x = .lst as ∧ y = .int j ∧ -(2 ^ 63) ≤ j ∧ j < 2 ^ 63 ∧ as.length * j.toNat ≤ 100000 ∧ Φ (.lst (List.replicate j.toNat as).flatten)
theorem RgL.rep {W : Wd} {S : AS} {H : Hp} {gs : List G} {vs : List V} (h : RgL W S H gs vs) : ∀ n, RgL W S H (List.replicate n gs).flatten (List.replicate n vs).flatten
  | 0 => rfl
  | n + 1 => by
    rw [List.replicate_succ, List.replicate_succ, List.flatten_cons, List.flatten_cons]
    exact h.app (h.rep n)
theorem go_rep : GOpN X (binaryOp .Mult) rRep u2Rep := ⟨op_rep, fun W S H g1 g2 v1 v2 Φ Q hk r1 r2 ⟨as, j, e1, e2, j0, j1, l, q⟩ k => by
  subst e1
  subst e2
  obtain ⟨p, vs, rfl, _, h1, h2⟩ := r1
  have r2 : v2 = .int j := by
    rcases r2 with r2 | ⟨_, _, _, _, r2⟩
    · exact r2
    · exact r2.elim
  have l1 := h2.len
  exact ⟨p, j, vs, rfl, r2, h1, j0, j1, len_ok (by rw [l1]; exact l), fun p3 hp => k _ _ p3 q hp ⟨_, rfl, h2.rep _⟩⟩⟩
end
end Zn
/-! subscripts, slices, built-ins, what is walked, comprehensions, methods -/
namespace Zn
open PySem PySem.Spec PyProof.Rows L2 TL
section
variable {X : Cx} {e a b : Expr} {t ta tb : TE} {u ua ub : UE} {pos : Pos}
theorem RgL.at {W : Wd} {S : AS} {H : Hp} {gs : List G} {vs : List V} {i : Int} {g : G} (h : RgL W S H gs vs) (e : atI gs i = some g) : ∃ v, atI vs i = some v ∧ Rg W S H g v := by
  unfold atI at e ⊢
  rw [h.len]
  cases k : ixN gs.length i with
  | none => rw [k] at e; cases e
  | some j =>
    rw [k] at e
    exact h.get' e
def u2Ix : G → G → (G → Prop) → Prop := fun x y Φ => ∃ gs i g, sq x = some gs ∧ y = .int i ∧ atI gs i = some g ∧ Φ g
structure GIx (X : Cx) (r : R2) (ur : G → G → (G → Prop) → Prop) : Prop where
  ho : IxR X r
  le : Lr2 X.K r ur
theorem ge_ix {r : R2} {ur} (ho : GIx X r ur) (ha : GE X a ta ua) (hb : GE X b tb ub) (hs : PlainIx b) : GE X (.Subscript a b pos) (tOp r ta tb) (uOp ur ua ub) := ⟨pe_ix ho.ho ha.pe hb.pe hs, fun F h => le_op (h ▸ ho.le) (ha.le F h) (hb.le F h)⟩
def u2IxL : G → G → (G → Prop) → Prop := fun x y Φ => ∃ gs i g, x = .lst gs ∧ y = .int i ∧ atI gs i = some g ∧ Φ g
def u2IxT : G → G → (G → Prop) → Prop := fun x y Φ => ∃ gs i g, x = .tup gs ∧ y = .int i ∧ atI gs i = some g ∧ Φ g
theorem gi_list : GIx X (rIxL X.K) u2IxL := ⟨ix_list, fun W S H g1 g2 v1 v2 Φ Q hk _ r1 r2 ⟨gs, i, g, e1, e2, e3, q⟩ k => by
  subst e1
  subst e2
  obtain ⟨p, vs, rfl, _, h1, h2⟩ := r1
  obtain ⟨v, hv, rv⟩ := h2.at e3
  exact ⟨p, vs, i, v, rfl, r2, sl_of h1, hv, k _ _ H q (.refl _) rv⟩⟩
theorem gi_tup : GIx X (rIxT X.K) u2IxT := ⟨ix_tup, fun W S H g1 g2 v1 v2 Φ Q hk _ r1 r2 ⟨gs, i, g, e1, e2, e3, q⟩ k => by
  subst e1
  subst e2
  obtain ⟨p, vs, rfl, h1, h2⟩ := r1
  obtain ⟨v, hv, rv⟩ := h2.at e3
  exact ⟨p, vs, i, v, rfl, r2, hk ▸ h1.sq, hv, k _ _ H q (.refl _) rv⟩⟩
/-- xs[i], xs one's own list -/
def uIxO (i : Nat) (ub : UE) : UE := fun ρ Φ => ∃ f g, ρ[i]? = some (.ow f g) ∧ ub ρ fun ρ1 y => ∃ f gs k g, ρ1[i]? = some (.ow f (.lst gs)) ∧ y = .int k ∧ atI gs k = some g ∧ Φ ρ1 g
theorem ge_ixO {i : Nat} {x : Str} {pos' : Pos} (hN : X.N[i]? = some x) (hv : Vis X.env.scope x) (hb : GE X b tb ub) (hs : PlainIx b) (hd : (x == ("__debug__" : Str)) = false := by decide) (hcd : (x == ("__classdict__" : Str)) = false := by decide) :
    GE X (.Subscript (.Name x pos') b pos) (tOp (rIxL X.K) (tVar i) tb) (uIxO i ub) :=
  ⟨pe_ix ix_list (pe_var hN hv hd hcd) hb.pe hs, fun F h ρ Φ σ H S Q ⟨f, g, hg, q⟩ R k => by
    obtain ⟨a, _, ha, _⟩ := R.own hg
    refine ⟨_, ha, hb.le F h ρ _ σ H S _ q R fun ρ1 y v H1 S1 ⟨f', gs, z, g', hg', e, hat, q1⟩ n1 R1 r1 => ?_⟩
    subst e
    obtain ⟨a', u, ha', h1, h2, ⟨vs, rfl, h3⟩, _⟩ := R1.own hg'
    rw [ha] at ha'
    cases ha'
    obtain ⟨w, hw, rw_⟩ := h3.at hat
    exact ⟨a, vs, z, w, rfl, r1, sl_of h2, hw, k ρ1 g' w H1 S1 q1 n1 R1 rw_⟩⟩
/-- slices -/
def cutG (xs : List G) (lo hi : Option Int) : List G := (xs.drop (HT.sIx xs.length 0 lo)).take (HT.sIx xs.length xs.length hi - HT.sIx xs.length 0 lo)
theorem RgL.cut {W : Wd} {S : AS} {H : Hp} {gs : List G} {vs : List V} (h : RgL W S H gs vs) (lo hi : Option Int) : RgL W S H (cutG gs lo hi) (cutV vs lo hi) := by
  unfold cutG cutV
  rw [h.len]
  exact (h.drop _).take _
def uNoP : UO := fun ρ Φ => Φ ρ none
def uPart (u : UE) : UO := fun ρ Φ => u ρ fun ρ1 g => ∃ i, g = .int i ∧ Φ ρ1 (some i)
theorem gp_none : GO X none tNoPart uNoP := ⟨po_none, fun F _ ρ Φ σ H S Q q R k => k ρ none H S q (.refl _ _) R⟩
theorem gp_some (h : GE X e t u) : GO X (some e) (tPart t) (uPart u) := ⟨po_some h.pe, fun F k ρ Φ σ H S Q q R j => h.le F k ρ _ σ H S _ q R fun ρ1 g v H1 S1 ⟨i, e, q1⟩ n1 R1 r1 => by
  subst e
  exact ⟨i, r1, j ρ1 _ H1 S1 q1 n1 R1⟩⟩
def uSlT (ua : UE) (ul uh : UO) : UE := fun ρ Φ => ua ρ fun ρ1 g => ul ρ1 fun ρ2 lo => uh ρ2 fun ρ3 hi => ∃ gs, g = .tup gs ∧ Φ ρ3 (.tup (cutG gs lo hi))
theorem ge_slT {lo hi : Option Expr} {tl th : TO} {ul uh : UO} {p2 : Pos} (he : GE X e t u) (hl : GO X lo tl ul) (hu : GO X hi th uh) : GE X (.Subscript e (.Slice lo hi none p2) pos) (tSl (rSlA X.K) t tl th) (uSlT u ul uh) :=
  ⟨pe_slice sl_tupA he.pe hl.pe hu.pe, fun F h ρ Φ σ H S Q q R k => he.le F h ρ _ σ H S _ q R fun ρ1 g v H1 S1 q1 n1 R1 r1 =>
    hl.le F h ρ1 _ σ H1 S1 _ q1 R1 fun ρ2 lo H2 S2 q2 n2 R2 => hu.le F h ρ2 _ σ H2 S2 _ q2 R2 fun ρ3 hi H3 S3 ⟨gs, e, q3⟩ n3 R3 => by
      subst e
      obtain ⟨p, vs, rfl, h1, h2⟩ := (r1.nx n2).nx n3
      refine ⟨p, vs, rfl, h ▸ h1.sq, fun ⟨e1, e2⟩ => ?_, fun _ p' hp => ?_⟩
      · have : cutG gs lo hi = gs := by
          unfold cutG
          rw [← h2.len, e1, e2, List.drop_zero, Nat.sub_zero, h2.len, List.take_length]
        rw [this] at q3
        exact k ρ3 _ _ H3 S3 q3 ((n1.trans n2).trans n3) R3 ⟨p, vs, rfl, h1, h2⟩
      · obtain ⟨R4, n4⟩ := R3.same (same_new (o := .tup (cutV vs lo hi)) hp)
        exact k ρ3 _ _ _ S3 q3 (((n1.trans n2).trans n3).trans n4) R4 (rg_tup hp (h2.cut lo hi))⟩
def uSlL (ua : UE) (ul uh : UO) : UE := fun ρ Φ => ua ρ fun ρ1 g => ul ρ1 fun ρ2 lo => uh ρ2 fun ρ3 hi => ∃ gs, g = .lst gs ∧ Φ ρ3 (.lst (cutG gs lo hi))
theorem gn_slL {lo hi : Option Expr} {tl th : TO} {ul uh : UO} {p2 : Pos} (he : GE X e t u) (hl : GO X lo tl ul) (hu : GO X hi th uh) : GN X (.Subscript e (.Slice lo hi none p2) pos) (tSl (rSlL X.K) t tl th) (uSlL u ul uh) :=
  ⟨pe_slice sl_list he.pe hl.pe hu.pe, fun F h ρ Φ σ H S Q q R k => he.le F h ρ _ σ H S _ q R fun ρ1 g v H1 S1 q1 n1 R1 r1 =>
    hl.le F h ρ1 _ σ H1 S1 _ q1 R1 fun ρ2 lo H2 S2 q2 n2 R2 => hu.le F h ρ2 _ σ H2 S2 _ q2 R2 fun ρ3 hi H3 S3 ⟨gs, e, q3⟩ n3 R3 => by
      subst e
      obtain ⟨p, vs, rfl, _, h1, h2⟩ := (r1.nx n2).nx n3
      refine ⟨p, vs, rfl, sl_of h1, fun p' hp => ?_⟩
      obtain ⟨n4, R4, r4, fr⟩ := new_lst (g := .lst (cutG gs lo hi)) R3 hp ⟨_, rfl, h2.cut lo hi⟩
      exact k ρ3 _ p' _ _ _ q3 (((n1.trans n2).trans n3).trans n4) R4 (.inr rfl) upd_same r4 fr⟩
/-! built-ins of one value that is looked at -/
def Lc1 (K : PySem.W.Frag) (r : List V → Hp → VK → Prop) (uc : G → (G → Prop) → Prop) : Prop := ∀ (W : Wd) (S : AS) (H : Hp) (g : G) (v : V) (Φ : G → Prop) (Q : VK), W.K = K → RgB W S H g v → uc g Φ → (∀ g' v' H', Φ g' → Same H H' → Rg W S H' g' v' → Q v' H') → r [v] H Q
def Lc1N (K : PySem.W.Frag) (r : List V → Hp → VK → Prop) (uc : G → (G → Prop) → Prop) : Prop := ∀ (W : Wd) (S : AS) (H : Hp) (g : G) (v : V) (Φ : G → Prop) (Q : VK), W.K = K → RgB W S H g v → uc g Φ → (∀ g' o p, Φ g' → H p = none → RgO W S H g' o → Q (.ref p) (upd H p o)) → r [v] H Q
def u1 (uc : G → (G → Prop) → Prop) (ua : UE) : UE := fun ρ Φ => ua ρ fun ρ1 g => uc g fun g' => Φ ρ1 g'
theorem le_c1 {F : Fr} {r} {uc} (h : Lc1 F.K r uc) (ha : LB F ta ua) : LE F (tCB r (tCons ta tNil)) (u1 uc ua) := fun ρ Φ σ H S Q q R k => ha ρ _ σ H S _ q R fun ρ1 g v H1 S1 q1 n1 R1 r1 => h F.toWd S1 H1 g v _ _ rfl r1 q1 fun g' v' H' q2 s r2 => by
  obtain ⟨R2, n2⟩ := R1.same s
  exact k ρ1 g' v' H' S1 q2 (n1.trans n2) R2 r2
theorem ln_c1 {F : Fr} {r} {uc} (h : Lc1N F.K r uc) (ha : LB F ta ua) : LN F (tCB r (tCons ta tNil)) (u1 uc ua) := fun ρ Φ σ H S Q q R k => ha ρ _ σ H S _ q R fun ρ1 g v H1 S1 q1 n1 R1 r1 => h F.toWd S1 H1 g v _ _ rfl r1 q1 fun g' o p q2 hp ro => by
  obtain ⟨n2, R2, r2, fr⟩ := new_lst R1 hp ro
  exact k ρ1 g' p o _ _ q2 (n1.trans n2) R2 (.inr rfl) upd_same r2 fr
structure GC (X : Cx) (f : Value) (r : List V → Hp → VK → Prop) (uc : G → (G → Prop) → Prop) : Prop where
  hc : CallR X f r
  le : Lc1 X.K r uc
structure GCN (X : Cx) (f : Value) (r : List V → Hp → VK → Prop) (uc : G → (G → Prop) → Prop) : Prop where
  hc : CallR X f r
  le : Lc1N X.K r uc
theorem ge_call1 {x : Str} {id : String} {r} {uc} {p : Pos} (c : GC X (.builtin id) r uc) (hg : Gl X x) (hm : X.mg x = none) (hv : bootBuiltins x = some (.builtin id)) (ha : GB X a ta ua) (hn : x ≠ "__name__" := by decide) (hdb : (x == ("__debug__" : Str)) = false := by decide)
    (he : starEach [a] X.env = (false, eval a X.env) :: starEach [] X.env := by rfl) : GE X (.Call (.Name x p) [a] [] pos) (tCB r (tCons ta tNil)) (u1 uc ua) :=
  ⟨pe_callB c.hc hg hm hv (pa_cons ha.pe pa_nil he) hn hdb he rfl, fun F h => le_c1 (h ▸ c.le) (ha.le F h)⟩
theorem ge_callTy1 {x : Str} {T : String} {r} {uc} {p : Pos} (c : GC X (.type T) r uc) (hg : Gl X x) (hm : X.mg x = none) (hv : bootBuiltins x = some (.type T)) (ha : GB X a ta ua) (hn : x ≠ "__name__" := by decide) (hdb : (x == ("__debug__" : Str)) = false := by decide)
    (he : starEach [a] X.env = (false, eval a X.env) :: starEach [] X.env := by rfl) : GE X (.Call (.Name x p) [a] [] pos) (tCB r (tCons ta tNil)) (u1 uc ua) :=
  ⟨pe_callTy c.hc hg hm hv (pa_cons ha.pe pa_nil he) hn hdb he rfl, fun F h => le_c1 (h ▸ c.le) (ha.le F h)⟩
theorem gn_call1 {x : Str} {id : String} {r} {uc} {p : Pos} (c : GCN X (.builtin id) r uc) (hg : Gl X x) (hm : X.mg x = none) (hv : bootBuiltins x = some (.builtin id)) (ha : GB X a ta ua) (hn : x ≠ "__name__" := by decide) (hdb : (x == ("__debug__" : Str)) = false := by decide)
    (he : starEach [a] X.env = (false, eval a X.env) :: starEach [] X.env := by rfl) : GN X (.Call (.Name x p) [a] [] pos) (tCB r (tCons ta tNil)) (u1 uc ua) :=
  ⟨pe_callB c.hc hg hm hv (pa_cons ha.pe pa_nil he) hn hdb he rfl, fun F h => ln_c1 (h ▸ c.le) (ha.le F h)⟩
theorem gn_callTy1 {x : Str} {T : String} {r} {uc} {p : Pos} (c : GCN X (.type T) r uc) (hg : Gl X x) (hm : X.mg x = none) (hv : bootBuiltins x = some (.type T)) (ha : GB X a ta ua) (hn : x ≠ "__name__" := by decide) (hdb : (x == ("__debug__" : Str)) = false := by decide)
    (he : starEach [a] X.env = (false, eval a X.env) :: starEach [] X.env := by rfl) : GN X (.Call (.Name x p) [a] [] pos) (tCB r (tCons ta tNil)) (u1 uc ua) :=
  ⟨pe_callTy c.hc hg hm hv (pa_cons ha.pe pa_nil he) hn hdb he rfl, fun F h => ln_c1 (h ▸ c.le) (ha.le F h)⟩
def ucLen : G → (G → Prop) → Prop := fun g Φ => ∃ gs, sq g = some gs ∧ Φ (.int gs.length)
theorem gc_len : GC X (.builtin "len") (fun xs H Q => ∃ p ys, xs = [.ref p] ∧ (SqL X.K H p ys ∨ SqT X.K H p ys) ∧ Q (.int ys.length) H) ucLen := ⟨call_len_seq, fun W S H g v Φ Q hk r ⟨gs, e, q⟩ k => by
  obtain ⟨p, vs, rfl, h1, h2⟩ := r.seq e
  refine ⟨p, vs, rfl, hk ▸ h1, ?_⟩
  rw [h2.len]
  exact k _ _ H q (.refl _) rfl⟩
def ucInt : G → (G → Prop) → Prop := fun g Φ => (∃ i, g = .int i ∧ Φ (.int i)) ∨ ∃ k, g = .bl k ∧ Φ (.int (if k = true then 1 else 0))
theorem RgB.scal {W : Wd} {S : AS} {H : Hp} {g : G} {v : V} (h : RgB W S H g v) (hn : ∀ o, ¬ RgO W S H g o) : Rg W S H g v := by
  rcases h with h | ⟨p, o, e, h1, h2⟩
  · exact h
  · exact (hn o h2).elim
theorem gc_int : GC X (.type "int") (fun xs H Q => (∃ i, xs = [.int i] ∧ Q (.int i) H) ∨ ∃ k, xs = [.bl k] ∧ Q (.int (if k then 1 else 0)) H) ucInt := ⟨call_int1, fun W S H g v Φ Q hk r h k => by
  rcases h with ⟨i, rfl, q⟩ | ⟨c, rfl, q⟩
  · have := r.scal fun o => id
    cases (show v = .int i from this)
    exact .inl ⟨i, rfl, k _ _ H q (.refl _) rfl⟩
  · have := r.scal fun o => id
    cases (show v = .bl c from this)
    exact .inr ⟨c, rfl, k _ _ H q (.refl _) rfl⟩⟩
def ucAbs : G → (G → Prop) → Prop := fun g Φ => ∃ i, g = .int i ∧ Φ (.int (if i < 0 then -i else i))
theorem gc_abs : GC X (.builtin "abs") (fun xs H Q => ∃ i, xs = [.int i] ∧ Q (.int (if i < 0 then -i else i)) H) ucAbs := ⟨call_abs, fun W S H g v Φ Q hk r ⟨i, e, q⟩ k => by
  subst e
  have := r.scal fun o => id
  cases (show v = .int i from this)
  exact ⟨i, rfl, k _ _ H q (.refl _) rfl⟩⟩
def ucSum : G → (G → Prop) → Prop := fun g Φ => ∃ ns : List Int, g = .lst (ns.map G.int) ∧ Φ (.int ns.sum)
theorem gc_sum (hc : X.calm = true) : GC X (.builtin "sum") (rSum X.K) ucSum := ⟨cr_sum hc, fun W S H g v Φ Q hk r ⟨ns, e, q⟩ k => by
  subst e
  obtain ⟨p, vs, rfl, h1, h2⟩ := r.lst
  cases h2.ints
  exact ⟨p, ns, rfl, sl_of h1, k _ _ H q (.refl _) rfl⟩⟩
def ucAll : G → (G → Prop) → Prop := fun g Φ => ∃ ns : List Bool, g = .lst (ns.map G.bl) ∧ Φ (.bl (ns.all id))
def ucAny : G → (G → Prop) → Prop := fun g Φ => ∃ ns : List Bool, g = .lst (ns.map G.bl) ∧ Φ (.bl (ns.any id))
theorem gc_all (hc : X.calm = true) : GC X (.builtin "all") (rAll X.K) ucAll := ⟨cr_all hc, fun W S H g v Φ Q hk r ⟨ns, e, q⟩ k => by
  subst e
  obtain ⟨p, vs, rfl, h1, h2⟩ := r.lst
  cases h2.bls
  exact ⟨p, ns, rfl, sl_of h1, k _ _ H q (.refl _) rfl⟩⟩
theorem gc_any (hc : X.calm = true) : GC X (.builtin "any") (rAny X.K) ucAny := ⟨cr_any hc, fun W S H g v Φ Q hk r ⟨ns, e, q⟩ k => by
  subst e
  obtain ⟨p, vs, rfl, h1, h2⟩ := r.lst
  cases h2.bls
  exact ⟨p, ns, rfl, sl_of h1, k _ _ H q (.refl _) rfl⟩⟩
def ucMax : G → (G → Prop) → Prop := fun g Φ => ∃ ns : List Int, g = .lst (ns.map G.int) ∧ 0 < ns.length ∧ ∀ m, m ∈ ns → (∀ y, y ∈ ns → y ≤ m) → Φ (.int m)
def ucMin : G → (G → Prop) → Prop := fun g Φ => ∃ ns : List Int, g = .lst (ns.map G.int) ∧ 0 < ns.length ∧ ∀ m, m ∈ ns → (∀ y, y ∈ ns → m ≤ y) → Φ (.int m)
theorem gc_max (hc : X.calm = true) : GC X (.builtin "max") (rMax X.K) ucMax := ⟨cr_max hc, fun W S H g v Φ Q hk r ⟨ns, e, l, q⟩ k => by
  subst e
  obtain ⟨p, vs, rfl, h1, h2⟩ := r.lst
  cases h2.ints
  exact ⟨p, ns, rfl, sl_of h1, l, fun m h3 h4 => k _ _ H (q m h3 h4) (.refl _) rfl⟩⟩
theorem gc_min (hc : X.calm = true) : GC X (.builtin "min") (rMin X.K) ucMin := ⟨cr_min hc, fun W S H g v Φ Q hk r ⟨ns, e, l, q⟩ k => by
  subst e
  obtain ⟨p, vs, rfl, h1, h2⟩ := r.lst
  cases h2.ints
  exact ⟨p, ns, rfl, sl_of h1, l, fun m h3 h4 => k _ _ H (q m h3 h4) (.refl _) rfl⟩⟩
def ucTup : G → (G → Prop) → Prop := fun g Φ => ∃ gs, sq g = some gs ∧ Φ (.tup gs)
theorem gc_tup : GC X (.type "tuple") (fun xs H Q => ∃ p ys, xs = [.ref p] ∧ ((SqL X.K H p ys ∧ ∀ l, H l = none → Q (.ref l) (upd H l (.tup ys))) ∨ (SqT X.K H p ys ∧ Q (.ref p) H))) ucTup := ⟨call_tuple_of, fun W S H g v Φ Q hk r ⟨gs, e, q⟩ k => by
  cases g with
  | lst xs =>
    cases e
    obtain ⟨p, vs, rfl, h1, h2⟩ := r.lst
    exact ⟨p, vs, rfl, .inl ⟨sl_of h1, fun l hl => k _ _ _ q (same_new hl) (rg_tup hl h2)⟩⟩
  | tup xs =>
    cases e
    obtain ⟨p, vs, rfl, h1, h2⟩ := r.scal fun o => id
    exact ⟨p, vs, rfl, .inr ⟨hk ▸ h1.sq, k _ _ _ q (.refl _) ⟨p, vs, rfl, h1, h2⟩⟩⟩
  | _ => cases e⟩
def ucLst : G → (G → Prop) → Prop := fun g Φ => ∃ gs, sq g = some gs ∧ Φ (.lst gs)
theorem gc_lst : GCN X (.type "list") (fun xs H Q => ∃ p ys, xs = [.ref p] ∧ (SqL X.K H p ys ∨ SqT X.K H p ys) ∧ ∀ l, H l = none → Q (.ref l) (upd H l (.lst ys))) ucLst := ⟨call_list_of, fun W S H g v Φ Q hk r ⟨gs, e, q⟩ k => by
  obtain ⟨p, vs, rfl, h1, h2⟩ := r.seq e
  exact ⟨p, vs, rfl, hk ▸ h1, fun l hl => k _ _ l q hl ⟨vs, rfl, h2⟩⟩⟩
def ucSort : G → (G → Prop) → Prop := fun g Φ => ∃ ns : List Int, g = .lst (ns.map G.int) ∧ ∀ ns' : List Int, ns'.Perm ns → ns'.Pairwise (· ≤ ·) → Φ (.lst (ns'.map G.int))
theorem gc_sort : GCN X (.builtin "sorted") (rSortedI X.K) ucSort := ⟨cr_sortedI, fun W S H g v Φ Q hk r ⟨ns, e, q⟩ k => by
  subst e
  obtain ⟨p, vs, rfl, h1, h2⟩ := r.lst
  cases h2.ints
  exact ⟨p, ns, rfl, sl_of h1, fun ns' l h3 h4 hl => k _ _ l (q ns' h3 h4) hl ⟨_, rfl, .of_ints⟩⟩⟩
/-- two ints -/
structure GC2 (X : Cx) (f : Value) (r : List V → Hp → VK → Prop) (h : Int → Int → Int) : Prop where
  hc : CallR X f r
  le : ∀ (i j : Int) (H : Hp) (Q : VK), Q (.int (h i j)) H → r [.int i, .int j] H Q
theorem gc_min2 (hc : X.calm = true) : GC2 X (.builtin "min") (fun xs H Q => ∃ i j, xs = [.int i, .int j] ∧ Q (.int (if j < i then j else i)) H) (fun i j => if j < i then j else i) := ⟨call_min2 hc, fun i j H Q q => ⟨i, j, rfl, q⟩⟩
theorem gc_max2 (hc : X.calm = true) : GC2 X (.builtin "max") (fun xs H Q => ∃ i j, xs = [.int i, .int j] ∧ Q (.int (if j > i then j else i)) H) (fun i j => if j > i then j else i) := ⟨call_max2 hc, fun i j H Q q => ⟨i, j, rfl, q⟩⟩
def uC2 (h : Int → Int → Int) (ua : UA) : UE := fun ρ Φ => ua ρ fun ρ1 gs => ∃ i j, gs = [.int i, .int j] ∧ Φ ρ1 (.int (h i j))
theorem ge_call2 {x : Str} {id : String} {r} {h} {p : Pos} {es : List Expr} {tr : TA} {ur : UA} (c : GC2 X (.builtin id) r h) (hg : Gl X x) (hm : X.mg x = none) (hv : bootBuiltins x = some (.builtin id)) (ha : GA X (a :: es) tr ur) (hn : x ≠ "__name__" := by decide) (hdb : (x == ("__debug__" : Str)) = false := by decide)
    (he : starEach (a :: es) X.env = (false, eval a X.env) :: starEach es X.env := by rfl) (hpl : (backTo pos (starEach es X.env)).any (·.1) = false := by rfl) : GE X (.Call (.Name x p) (a :: es) [] pos) (tCB r tr) (uC2 h ur) :=
  ⟨pe_callB c.hc hg hm hv ha.pe hn hdb he hpl, fun F k ρ Φ σ H S Q q R j => ha.le F k ρ _ σ H S _ q R fun ρ1 gs vs H1 S1 ⟨i, z, e, q1⟩ n1 R1 r1 => by
    subst e
    obtain ⟨v1, w1, rfl, e1, r1⟩ := r1
    obtain ⟨v2, w2, rfl, e2, r1⟩ := r1
    cases r1
    cases (show v1 = .int i from e1)
    cases (show v2 = .int z from e2)
    exact c.le i z H1 Q (j ρ1 _ _ H1 S1 q1 n1 R1 rfl)⟩
end
/-! what is walked -/
section
variable {X : Cx} {e a b tg : Expr} {t ta tb : TE} {u ua ub : UE} {pos : Pos}
def uIt (ua : UE) : UA := fun ρ Φ => ua ρ fun ρ1 g => ∃ gs, g = .lst gs ∧ Φ ρ1 gs
theorem gi_lst (ha : GE X a ta ua) : GI X tg a (iList X.K ta) (uIt ua) := ⟨pi_list ha.pe, fun F h ρ Φ σ H S R q Rl k => ha.le F h ρ _ σ H S _ q Rl fun ρ1 g v H1 S1 ⟨gs, e, q1⟩ n1 R1 r1 => by
  subst e
  obtain ⟨p, vs, rfl, hs, h1, h2⟩ := r1
  refine ⟨p, rfl, ⟨vs, sl_of h1⟩, k ρ1 gs _ H1 S1 q1 n1 R1 ⟨fun i H2 S2 hi n2 => ?_, fun H2 S2 n2 => ?_, fun i H2 S2 x H3 hi n2 y => ?_⟩⟩
  · exact ⟨vs, vs[i]'(by rw [h2.len]; exact hi), sl_of (n2.x _ _ hs h1), List.getElem?_eq_getElem _⟩
  · exact ⟨vs, sl_of (n2.x _ _ hs h1), by rw [h2.len]; exact Nat.le_refl _⟩
  · obtain ⟨rfl, y⟩ := y
    have := y vs (sl_of (n2.x _ _ hs h1))
    obtain ⟨g, e, r⟩ := h2.get this
    exact ⟨.refl _, g, e, r.nx n2⟩⟩
def uItT (ua : UE) : UA := fun ρ Φ => ua ρ fun ρ1 g => ∃ gs, g = .tup gs ∧ Φ ρ1 gs
theorem gi_tp (ha : GE X a ta ua) : GI X tg a (iTup X.K ta) (uItT ua) := ⟨pi_tup ha.pe, fun F h ρ Φ σ H S R q Rl k => ha.le F h ρ _ σ H S _ q Rl fun ρ1 g v H1 S1 ⟨gs, e, q1⟩ n1 R1 r1 => by
  subst e
  obtain ⟨p, vs, rfl, h1, h2⟩ := r1
  rw [h] at h1
  have st : ∀ {H2 S2}, Nxt S1 H1 S2 H2 → SqT X.K H2 p vs := fun n2 => by
    rcases h1 with h1 | h1
    · exact st_of (n2.t _ _ h1)
    · exact TupAt.sq (.inr h1)
  refine ⟨p, rfl, ⟨vs, h1.sq⟩, k ρ1 gs _ H1 S1 q1 n1 R1 ⟨fun i H2 S2 hi n2 => ?_, fun H2 S2 n2 => ?_, fun i H2 S2 x H3 hi n2 y => ?_⟩⟩
  · exact ⟨vs, vs[i]'(by rw [h2.len]; exact hi), st n2, List.getElem?_eq_getElem _⟩
  · exact ⟨vs, st n2, by rw [h2.len]; exact Nat.le_refl _⟩
  · obtain ⟨rfl, y⟩ := y
    have := y vs (st n2)
    obtain ⟨g, e, r⟩ := h2.get this
    exact ⟨.refl _, g, e, r.nx n2⟩⟩
/-- lo, lo + 1, .. (n of them) -/
def rgG (lo : Int) (n : Nat) : List G := (List.range n).map fun i => G.int (lo + (i : Nat))
theorem rgG_len {lo : Int} {n : Nat} : (rgG lo n).length = n := by unfold rgG; rw [List.length_map, List.length_range]
theorem rgG_get {lo : Int} {n i : Nat} {g : G} (h : (rgG lo n)[i]? = some g) : i < n ∧ g = .int (lo + (i : Nat)) := by
  have hi := getL h
  rw [rgG_len] at hi
  unfold rgG at h
  rw [List.getElem?_map, List.getElem?_range hi] at h
  exact ⟨hi, (Option.some.inj h).symm⟩
theorem isIt_rg {F : Fr} {S : AS} {H : Hp} {lo : Int} {n : Nat} : IsIt F S H (Itr lo n) (rgG lo n) := ⟨fun i _ _ hi _ => by rw [rgG_len] at hi; exact hi, fun _ _ _ => by rw [rgG_len]; exact Nat.le_refl _, fun i H1 S1 x H2 hi _ ⟨e1, e2⟩ => by
  subst e1
  subst e2
  rw [rgG_len] at hi
  refine ⟨.refl _, .int (lo + (i : Nat)), ?_, rfl⟩
  unfold rgG
  rw [List.getElem?_map, List.getElem?_range hi]
  rfl⟩
def uRg1 (ua : UE) : UA := fun ρ Φ => ua ρ fun ρ1 g => ∃ j : Int, g = .int j ∧ -(2 ^ 62) ≤ j ∧ j < 2 ^ 62 ∧ Φ ρ1 (rgG 0 j.toNat)
theorem gi_range1 {p pos : Pos} (hg : Gl X "range") (hm : X.mg "range" = none) (ha : GE X a ta ua) (hs : starEach [a] X.env = [(false, eval a X.env)] := by rfl) : GI X tg (.Call (.Name "range" p) [a] [] pos) (iRng1 (tCons ta tNil)) (uRg1 ua) :=
  ⟨pi_range1 hg hm (pa_cons ha.pe pa_nil hs) hs, fun F h ρ Φ σ H S R q Rl k => ha.le F h ρ _ σ H S _ q Rl fun ρ1 g v H1 S1 ⟨j, e, b1, b2, q1⟩ n1 R1 r1 => by
    subst e
    cases (show v = .int j from r1)
    exact ⟨j, rfl, b1, b2, k ρ1 _ _ H1 S1 q1 n1 R1 isIt_rg⟩⟩
def uRg2 (ur : UA) : UA := fun ρ Φ => ur ρ fun ρ1 gs => ∃ i j : Int, gs = [.int i, .int j] ∧ (-(2 ^ 62) ≤ i ∧ i < 2 ^ 62 ∧ -(2 ^ 62) ≤ j ∧ j < 2 ^ 62) ∧ Φ ρ1 (rgG i (j - i).toNat)
theorem gi_range2 {p pos : Pos} {tr : TA} {ur : UA} (hg : Gl X "range") (hm : X.mg "range" = none) (ha : GA X [a, b] tr ur) (hs : starEach [a, b] X.env = [(false, eval a X.env), (false, eval b X.env)] := by rfl) (hs2 : starEach [b] X.env = [(false, eval b X.env)] := by rfl) : GI X tg (.Call (.Name "range" p) [a, b] [] pos) (iRng2 tr) (uRg2 ur) :=
  ⟨pi_range2 hg hm ha.pe hs hs2, fun F h ρ Φ σ H S R q Rl k => ha.le F h ρ _ σ H S _ q Rl fun ρ1 gs vs H1 S1 ⟨i, j, e, b1, q1⟩ n1 R1 r1 => by
    subst e
    obtain ⟨v1, w1, rfl, e1, r1⟩ := r1
    obtain ⟨v2, w2, rfl, e2, r1⟩ := r1
    cases r1
    cases (show v1 = .int i from e1)
    cases (show v2 = .int j from e2)
    exact ⟨i, j, rfl, b1, k ρ1 _ _ H1 S1 q1 n1 R1 isIt_rg⟩⟩
end
/-! comprehensions -/
def wipeG (ρ : RS) : List Nat → RS
  | [] => ρ
  | v :: vs => (wipeG ρ vs).set v .un
/-- behind a comprehension: its own names are as they were ahead -/
def mg1 : Option SG → SG
  | some (.fz g) => .fz g
  | some (.ow _ _) => .un
  | some .un => .un
  | none => .un
def mergeG (ρ : RS) : List Nat → RS → RS
  | [], r => r
  | v :: vs, r => (mergeG ρ vs r).set v (mg1 ρ[v]?)
theorem mergeG_eq (ρ : RS) (v : Nat) (vs : List Nat) (r : RS) : mergeG ρ (v :: vs) r = match ρ[v]? with
    | some (.fz g) => (mergeG ρ vs r).set v (.fz g)
    | _ => (mergeG ρ vs r).set v .un := by
  show (mergeG ρ vs r).set v (mg1 ρ[v]?) = _
  cases ρ[v]? with
  | none => rfl
  | some s => cases s <;> rfl
section
variable {F : Fr} {S S' : AS} {ρ ρ' : RS} {σ σ' : L2.St} {H H' : Hp}
theorem Rel.wipe (R : Rel F S ρ σ H) : ∀ vs : List Nat, Rel F S (wipeG ρ vs) σ H
  | [] => R
  | v :: vs => (R.wipe vs).forget
/-- where a slot is not told of, it may hold anything -/
theorem Rel.slotU (R : Rel F S ρ σ H) (hl : σ'.length = σ.length) (h : ∀ (i : Nat) (s : SG), ρ[i]? = some s → (∃ (g : G), s = .fz g ∨ ∃ f, s = .ow f g) → σ'[i]? = σ[i]?) : Rel F S ρ σ' H := by
  refine ⟨R.ok, R.dom, R.s0, R.dr, R.kx, R.kt, by rw [hl, R.len], R.pp, fun j s hj => ?_, fun j k f g f' g' hjk hj hk => ?_, fun q hq => ?_⟩
  · cases s with
    | un =>
      have : j < σ'.length := by rw [hl, R.len]; exact (List.getElem?_eq_some_iff.mp hj).1
      exact ⟨σ'[j], List.getElem?_eq_getElem _, trivial⟩
    | fz g => rw [h j _ hj ⟨g, .inl rfl⟩]; exact R.sl j _ hj
    | ow f g => rw [h j _ hj ⟨g, .inr ⟨f, rfl⟩⟩]; exact R.sl j _ hj
  · rw [h j _ hj ⟨g, .inr ⟨f, rfl⟩⟩, h k _ hk ⟨g', .inr ⟨f', rfl⟩⟩]
    exact R.dj j k _ _ _ _ hjk hj hk
  · obtain ⟨q1, q2, q3, q4, q5⟩ := R.pin q hq
    exact ⟨q1, q2, q3, fun i f g hi => by rw [h i _ hi ⟨g, .inr ⟨f, rfl⟩⟩]; exact q4 i f g hi, q5⟩
theorem wipe_len : ∀ vs : List Nat, (L2.wipe σ vs).length = σ.length := fun vs => wipe_length σ vs
theorem wipe_out {i : Nat} : ∀ {vs : List Nat}, i ∉ vs → (L2.wipe σ vs)[i]? = σ[i]?
  | [], _ => rfl
  | v :: vs, h => by
    unfold L2.wipe
    rw [List.getElem?_set, if_neg (fun z => h (by rw [z]; exact List.mem_cons_self))]
    exact wipe_out fun z => h (List.mem_cons_of_mem _ z)
theorem wipe_in {i : Nat} (hi : i < σ.length) : ∀ {vs : List Nat}, i ∈ vs → (L2.wipe σ vs)[i]? = some none
  | v :: vs, h => by
    unfold L2.wipe
    rw [List.getElem?_set]
    by_cases e : v = i
    · rw [if_pos e, if_pos (by rw [e, wipe_length]; exact hi)]
    · rw [if_neg e]
      rcases List.mem_cons.mp h with z | z
      · exact (e z.symm).elim
      · exact wipe_in hi z
theorem wipe_eq (hl : σ'.length = σ.length) {vs : List Nat} (h : ∀ i, i ∉ vs → σ'[i]? = σ[i]?) : L2.wipe σ' vs = L2.wipe σ vs := by
  apply List.ext_getElem?
  intro i
  by_cases m : i ∈ vs
  · by_cases l : i < σ.length
    · rw [wipe_in l m, wipe_in (by rw [hl]; exact l) m]
    · rw [List.getElem?_eq_none (by rw [wipe_length]; omega), List.getElem?_eq_none (by rw [wipe_length]; omega)]
  · rw [wipe_out m, wipe_out m, h i m]
theorem wipeG_un : ∀ {vs : List Nat} {i : Nat} {s : SG}, (wipeG ρ vs)[i]? = some s → i ∈ vs → s = .un
  | v :: vs, i, s, h, m => by
    unfold wipeG at h
    rcases set_at h with ⟨e, h⟩ | ⟨e, e2, _⟩
    · rcases List.mem_cons.mp m with z | z
      · exact (e z.symm).elim
      · exact wipeG_un h z
    · exact e2.symm
theorem Rel.toWipe (R : Rel F S ρ σ H) (vs : List Nat) : Rel F S (wipeG ρ vs) (L2.wipe σ vs) H := (R.wipe vs).slotU (wipe_len vs) fun i s hi k => by
  by_cases m : i ∈ vs
  · have := wipeG_un hi m
    subst this
    obtain ⟨g, z | ⟨f, z⟩⟩ := k <;> cases z
  · exact wipe_out m
theorem Rel.ofWipe {vs : List Nat} (R : Rel F S ρ' σ' H) (hl : σ'.length = σ.length) (h : ∀ i, i ∉ vs → σ'[i]? = σ[i]?) : Rel F S (wipeG ρ' vs) σ H := (R.wipe vs).slotU hl.symm fun i s hi k => by
  by_cases m : i ∈ vs
  · have := wipeG_un hi m
    subst this
    obtain ⟨g, z | ⟨f, z⟩⟩ := k <;> cases z
  · exact (h i m).symm
/-- behind it -/
theorem Rel.merge (R : Rel F S ρ σ H) (n : Nxt S H S' H') (R' : Rel F S' ρ' σ H') : ∀ vs : List Nat, Rel F S' (mergeG ρ vs ρ') σ H'
  | [] => R'
  | v :: vs => by
    rw [mergeG_eq]
    have R1 := R.merge n R' vs
    split
    · rename_i g e
      obtain ⟨o, e1, w, rfl, r⟩ := R.sl v _ e
      have R2 := R1.setF (i := v) (r.nx n)
      have : σ.set v (some w) = σ := by
        apply List.ext_getElem?
        intro j
        rw [List.getElem?_set]
        by_cases z : v = j
        · subst z
          rw [if_pos rfl, e1]
          split
          · rfl
          · rename_i k
            rw [List.getElem?_eq_none (by omega)] at e1
            cases e1
        · rw [if_neg z]
      rw [this] at R2
      exact R2
    · exact R1.forget
end
end Zn
/-! comprehensions, methods, stores -/
namespace Zn
open PySem PySem.Spec PyProof.Rows L2 TL
abbrev Fr.pnw (F : Fr) (q : Addr × HO) : Fr := { F with pn := q :: F.pn }
section
variable {F : Fr} {S S' : AS} {ρ ρ' : RS} {σ σ' : L2.St} {H H' : Hp} {p : Addr} {o o' : HO}
theorem Rel.addPin (R : Rel F S ρ σ H) (hp : H p = some o) (hs : S p) (fr : Free F ρ σ p) : Rel (F.pnw (p, o)) S ρ σ H := by
  obtain ⟨f0, f1, f2⟩ := fr
  refine ⟨⟨R.ok.s0, R.ok.d, R.ok.p⟩, R.dom, R.s0, R.dr, R.kx, R.kt, R.len, R.pp, fun i s hi => ?_, R.dj, fun q hq => ?_⟩
  · obtain ⟨o, e, r⟩ := R.sl i s hi
    refine ⟨o, e, ?_⟩
    cases s <;> exact r
  · rcases List.mem_cons.mp hq with rfl | hq
    · exact ⟨hp, hs, fun dr z => R.ok.s0 _ (R.ok.d dr).1 (by rw [← z]; exact f0), f1, f0⟩
    · exact R.pin q hq
theorem Rel.unpin {q : Addr × HO} (R : Rel (F.pnw q) S ρ σ H) : Rel F S ρ σ H := by
  refine ⟨⟨R.ok.s0, R.ok.d, R.ok.p⟩, R.dom, R.s0, R.dr, R.kx, R.kt, R.len, R.pp, fun i s hi => ?_, R.dj, fun q hq => R.pin q (List.mem_cons_of_mem _ hq)⟩
  obtain ⟨o, e, r⟩ := R.sl i s hi
  refine ⟨o, e, ?_⟩
  cases s <;> exact r
/-- a pinned cell is told anew -/
theorem Rel.repin (R : Rel (F.pnw (p, o)) S ρ σ H) (ho : ∀ xs, o ≠ .tup xs) (hq : ∀ q ∈ F.pn, q.1 ≠ p) : Rel (F.pnw (p, o')) S ρ σ (upd H p o') ∧ Nxt S H S (upd H p o') := by
  obtain ⟨p1, p2, p3, p4, p5⟩ := R.pin (p, o) List.mem_cons_self
  have hx : ∀ b u, b ≠ p → H b = some u → upd H p o' b = some u := fun b u z e => by rw [upd_ne z]; exact e
  have ht : ∀ b xs, H b = some (.tup xs) → upd H p o' b = some (.tup xs) := fun b xs e => hx b _ (fun z => by rw [z, p1] at e; cases e; exact ho _ rfl) e
  have n : Nxt S H S (upd H p o') := ⟨fun b u k e => hx b u (fun z => k (z ▸ p2)) e, ht, fun _ h => .inl h⟩
  have hne : ∀ b, H b ≠ none → upd H p o' b ≠ none := fun b hb => by
    by_cases z : b = p
    · rw [z, upd_same]; intro z; cases z
    · rw [upd_ne z]; exact hb
  refine ⟨⟨⟨R.ok.s0, R.ok.d, R.ok.p⟩, fun b hb => hne b (R.dom b hb), R.s0, fun k => ⟨(R.dr k).1, (R.dr k).2.upd (p3 k).symm fun z => (R.dr k).1 (z ▸ p2)⟩, fun b u k1 k2 e => hx b u (fun z => ?_) (R.kx b u k1 k2 e), fun b xs e => ht b xs (R.kt b xs e), R.len, fun b hb => hne b (R.pp b hb), fun i s hi => ?_, R.dj, fun q hq' => ?_⟩, n⟩
  · have := p5
    rw [← z] at this
    have e : F.H0 b = some u := e
    rw [show F.H0 b = none from this] at e
    cases e
  · obtain ⟨u, e, r⟩ := R.sl i s hi
    refine ⟨u, e, ?_⟩
    cases s with
    | un => trivial
    | fz g => obtain ⟨v, e, r⟩ := r; exact ⟨v, e, Rg.nx n r⟩
    | ow f g =>
      obtain ⟨a, w, e', k1, k2, k3, k4, k5⟩ := r
      exact ⟨a, w, e', k1, hx a w (fun z => p4 i f g hi (by rw [e, e', z])) k2, RgO.nx n k3, k4, k5⟩
  · rcases List.mem_cons.mp hq' with rfl | hq'
    · exact ⟨upd_same, p2, p3, p4, p5⟩
    · obtain ⟨q1, q2, q3, q4, q5⟩ := R.pin q (List.mem_cons_of_mem _ hq')
      exact ⟨hx _ _ (hq q hq') q1, q2, q3, q4, q5⟩
theorem mergeG_own {i : Nat} {f : Bool} {g : G} : ∀ {vs : List Nat}, (mergeG ρ vs ρ')[i]? = some (.ow f g) → ρ'[i]? = some (.ow f g)
  | [], h => h
  | v :: vs, h => by
    rw [mergeG_eq] at h
    split at h
    · rcases set_at h with ⟨e, h⟩ | ⟨_, e, _⟩
      · exact mergeG_own h
      · cases e
    · rcases set_at h with ⟨e, h⟩ | ⟨_, e, _⟩
      · exact mergeG_own h
      · cases e
end
section
variable {X : Cx} {e : Expr} {t : TE} {u : UE} {pos : Pos}
def uLc (ui : UA) (ug : UG) (utt : UT) (ue : UE) (vs : List Nat) : UE := fun ρ Φ => ui ρ fun ρ1 gs => gs.length ≤ 100000 ∧ ∃ Iv : Nat → List G → RS → Prop, Iv 0 [] (wipeG ρ1 vs) ∧
  (∀ i g acc ρ2, gs[i]? = some g → acc.length ≤ i → Iv i acc ρ2 → ug g (wipeG ρ2 vs) fun ρ3 => utt ρ3 fun ρ4 b => if b = true then ue ρ4 fun ρ5 y => Iv (i + 1) (acc ++ [y]) (wipeG ρ5 vs) else Iv (i + 1) acc (wipeG ρ4 vs)) ∧
  ∀ acc ρ2, acc.length ≤ gs.length → Iv gs.length acc ρ2 → Φ (mergeG ρ1 vs ρ2) (.lst acc)
theorem le_lcAt {K : PySem.W.Frag} {F : Fr} {ρ : RS} {Φ : RS → G → Prop} {σ : L2.St} {H : Hp} {S : AS} {Q : VK} {wi : TI} {ui : UA} {is : List Nat} {g : TG} {ug : UG} {tt : TT} {utt : UT} {te : TE} {ue : UE} {vs : List Nat} (hv : ∀ i ∈ is, i ∈ vs) (h1 : LIat F ρ σ H S wi ui) (h2 : ∀ F : Fr, F.K = K → LG F is g ug) (h3 : ∀ F : Fr, F.K = K → LT F tt utt) (h4 : ∀ F : Fr, F.K = K → LE F te ue)
    (k : F.K = K) (q : uLc ui ug utt ue vs ρ Φ) (R : Rel F S ρ σ H) (j : ∀ ρ' g p o H' S', Φ ρ' g → Nxt S H S' H' → Rel F S' ρ' σ H' → S' p → H' p = some o → RgO F.toWd S' H' g o → Free F ρ' σ p → Q (.ref p) H') : tLc wi g tt te vs σ H Q := by
  refine h1 _ _ q R fun ρ1 gs J H1 S1 ⟨hz, Iv, i0, is_, ie⟩ n1 R1 it D hD => ?_
  obtain ⟨R2, n2⟩ := R1.grow (o := .lst []) hD
  have fr := R1.new hD
  have R2 := (R2.addPin upd_same (.inr rfl) fr).wipe vs
  have nq : ∀ q ∈ F.pn, q.1 ≠ D := fr.2.2
  refine ⟨fun i m H' => m = gs.length - i ∧ i ≤ gs.length ∧ ∃ acc ws ρ2 S2, acc.length ≤ i ∧ Iv i acc ρ2 ∧ Nxt S1 H1 S2 H' ∧ Rel (F.pnw (D, .lst ws)) S2 ρ2 σ H' ∧ RgL F.toWd S2 H' acc ws,
    ⟨_, rfl, Nat.zero_le _, [], [], _, _, Nat.le_refl _, i0, n2, R2, rfl⟩, ?_⟩
  rintro i m H2 ⟨rfl, hi, acc, ws, ρ2, S2, hl, iv, n3, R3, r3⟩
  by_cases hlt : i < gs.length
  · refine .inr ⟨it.go i H2 S2 hlt n3, fun H' => ∃ acc ws ρ2 S2, acc.length ≤ i + 1 ∧ Iv (i + 1) acc ρ2 ∧ Nxt S1 H1 S2 H' ∧ Rel (F.pnw (D, .lst ws)) S2 ρ2 σ H' ∧ RgL F.toWd S2 H' acc ws, fun H' h => ⟨_, by omega, rfl, hlt, h⟩, fun x H3 y => ?_⟩
    obtain ⟨s3, g', eg, rg'⟩ := it.yld i H2 S2 x H3 hlt n3 y
    obtain ⟨R4, n4⟩ := R3.same s3
    have R4 := R4.toWipe vs
    refine h2 (F.pnw (D, .lst ws)) k g' x _ _ _ H3 S2 _ (is_ i g' acc ρ2 eg hl iv) R4 rg' fun ρ5 σ5 H5 S5 q5 n5 R5 e5 => ?_
    have l5 : σ5.length = σ.length := by
      rw [e5.1, wipe_length]
    have o5 : ∀ i, i ∉ vs → σ5[i]? = σ[i]? := fun i hi => (e5.2 i fun z => hi (hv i z)).trans (wipe_out hi)
    refine ⟨wipe_eq l5 o5, ?_⟩
    have n05 : Nxt S1 H1 S5 H5 := (n3.trans n4).trans n5
    refine h3 (F.pnw (D, .lst ws)) k ρ5 _ σ5 H5 S5 _ q5 R5 fun ρ6 b H6 S6 q6 n6 R6 => ?_
    cases b with
    | false =>
      exact ⟨acc, ws, _, S6, by omega, q6, n05.trans n6, R6.ofWipe l5 o5, ((r3.nx n4).nx n5).nx n6⟩
    | true =>
      refine h4 (F.pnw (D, .lst ws)) k ρ6 _ σ5 H6 S6 _ q6 R6 fun ρ7 y v H7 S7 q7 n7 R7 r7 => ?_
      have p7 := (R7.pin (D, .lst ws) List.mem_cons_self).1
      have r3' := (((r3.nx n4).nx n5).nx n6).nx n7
      refine ⟨ws, p7, lt_line (by rw [r3.len]; omega), ?_⟩
      obtain ⟨R8, n8⟩ := R7.repin (o' := .lst (ws ++ [v])) (fun _ z => by cases z) nq
      exact ⟨acc ++ [y], ws ++ [v], _, S7, by rw [List.length_append]; show _ + 1 ≤ _; omega, q7, ((n05.trans n6).trans n7).trans n8, R8.ofWipe l5 o5, (r3'.app (.one r7)).nx n8⟩
  · have e : i = gs.length := by omega
    subst e
    refine .inl ⟨it.stop H2 S2 n3, ?_⟩
    obtain ⟨p1, p2, p3, p4, p5⟩ := R3.pin (D, .lst ws) List.mem_cons_self
    have R4 := R3.unpin
    exact j _ (.lst acc) D _ H2 S2 (ie acc ρ2 hl iv) (n1.trans n3) (R1.merge n3 R4 vs) p2 p1 ⟨ws, rfl, r3⟩ ⟨p5, fun i f g hi => p4 i f g (mergeG_own hi), nq⟩
theorem le_lc {K : PySem.W.Frag} {wi : TI} {ui : UA} {is : List Nat} {g : TG} {ug : UG} {tt : TT} {utt : UT} {te : TE} {ue : UE} {vs : List Nat} (hv : ∀ i ∈ is, i ∈ vs) (h1 : ∀ F : Fr, F.K = K → LI F wi ui) (h2 : ∀ F : Fr, F.K = K → LG F is g ug) (h3 : ∀ F : Fr, F.K = K → LT F tt utt) (h4 : ∀ F : Fr, F.K = K → LE F te ue)
    (F : Fr) (k : F.K = K) : LN F (tLc wi g tt te vs) (uLc ui ug utt ue vs) := fun ρ Φ σ H S Q q R j => le_lcAt hv (fun Φ R' => h1 F k ρ Φ σ H S R') h2 h3 h4 k q R j
end
end Zn
/-! comprehensions as expressions; methods; stores; stars -/
namespace Zn
open PySem PySem.Spec PyProof.Rows L2 TL
section
variable {X : Cx} {e a b o : Expr} {t ta tb : TE} {u ua ub : UE} {pos : Pos}
section
variable {elt tg iter : Expr} {ifs : List Expr} {scope : Scope} {own : List (Str × Nat)} {wi : TI} {ui : UA} {is : List Nat} {g : TG} {ug : UG} {tt : TT} {utt : UT} {te : TE} {ue : UE}
theorem gn_lc (hc : X.calm = true) (hN : X.N.Nodup) (hi : GI X tg iter wi ui) (ok : BlkOk X.N X.env.scope scope own)
    (hg : ∀ (s : Shared) (H : Hp) (C : Addr) (cl : List (Str × Addr)) (fp : List Addr), GG (X.blk s H scope (compEnvC scope cl C X.env) fp) is tg g ug) (ht : ∀ (s : Shared) (H : Hp) (C : Addr) (cl : List (Str × Addr)) (fp : List Addr), GTs (X.blk s H scope (compEnvC scope cl C X.env) fp) ifs tt utt)
    (he : ∀ (s : Shared) (H : Hp) (C : Addr) (cl : List (Str × Addr)) (fp : List Addr), GE (X.blk s H scope (compEnvC scope cl C X.env) fp) elt te ue) (hv : ∀ i ∈ is, i ∈ own.map (·.2)) (hs : ∀ x, foldedSetIterable iter X.env x = pure x := by intro _; rfl) :
    GN X (.ListComp elt [⟨tg, iter, ifs, 0⟩] scope pos) (tLc wi g tt te (own.map (·.2))) (uLc ui ug utt ue (own.map (·.2))) :=
  ⟨pe_lc hc hN hi.pe ok (fun s H C cl fp => (hg s H C cl fp).pe) (fun s H C cl fp => (ht s H C cl fp).pe) (fun s H C cl fp => (he s H C cl fp).pe) hs,
    le_lc (K := X.K) hv hi.le (fun F k => (hg X.s_0 X.H_0 0 [] []).le F k) (fun F k => (ht X.s_0 X.H_0 0 [] []).le F k) (fun F k => (he X.s_0 X.H_0 0 [] []).le F k)⟩
theorem gs_setLcG {i : Nat} {y : Str} {py : Pos} {spos : Pos} (hc : X.calm = true) (hN : X.N.Nodup) (hy : X.N[i]? = some y) (hyl : X.env.scope.names.lookup y = some .local)
    (hsw : swapsWith (.ListComp elt [⟨tg, iter, ifs, 0⟩] scope pos) (some (.Name y py)) spos.line X.env = pure true) (hi : GI X tg iter wi ui) (ok : BlkOk X.N X.env.scope scope own)
    (hg : ∀ (s : Shared) (H : Hp) (C : Addr) (cl : List (Str × Addr)) (fp : List Addr), GG (X.blk s H scope (compEnvC scope cl C X.env) fp) is tg g ug) (ht : ∀ (s : Shared) (H : Hp) (C : Addr) (cl : List (Str × Addr)) (fp : List Addr), GTs (X.blk s H scope (compEnvC scope cl C X.env) fp) ifs tt utt)
    (he : ∀ (s : Shared) (H : Hp) (C : Addr) (cl : List (Str × Addr)) (fp : List Addr), GE (X.blk s H scope (compEnvC scope cl C X.env) fp) elt te ue) (hv : ∀ i ∈ is, i ∈ own.map (·.2)) (hs : ∀ x, foldedSetIterable iter X.env x = pure x := by intro _; rfl) :
    GS X (.Assign [.Name y py] (.ListComp elt [⟨tg, iter, ifs, 0⟩] scope pos) spos) (tAsg (tLc wi g tt te (own.map (·.2))) (gName i)) (uSet i (uLc ui ug utt ue (own.map (·.2)))) :=
  ⟨ps_setLc hc hN hy hyl hsw hi.pe ok (fun s H C cl fp => (hg s H C cl fp).pe) (fun s H C cl fp => (ht s H C cl fp).pe) (fun s H C cl fp => (he s H C cl fp).pe) hs,
    fun F k => le_set (LN.le (le_lc (K := X.K) hv hi.le (fun F k => (hg X.s_0 X.H_0 0 [] []).le F k) (fun F k => (ht X.s_0 X.H_0 0 [] []).le F k) (fun F k => (he X.s_0 X.H_0 0 [] []).le F k) F k))⟩
theorem gs_setLcO {i : Nat} {y : Str} {py : Pos} {spos : Pos} (hc : X.calm = true) (hN : X.N.Nodup) (hy : X.N[i]? = some y) (hyl : X.env.scope.names.lookup y = some .local)
    (hsw : swapsWith (.ListComp elt [⟨tg, iter, ifs, 0⟩] scope pos) (some (.Name y py)) spos.line X.env = pure true) (hi : GI X tg iter wi ui) (ok : BlkOk X.N X.env.scope scope own)
    (hg : ∀ (s : Shared) (H : Hp) (C : Addr) (cl : List (Str × Addr)) (fp : List Addr), GG (X.blk s H scope (compEnvC scope cl C X.env) fp) is tg g ug) (ht : ∀ (s : Shared) (H : Hp) (C : Addr) (cl : List (Str × Addr)) (fp : List Addr), GTs (X.blk s H scope (compEnvC scope cl C X.env) fp) ifs tt utt)
    (he : ∀ (s : Shared) (H : Hp) (C : Addr) (cl : List (Str × Addr)) (fp : List Addr), GE (X.blk s H scope (compEnvC scope cl C X.env) fp) elt te ue) (hv : ∀ i ∈ is, i ∈ own.map (·.2)) (hs : ∀ x, foldedSetIterable iter X.env x = pure x := by intro _; rfl) :
    GS X (.Assign [.Name y py] (.ListComp elt [⟨tg, iter, ifs, 0⟩] scope pos) spos) (tAsg (tLc wi g tt te (own.map (·.2))) (gName i)) (uSetO i (uLc ui ug utt ue (own.map (·.2)))) :=
  ⟨ps_setLc hc hN hy hyl hsw hi.pe ok (fun s H C cl fp => (hg s H C cl fp).pe) (fun s H C cl fp => (ht s H C cl fp).pe) (fun s H C cl fp => (he s H C cl fp).pe) hs,
    fun F k => le_setO (le_lc (K := X.K) hv hi.le (fun F k => (hg X.s_0 X.H_0 0 [] []).le F k) (fun F k => (ht X.s_0 X.H_0 0 [] []).le F k) (fun F k => (he X.s_0 X.H_0 0 [] []).le F k) F k)⟩
end
/-- names by their slots -/
theorem gv (i : Nat) {x : Str} (hN : X.N[i]? = some x := by rfl) (hv : Vis X.env.scope x := by first | exact Or.inl rfl | exact Or.inr (Or.inl rfl) | exact Or.inr (Or.inr rfl)) (hd : (x == ("__debug__" : Str)) = false := by decide) (hcd : (x == ("__classdict__" : Str)) = false := by decide) : GE X (.Name x pos) (tVar i) (uVar i) := ge_var hN hv hd hcd
theorem gvF (i : Nat) {x : Str} (hN : X.N[i]? = some x := by rfl) (hv : Vis X.env.scope x := by first | exact Or.inl rfl | exact Or.inr (Or.inl rfl) | exact Or.inr (Or.inr rfl)) (hd : (x == ("__debug__" : Str)) = false := by decide) (hcd : (x == ("__classdict__" : Str)) = false := by decide) : GE X (.Name x pos) (tVar i) (uFrz i) := ge_frz hN hv hd hcd
theorem gvB (i : Nat) {x : Str} (hN : X.N[i]? = some x := by rfl) (hv : Vis X.env.scope x := by first | exact Or.inl rfl | exact Or.inr (Or.inl rfl) | exact Or.inr (Or.inr rfl)) (hd : (x == ("__debug__" : Str)) = false := by decide) (hcd : (x == ("__classdict__" : Str)) = false := by decide) : GB X (.Name x pos) (tVar i) (uBor i) := gb_var hN hv hd hcd
/-- x.append(e) -/
def uApp (i : Nat) (ue : UE) : UE := fun ρ Φ => ∃ f gs, ρ[i]? = some (.ow f (.lst gs)) ∧ ue ρ fun ρ1 y => ∃ f gs, ρ1[i]? = some (.ow f (.lst gs)) ∧ gs.length < 100000 ∧ Φ (ρ1.set i (.ow f (.lst (gs ++ [y])))) .non
theorem ge_app (i : Nat) {x : Str} {p1 p2 : Pos} (h : GE X e t u) (hN : X.N[i]? = some x := by rfl) (hv : Vis X.env.scope x := by first | exact Or.inl rfl | exact Or.inr (Or.inl rfl) | exact Or.inr (Or.inr rfl)) (hd : (x == ("__debug__" : Str)) = false := by decide) (hcd : (x == ("__classdict__" : Str)) = false := by decide)
    (hbase : attributeBase (.Name x p1) "append" X.env (eval (.Name x p1) X.env) = eval (.Name x p1) X.env := by rfl)
    (hfew : ((backTo pos (starEach [e] X.env)).all (fun x => !x.1) && (backToKw pos (keywordEach [] X.env)).all (fun x => x.1.isSome) && decide (([e] : List Expr).length + ([] : List Keyword).length + (if ([] : List Keyword).isEmpty then 0 else 1) < 30)) = true := by rfl)
    (hline : (p2.endLine == pos.line) = true := by rfl) (hs : starEach [e] X.env = (false, eval e X.env) :: starEach [] X.env := by rfl) :
    GE X (.Call (.Attribute (.Name x p1) "append" p2) [e] [] pos) (tBM X.K "list" rAppend (tVar i) (tCons t tNil)) (uApp i u) :=
  ⟨pe_bm PySem.F.plainAttrs_list PySem.F.slot_list_append PySem.F.type_list_append mt_append (pe_var hN hv hd hcd) (pa_cons h.pe pa_nil hs) hbase hfew hline hs rfl,
    fun F k ρ Φ σ H S Q ⟨f, gs, hg, q⟩ R j => by
      obtain ⟨a, w, ha, h1, h2, ⟨vs, rfl, h3⟩, _⟩ := R.own hg
      refine ⟨_, ha, .inl ⟨rfl, vs, sl_of h2⟩, h.le F k ρ _ σ H S _ q R fun ρ1 y v H1 S1 ⟨f', gs', hg', l, q1⟩ n1 R1 r1 => ?_⟩
      obtain ⟨a', w', ha', k1, k2, ⟨ws, rfl, k3⟩, _⟩ := R1.own hg'
      rw [ha] at ha'
      cases ha'
      obtain ⟨R2, n2⟩ := R1.mut hg' ha (u' := .lst (ws ++ [v])) (g' := .lst (gs' ++ [y])) ⟨_, rfl, k3.app (.one r1)⟩
      exact ⟨a, ws, v, rfl, rfl, k2, lt_line (by rw [k3.len]; exact l), j _ .non .non _ S1 q1 (n1.trans n2) R2 rfl⟩⟩
/-- x.extend(e), e a list -/
def uExt (i : Nat) (ue : UE) : UE := fun ρ Φ => ∃ f gs, ρ[i]? = some (.ow f (.lst gs)) ∧ ue ρ fun ρ1 y => ∃ f gs ys, ρ1[i]? = some (.ow f (.lst gs)) ∧ y = .lst ys ∧ gs.length + ys.length ≤ 100000 ∧ Φ (ρ1.set i (.ow f (.lst (gs ++ ys)))) .non
theorem ge_ext (i : Nat) {x : Str} {p1 p2 : Pos} (h : GE X e t u) (hN : X.N[i]? = some x := by rfl) (hv : Vis X.env.scope x := by first | exact Or.inl rfl | exact Or.inr (Or.inl rfl) | exact Or.inr (Or.inr rfl)) (hd : (x == ("__debug__" : Str)) = false := by decide) (hcd : (x == ("__classdict__" : Str)) = false := by decide)
    (hbase : attributeBase (.Name x p1) "extend" X.env (eval (.Name x p1) X.env) = eval (.Name x p1) X.env := by rfl)
    (hfew : ((backTo pos (starEach [e] X.env)).all (fun x => !x.1) && (backToKw pos (keywordEach [] X.env)).all (fun x => x.1.isSome) && decide (([e] : List Expr).length + ([] : List Keyword).length + (if ([] : List Keyword).isEmpty then 0 else 1) < 30)) = true := by rfl)
    (hline : (p2.endLine == pos.line) = true := by rfl) (hs : starEach [e] X.env = (false, eval e X.env) :: starEach [] X.env := by rfl) :
    GE X (.Call (.Attribute (.Name x p1) "extend" p2) [e] [] pos) (tBM X.K "list" rExtend (tVar i) (tCons t tNil)) (uExt i u) :=
  ⟨pe_bm PySem.F.plainAttrs_list PySem.F.slot_list_extend PySem.F.type_list_extend mt_extend (pe_var hN hv hd hcd) (pa_cons h.pe pa_nil hs) hbase hfew hline hs rfl,
    fun F k ρ Φ σ H S Q ⟨f, gs, hg, q⟩ R j => by
      obtain ⟨a, w, ha, h1, h2, ⟨vs, rfl, h3⟩, _⟩ := R.own hg
      refine ⟨_, ha, .inl ⟨rfl, vs, sl_of h2⟩, h.le F k ρ _ σ H S _ q R fun ρ1 y v H1 S1 ⟨f', gs', ys, hg', ey, l, q1⟩ n1 R1 r1 => ?_⟩
      subst ey
      obtain ⟨p, us, rfl, _, b1, b2⟩ := r1
      obtain ⟨a', w', ha', k1, k2, ⟨ws, rfl, k3⟩, _⟩ := R1.own hg'
      rw [ha] at ha'
      cases ha'
      obtain ⟨R2, n2⟩ := R1.mut hg' ha (u' := .lst (ws ++ us)) (g' := .lst (gs' ++ ys)) ⟨_, rfl, k3.app b2⟩
      exact ⟨a, p, ws, us, rfl, rfl, k2, b1, len_ok (by rw [k3.len, b2.len]; exact l), j _ .non .non _ S1 q1 (n1.trans n2) R2 rfl⟩⟩
/-- x.pop() -/
def uPop (i : Nat) : UE := fun ρ Φ => ∃ f gs y, ρ[i]? = some (.ow f (.lst gs)) ∧ gs[gs.length - 1]? = some y ∧ Φ (ρ.set i (.ow f (.lst gs.dropLast))) y
theorem RgL.dropLast {W : Wd} {S : AS} {H : Hp} {gs : List G} {vs : List V} (h : RgL W S H gs vs) : RgL W S H gs.dropLast vs.dropLast := by
  rw [List.dropLast_eq_take, List.dropLast_eq_take, h.len]
  exact h.take _
theorem ge_pop (i : Nat) {x : Str} {p1 p2 : Pos} (hN : X.N[i]? = some x := by rfl) (hv : Vis X.env.scope x := by first | exact Or.inl rfl | exact Or.inr (Or.inl rfl) | exact Or.inr (Or.inr rfl)) (hd : (x == ("__debug__" : Str)) = false := by decide) (hcd : (x == ("__classdict__" : Str)) = false := by decide)
    (hbase : attributeBase (.Name x p1) "pop" X.env (eval (.Name x p1) X.env) = eval (.Name x p1) X.env := by rfl) (hline : (p2.endLine == pos.line) = true := by rfl) :
    GE X (.Call (.Attribute (.Name x p1) "pop" p2) [] [] pos) (tBM0 X.K "list" rPop (tVar i)) (uPop i) :=
  ⟨pe_bm0 PySem.F.plainAttrs_list PySem.F.slot_list_pop PySem.F.type_list_pop mt_pop (pe_var hN hv hd hcd) hbase hline,
    fun F k ρ Φ σ H S Q ⟨f, gs, y, hg, hy, q⟩ R j => by
      obtain ⟨a, w, ha, h1, h2, ⟨vs, rfl, h3⟩, _⟩ := R.own hg
      obtain ⟨v, hv', rv⟩ := h3.get' hy
      obtain ⟨R2, n2⟩ := R.mut hg ha (u' := .lst vs.dropLast) (g' := .lst gs.dropLast) ⟨_, rfl, h3.dropLast⟩
      exact ⟨_, ha, .inl ⟨rfl, vs, sl_of h2⟩, a, vs, v, rfl, rfl, h2, by rw [h3.len]; exact hv', j _ y v _ S q n2 R2 (rv.nx n2)⟩⟩
/-- x.pop(e) -/
def uPopA (i : Nat) (ue : UE) : UE := fun ρ Φ => ∃ f gs, ρ[i]? = some (.ow f (.lst gs)) ∧ ue ρ fun ρ1 z => ∃ f gs k y, ρ1[i]? = some (.ow f (.lst gs)) ∧ z = .int k ∧ 0 ≤ k ∧ k < 1000000 ∧ gs[k.toNat]? = some y ∧ Φ (ρ1.set i (.ow f (.lst (gs.eraseIdx k.toNat)))) y
theorem ge_popA (i : Nat) {x : Str} {p1 p2 : Pos} (h : GE X e t u) (hN : X.N[i]? = some x := by rfl) (hv : Vis X.env.scope x := by first | exact Or.inl rfl | exact Or.inr (Or.inl rfl) | exact Or.inr (Or.inr rfl)) (hd : (x == ("__debug__" : Str)) = false := by decide) (hcd : (x == ("__classdict__" : Str)) = false := by decide)
    (hbase : attributeBase (.Name x p1) "pop" X.env (eval (.Name x p1) X.env) = eval (.Name x p1) X.env := by rfl)
    (hfew : ((backTo pos (starEach [e] X.env)).all (fun x => !x.1) && (backToKw pos (keywordEach [] X.env)).all (fun x => x.1.isSome) && decide (([e] : List Expr).length + ([] : List Keyword).length + (if ([] : List Keyword).isEmpty then 0 else 1) < 30)) = true := by rfl)
    (hline : (p2.endLine == pos.line) = true := by rfl) (hs : starEach [e] X.env = (false, eval e X.env) :: starEach [] X.env := by rfl) :
    GE X (.Call (.Attribute (.Name x p1) "pop" p2) [e] [] pos) (tBM X.K "list" rPopAt (tVar i) (tCons t tNil)) (uPopA i u) :=
  ⟨pe_bm PySem.F.plainAttrs_list PySem.F.slot_list_pop PySem.F.type_list_pop mt_popAt (pe_var hN hv hd hcd) (pa_cons h.pe pa_nil hs) hbase hfew hline hs rfl,
    fun F k ρ Φ σ H S Q ⟨f, gs, hg, q⟩ R j => by
      obtain ⟨a, w, ha, h1, h2, ⟨vs, rfl, h3⟩, _⟩ := R.own hg
      refine ⟨_, ha, .inl ⟨rfl, vs, sl_of h2⟩, h.le F k ρ _ σ H S _ q R fun ρ1 z v H1 S1 ⟨f', gs', n, y, hg', ez, n0, n1', hy, q1⟩ n1 R1 r1 => ?_⟩
      subst ez
      cases (show v = .int n from r1)
      obtain ⟨a', w', ha', k1, k2, ⟨ws, rfl, k3⟩, _⟩ := R1.own hg'
      rw [ha] at ha'
      cases ha'
      obtain ⟨v', hv', rv⟩ := k3.get' hy
      obtain ⟨R2, n2⟩ := R1.mut hg' ha (u' := .lst (ws.eraseIdx n.toNat)) (g' := .lst (gs'.eraseIdx n.toNat)) ⟨_, rfl, k3.erase _⟩
      have hl := getL hv'
      exact ⟨a, ws, n, n.toNat, v', rfl, rfl, k2, by omega, by omega, seqIndex_of n0 (by omega), hv', j _ y v' _ S1 q1 (n1.trans n2) R2 (rv.nx n2)⟩⟩
/-- x[i] = e -/
def vSubO (i : Nat) (ui : UE) : UG := fun y ρ Φ => ∃ f g, ρ[i]? = some (.ow f g) ∧ ui ρ fun ρ1 z => ∃ f gs k j, ρ1[i]? = some (.ow f (.lst gs)) ∧ z = .int k ∧ ixN gs.length k = some j ∧ Φ (ρ1.set i (.ow f (.lst (gs.set j y))))
theorem gg_subO (i : Nat) {x : Str} {p1 : Pos} (h : GE X e t u) (hN : X.N[i]? = some x := by rfl) (hv : Vis X.env.scope x := by first | exact Or.inl rfl | exact Or.inr (Or.inl rfl) | exact Or.inr (Or.inr rfl)) (hd : (x == ("__debug__" : Str)) = false := by decide) (hcd : (x == ("__classdict__" : Str)) = false := by decide)
    (ha : ∀ v, assign (.Subscript (.Name x p1) e pos) X.env v = (do
      let ov ← holding [v] (eval (.Name x p1) X.env)
      let iv ← holding [v, ov] (eval e X.env)
      standAt pos
      holding [v, ov, iv] (setItem ov iv v)
      release [v, ov, iv] []) := by intros; rfl) : GG X [] (.Subscript (.Name x p1) e pos) (gSub (tVar i) t rSetL) (vSubO i u) :=
  ⟨pg_sub (pe_var hN hv hd hcd) h.pe set_list ha, fun F k y v ρ Φ σ H S Q ⟨f, g, hg, q⟩ R r j => by
      obtain ⟨a, w, ha, _⟩ := R.own hg
      refine ⟨_, ha, h.le F k ρ _ σ H S _ q R fun ρ1 z vz H1 S1 ⟨f', gs, n, m, hg', ez, hm, q1⟩ n1 R1 r1 => ?_⟩
      subst ez
      obtain ⟨a', w', ha', k1, k2, ⟨ws, rfl, k3⟩, _⟩ := R1.own hg'
      rw [ha] at ha'
      cases ha'
      obtain ⟨R2, n2⟩ := R1.mut hg' ha (u' := .lst (ws.set m v)) (g' := .lst (gs.set m y)) ⟨_, rfl, k3.set _ (r.nx n1)⟩
      exact ⟨a, ws, n, m, rfl, r1, k2, by rw [k3.len]; exact hm, j _ σ _ S1 q1 (n1.trans n2) R2 ⟨rfl, fun _ _ => rfl⟩⟩⟩
/-- x op= e -/
structure GIp (X : Cx) (op : Operator) (ti : TIp) (ur : G → G → (G → Prop) → Prop) : Prop where
  ho : PIp X op ti
  le : ∀ (W : Wd) (S : AS) (H : Hp) (g1 g2 : G) (v1 v2 : V) (Φ : G → Prop) (Q : VK), Rg W S H g1 v1 → Rg W S H g2 v2 → ur g1 g2 Φ → (∀ g v, Φ g → Rg W S H g v → Q v H) → ti v1 v2 H Q
def uAug (i : Nat) (ur : G → G → (G → Prop) → Prop) (u : UE) : US := fun B ρ => ∃ g, ρ[i]? = some (.fz g) ∧ u ρ fun ρ1 y => ur g y fun z => B.nx (ρ1.set i (.fz z))
theorem gs_aug {i : Nat} {x : Str} {op : Operator} {ti : TIp} {ur} {pos' : Pos} (hN : X.N.Nodup) (hi : X.N[i]? = some x) (hx : Loc X.env.scope x) (he : GE X e t u) (ho : GIp X op ti ur) (hf : X.fn x = true ∨ X.env.scope.names.lookup x = some .local := by first | exact .inl rfl | exact .inr rfl | assumption) :
    GS X (.AugAssign (.Name x pos') op e pos) (tAug i t ti) (uAug i ur u) :=
  ⟨ps_aug hN hi hx he.pe ho.ho hf, fun F k ρ B σ H S E ⟨g, hg, q⟩ R m => by
    obtain ⟨_, e1, v, rfl, r⟩ := R.sl i _ hg
    refine ⟨v, e1, he.le F k ρ _ σ H S _ q R fun ρ1 y w H1 S1 q1 n1 R1 r1 => ?_⟩
    exact ho.le F.toWd S1 H1 g y v w _ _ (r.nx n1) r1 q1 fun z vz q2 r2 => m.nx _ _ H1 S1 q2 n1 (R1.setF r2)⟩
theorem gip_I {op : Operator} {f : Int → Int → Int} (h : PIp X op (ipI f)) : GIp X op (ipI f) (u20 fun i j => .int (f i j)) := ⟨h, fun W S H g1 g2 v1 v2 Φ Q r1 r2 ⟨i, j, e1, e2, q⟩ k => by
  subst e1
  subst e2
  exact ⟨i, j, r1, r2, k _ _ q rfl⟩⟩
/-- stars in a row of values -/
def uStar (ua : UE) (ur : UA) : UA := fun ρ Φ => ua ρ fun ρ1 g => ∃ gs, sq g = some gs ∧ ur ρ1 fun ρ2 hs => Φ ρ2 (gs ++ hs)
theorem ga_star {es : List Expr} {p : Pos} {tr : TA} {ur : UA} (he : GE X e t u) (hr : GA X es tr ur) (hs : starEach (.Starred e p :: es) X.env = (true, eval e X.env) :: starEach es X.env := by rfl) : GA X (.Starred e p :: es) (StX.tStar X.K t tr) (uStar u ur) :=
  ⟨StX.pa_star he.pe hr.pe hs, fun F k ρ Φ σ H S Q q R j => he.le F k ρ _ σ H S _ q R fun ρ1 g v H1 S1 ⟨gs, eg, q1⟩ n1 R1 r1 => by
    obtain ⟨p, vs, rfl, h1, h2⟩ := RgB.seq (.inl r1) eg
    rw [k] at h1
    exact ⟨p, vs, rfl, h1.symm, hr.le F k ρ1 _ σ H1 S1 _ q1 R1 fun ρ2 hs ws H2 S2 q2 n2 R2 r2 => j ρ2 _ _ H2 S2 q2 (n1.trans n2) R2 ((h2.nx n2).app r2)⟩⟩
/-- tuple(range(..)), list(range(..)) -/
def uTupR1 (lo : Int) (ua : UE) : UE := fun ρ Φ => ua ρ fun ρ1 g => ∃ j : Int, g = .int j ∧ RgOk 0 j ∧ Φ ρ1 (.tup (rgG 0 j.toNat))
theorem rgV_rg {W : Wd} {S : AS} {H : Hp} {a b : Int} : RgL W S H (rgG a (b - a).toNat) (rgV a b) := by
  have key : ∀ (l : List Nat) (a : Int), RgL W S H (l.map fun i => G.int (a + (i : Nat))) (l.map fun i => V.int (a + (i : Nat))) := fun l a => by
    induction l with
    | nil => rfl
    | cons x l ih => exact ⟨_, _, rfl, rfl, ih⟩
  exact key _ a
def uRgT (ur : UA) : UE := fun ρ Φ => ur ρ fun ρ1 gs => ∃ a b : Int, gs = [.int a, .int b] ∧ RgOk a b ∧ Φ ρ1 (.tup (rgG a (b - a).toNat))
theorem ge_tupRg2 {p p2 pos2 : Pos} (hc : X.calm = true) (hg : Gl X "tuple") (hm : X.mg "tuple" = none) (hg2 : Gl X "range") (hm2 : X.mg "range" = none) (ha : GE X a ta ua) (hb : GE X b tb ub) (na : starEach [a, b] X.env = (false, eval a X.env) :: starEach [b] X.env := by rfl)
    (nb : starEach [b] X.env = (false, eval b X.env) :: starEach [] X.env := by rfl) (hp : (backTo pos2 (starEach [b] X.env)).any (·.1) = false := by rfl)
    (n0 : starEach [.Call (.Name "range" p2) [a, b] [] pos2] X.env = (false, eval (.Call (.Name "range" p2) [a, b] [] pos2) X.env) :: starEach [] X.env := by rfl) :
    GE X (.Call (.Name "tuple" p) [.Call (.Name "range" p2) [a, b] [] pos2] [] pos) (tTupRg (tRg2 ta tb)) (uRgT (uCons ua (uCons ub uNil))) :=
  ⟨pe_tupRg hc hg hm (prg_2 hg2 hm2 ha.pe hb.pe na nb hp) n0, fun F k ρ Φ σ H S Q q R j => ha.le F k ρ _ σ H S _ q R fun ρ1 g1 v1 H1 S1 q1 n1 R1 r1 => hb.le F k ρ1 _ σ H1 S1 _ q1 R1 fun ρ2 g2 v2 H2 S2 ⟨x, y, e, ok, q2⟩ n2 R2 r2 => by
    cases e
    refine ⟨x, y, r1, r2, ok, fun p hp => ?_⟩
    obtain ⟨R3, n3⟩ := R2.same (same_new (o := .tup (rgV x y)) hp)
    exact j ρ2 _ _ _ S2 q2 ((n1.trans n2).trans n3) R3 (rg_tup hp rgV_rg)⟩
def uRgL1 (ua : UE) : UE := fun ρ Φ => ua ρ fun ρ1 g => ∃ b : Int, g = .int b ∧ RgOk 0 b ∧ Φ ρ1 (.lst (rgG 0 b.toNat))
theorem gn_lstRg1 {p p2 pos2 : Pos} (hc : X.calm = true) (hg : Gl X "list") (hm : X.mg "list" = none) (hg2 : Gl X "range") (hm2 : X.mg "range" = none) (ha : GE X a ta ua) (na : starEach [a] X.env = (false, eval a X.env) :: starEach [] X.env := by rfl)
    (n0 : starEach [.Call (.Name "range" p2) [a] [] pos2] X.env = (false, eval (.Call (.Name "range" p2) [a] [] pos2) X.env) :: starEach [] X.env := by rfl) :
    GN X (.Call (.Name "list" p) [.Call (.Name "range" p2) [a] [] pos2] [] pos) (tLstRg (tRg1 ta)) (uRgL1 ua) :=
  ⟨pe_listRg hc hg hm (prg_1 hg2 hm2 ha.pe na) n0, fun F k ρ Φ σ H S Q q R j => ha.le F k ρ _ σ H S _ q R fun ρ1 g1 v1 H1 S1 ⟨y, e, ok, q1⟩ n1 R1 r1 => by
    subst e
    refine ⟨y, r1, ok, fun p hp => ?_⟩
    have r3 := rgV_rg (W := F.toWd) (S := S1) (H := H1) (a := 0) (b := y)
    rw [Int.sub_zero] at r3
    obtain ⟨n3, R3, r3, fr⟩ := new_lst (g := .lst (rgG 0 y.toNat)) (o := .lst (rgV 0 y)) R1 hp ⟨_, rfl, r3⟩
    exact j ρ1 _ p _ _ _ q1 (n1.trans n3) R3 (.inr rfl) upd_same r3 fr⟩
end
end Zn
/-! steps: what a reading of values asks -/
namespace Zn
open PySem PySem.Spec PyProof.Rows L2 TL
section
variable {B : Bs} {ρ : RS} {Φ : RS → G → Prop} {Ψ : RS → Bool → Prop} {Θ : RS → List G → Prop} {u ua ub : UE} {ut vt : UT} {w1 w2 : US} {ur : UA} {i : Nat} {g h : G} {x y : G}
theorem v_seq (q : w1 { B with nx := w2 B } ρ) : uSeq w1 w2 B ρ := q
theorem v_set (q : u ρ fun ρ1 g => B.nx (ρ1.set i (.fz g))) : uSet i u B ρ := q
theorem v_setO (q : u ρ fun ρ1 g => B.nx (ρ1.set i (.ow true g))) : uSetO i u B ρ := q
theorem v_asg {v : UG} (q : u ρ fun ρ1 g => v g ρ1 B.nx) : uAsg u v B ρ := q
theorem v_ret (q : u ρ fun ρ1 g => B.rt ρ1 g) : uRet u B ρ := q
theorem v_drop (q : u ρ fun ρ1 _ => B.nx ρ1) : uDrop u B ρ := q
theorem v_ifs (q : ut ρ fun ρ1 k => if k = true then w1 B ρ1 else w2 B ρ1) : uIfS ut w1 w2 B ρ := q
theorem v_c (q : Φ ρ g) : uC g ρ Φ := q
theorem v_var (h : ρ[i]? = some (.fz g)) (q : Φ ρ g) : uVar i ρ Φ := ⟨g, h, q⟩
theorem v_frz (h : ρ[i]? = some (.ow true g)) (q : Φ (ρ.set i (.fz g)) g) : uFrz i ρ Φ := ⟨g, h, q⟩
theorem v_bor {f : Bool} (h : ρ[i]? = some (.ow f g)) (q : Φ ρ g) : uBor i ρ Φ := ⟨f, g, h, q⟩
theorem v_op {r} (q : ua ρ fun ρ1 x => ub ρ1 fun ρ2 y => r x y fun z => Φ ρ2 z) : uOp r ua ub ρ Φ := q
theorem v_test (q : u ρ fun ρ1 g => ∃ k, g = .bl k ∧ Ψ ρ1 k) : uTest u ρ Ψ := q
theorem v_bl {b : Bool} {R : Bool → Prop} (q : R b) : ∃ k, G.bl b = G.bl k ∧ R k := ⟨b, rfl, q⟩
theorem v_int {j : Int} {R : Int → Prop} (q : R j) : ∃ k, G.int j = G.int k ∧ R k := ⟨j, rfl, q⟩
theorem v_20 {f : Int → Int → G} {a b : Int} {Q : G → Prop} (q : Q (f a b)) : u20 f (.int a) (.int b) Q := ⟨a, b, rfl, rfl, q⟩
theorem v_2 {C : Int → Int → Prop} {f : Int → Int → G} {a b : Int} {Q : G → Prop} (h : C a b) (q : Q (f a b)) : u2 C f (.int a) (.int b) Q := ⟨a, b, rfl, rfl, h, q⟩
theorem v_2S {f : Str → Str → G} {a b : Str} {Q : G → Prop} (q : Q (f a b)) : u2S f (.str a) (.str b) Q := ⟨a, b, rfl, rfl, q⟩
theorem v_2B {f : Bool → Bool → G} {a b : Bool} {Q : G → Prop} (q : Q (f a b)) : u2B f (.bl a) (.bl b) Q := ⟨a, b, rfl, rfl, q⟩
theorem v_not (q : ut ρ fun ρ1 b => Ψ ρ1 (!b)) : uNot ut ρ Ψ := q
theorem v_and (q : ut ρ fun ρ1 b => if b = true then vt ρ1 Ψ else Ψ ρ1 false) : uAnd ut vt ρ Ψ := q
theorem v_or (q : ut ρ fun ρ1 b => if b = true then Ψ ρ1 true else vt ρ1 Ψ) : uOr ut vt ρ Ψ := q
theorem v_andV (q : ua ρ fun ρ1 g => ∃ c, g = .bl c ∧ if c = true then ub ρ1 Φ else Φ ρ1 (.bl false)) : uAndV ua ub ρ Φ := q
theorem v_orV (q : ua ρ fun ρ1 g => ∃ c, g = .bl c ∧ if c = true then Φ ρ1 (.bl true) else ub ρ1 Φ) : uOrV ua ub ρ Φ := q
theorem v_notV (q : ua ρ fun ρ1 g => ∃ c, g = .bl c ∧ Φ ρ1 (.bl (!c))) : uNotV ua ρ Φ := q
theorem v_if (q : ut ρ fun ρ1 b => if b = true then ua ρ1 Φ else ub ρ1 Φ) : uIf ut ua ub ρ Φ := q
theorem v_nil (q : Θ ρ []) : uNil ρ Θ := q
theorem v_cons (q : ua ρ fun ρ1 g => ur ρ1 fun ρ2 gs => Θ ρ2 (g :: gs)) : uCons ua ur ρ Θ := q
theorem v_lst (q : ur ρ fun ρ1 gs => gs.length ≤ 100000 ∧ Φ ρ1 (.lst gs)) : uLst ur ρ Φ := q
theorem v_tup (q : ur ρ fun ρ1 gs => gs.length ≤ 100000 ∧ Φ ρ1 (.tup gs)) : uTup ur ρ Φ := q
theorem v_cal {uf} (q : ur ρ fun ρ1 gs => uf gs fun g => Φ ρ1 g) : uCal uf ur ρ Φ := q
theorem v_ix (q : ua ρ fun ρ1 x => ub ρ1 fun ρ2 y => u2Ix x y fun z => Φ ρ2 z) : uOp u2Ix ua ub ρ Φ := q
theorem v_ixL {gs : List G} {k : Int} {Q : G → Prop} (e : atI gs k = some g) (q : Q g) : u2IxL (.lst gs) (.int k) Q := ⟨gs, k, g, rfl, rfl, e, q⟩
theorem v_ixT {gs : List G} {k : Int} {Q : G → Prop} (e : atI gs k = some g) (q : Q g) : u2IxT (.tup gs) (.int k) Q := ⟨gs, k, g, rfl, rfl, e, q⟩
theorem v_ixO {f : Bool} (h : ρ[i]? = some (.ow f g)) (q : ub ρ fun ρ1 y => ∃ f gs k g, ρ1[i]? = some (.ow f (.lst gs)) ∧ y = .int k ∧ atI gs k = some g ∧ Φ ρ1 g) : uIxO i ub ρ Φ := ⟨f, g, h, q⟩
theorem v_ixO2 {f : Bool} {gs : List G} {k : Int} {R : G → Prop} {o : Option SG} (h : o = some (.ow f (.lst gs))) (e : atI gs k = some g) (q : R g) : ∃ f' gs' k' g', o = some (.ow f' (.lst gs')) ∧ G.int k = .int k' ∧ atI gs' k' = some g' ∧ R g' := ⟨f, gs, k, g, h, rfl, e, q⟩
theorem v_1 {uc} (q : ua ρ fun ρ1 g => uc g fun g' => Φ ρ1 g') : u1 uc ua ρ Φ := q
theorem v_len {gs : List G} {Q : G → Prop} (e : sq g = some gs) (q : Q (.int gs.length)) : ucLen g Q := ⟨gs, e, q⟩
theorem v_intI {k : Int} {Q : G → Prop} (q : Q (.int k)) : ucInt (.int k) Q := .inl ⟨k, rfl, q⟩
theorem v_intB {k : Bool} {Q : G → Prop} (q : Q (.int (if k = true then 1 else 0))) : ucInt (.bl k) Q := .inr ⟨k, rfl, q⟩
theorem v_abs {k : Int} {Q : G → Prop} (q : Q (.int (if k < 0 then -k else k))) : ucAbs (.int k) Q := ⟨k, rfl, q⟩
theorem v_sum {ns : List Int} {Q : G → Prop} (q : Q (.int ns.sum)) : ucSum (.lst (ns.map G.int)) Q := ⟨ns, rfl, q⟩
theorem v_ctup {gs : List G} {Q : G → Prop} (e : sq g = some gs) (q : Q (.tup gs)) : ucTup g Q := ⟨gs, e, q⟩
theorem v_clst {gs : List G} {Q : G → Prop} (e : sq g = some gs) (q : Q (.lst gs)) : ucLst g Q := ⟨gs, e, q⟩
theorem v_c2 {f} (q : ur ρ fun ρ1 gs => ∃ i j, gs = [.int i, .int j] ∧ Φ ρ1 (.int (f i j))) : uC2 f ur ρ Φ := q
theorem v_two {a b : Int} {R : Int → Int → Prop} (q : R a b) : ∃ i j, [G.int a, G.int b] = [.int i, .int j] ∧ R i j := ⟨a, b, rfl, q⟩
theorem v_app {f : Bool} {gs : List G} (h : ρ[i]? = some (.ow f (.lst gs))) (q : ua ρ fun ρ1 y => ∃ f gs, ρ1[i]? = some (.ow f (.lst gs)) ∧ gs.length < 100000 ∧ Φ (ρ1.set i (.ow f (.lst (gs ++ [y])))) .non) : uApp i ua ρ Φ := ⟨f, gs, h, q⟩
theorem v_app2 {f : Bool} {gs : List G} {R : Bool → List G → Prop} {o : Option SG} (h : o = some (.ow f (.lst gs))) (l : gs.length < 100000) (q : R f gs) : ∃ f' gs', o = some (.ow f' (.lst gs')) ∧ gs'.length < 100000 ∧ R f' gs' := ⟨f, gs, h, l, q⟩
theorem v_ext {f : Bool} {gs : List G} (h : ρ[i]? = some (.ow f (.lst gs))) (q : ua ρ fun ρ1 y => ∃ f gs ys, ρ1[i]? = some (.ow f (.lst gs)) ∧ y = .lst ys ∧ gs.length + ys.length ≤ 100000 ∧ Φ (ρ1.set i (.ow f (.lst (gs ++ ys)))) .non) : uExt i ua ρ Φ := ⟨f, gs, h, q⟩
theorem v_ext2 {f : Bool} {gs ys : List G} {R : Bool → List G → List G → Prop} {o : Option SG} (h : o = some (.ow f (.lst gs))) (l : gs.length + ys.length ≤ 100000) (q : R f gs ys) : ∃ f' gs' ys', o = some (.ow f' (.lst gs')) ∧ G.lst ys = .lst ys' ∧ gs'.length + ys'.length ≤ 100000 ∧ R f' gs' ys' := ⟨f, gs, ys, h, rfl, l, q⟩
theorem v_pop {f : Bool} {gs : List G} (h : ρ[i]? = some (.ow f (.lst gs))) (e : gs[gs.length - 1]? = some y) (q : Φ (ρ.set i (.ow f (.lst gs.dropLast))) y) : uPop i ρ Φ := ⟨f, gs, y, h, e, q⟩
theorem v_popA {f : Bool} {gs : List G} (h : ρ[i]? = some (.ow f (.lst gs))) (q : ua ρ fun ρ1 z => ∃ f gs k y, ρ1[i]? = some (.ow f (.lst gs)) ∧ z = .int k ∧ 0 ≤ k ∧ k < 1000000 ∧ gs[k.toNat]? = some y ∧ Φ (ρ1.set i (.ow f (.lst (gs.eraseIdx k.toNat)))) y) : uPopA i ua ρ Φ := ⟨f, gs, h, q⟩
theorem v_popA2 {f : Bool} {gs : List G} {k : Int} {R : Bool → List G → Int → G → Prop} {o : Option SG} (h : o = some (.ow f (.lst gs))) (k0 : 0 ≤ k) (k1 : k < 1000000) (e : gs[k.toNat]? = some y) (q : R f gs k y) : ∃ f' gs' k' y', o = some (.ow f' (.lst gs')) ∧ G.int k = .int k' ∧ 0 ≤ k' ∧ k' < 1000000 ∧ gs'[k'.toNat]? = some y' ∧ R f' gs' k' y' := ⟨f, gs, k, y, h, rfl, k0, k1, e, q⟩
theorem v_nm {R : RS → Prop} (q : R (ρ.set i (.fz g))) : vName i g ρ R := q
theorem v_tupd {n : Nat} {us : UGs} {gs : List G} {R : RS → Prop} (l : gs.length = n) (q : us gs ρ R) : vTup n us (.tup gs) ρ R := ⟨gs, rfl, l, q⟩
theorem v_vcons {t : UG} {us : UGs} {gs : List G} {R : RS → Prop} (q : t g ρ fun ρ' => us gs ρ' R) : vCons t us (g :: gs) ρ R := ⟨g, gs, rfl, q⟩
theorem v_vnil {R : RS → Prop} (q : R ρ) : vNil [] ρ R := ⟨rfl, q⟩
theorem v_for {ui : UA} {ug : UG} (q : ui ρ fun ρ1 gs => ∃ Iv : Nat → RS → Prop, Iv 0 ρ1 ∧ (∀ i g ρ, gs[i]? = some g → Iv i ρ → ug g ρ fun ρ' => w1 { B with nx := Iv (i + 1), ct := Iv (i + 1), bk := B.nx } ρ') ∧ ∀ ρ, Iv gs.length ρ → B.nx ρ) : uFor ui ug w1 B ρ := q
theorem v_it (q : ua ρ fun ρ1 g => ∃ gs, g = .lst gs ∧ Θ ρ1 gs) : uIt ua ρ Θ := q
theorem v_itT (q : ua ρ fun ρ1 g => ∃ gs, g = .tup gs ∧ Θ ρ1 gs) : uItT ua ρ Θ := q
theorem v_el {gs : List G} {R : List G → Prop} (q : R gs) : ∃ gs', G.lst gs = .lst gs' ∧ R gs' := ⟨gs, rfl, q⟩
theorem v_et {gs : List G} {R : List G → Prop} (q : R gs) : ∃ gs', G.tup gs = .tup gs' ∧ R gs' := ⟨gs, rfl, q⟩
theorem v_rg1 (q : ua ρ fun ρ1 g => ∃ j : Int, g = .int j ∧ -(2 ^ 62) ≤ j ∧ j < 2 ^ 62 ∧ Θ ρ1 (rgG 0 j.toNat)) : uRg1 ua ρ Θ := q
theorem v_rg1b {j : Int} {R : Int → Prop} (h1 : -(2 ^ 62) ≤ j) (h2 : j < 2 ^ 62) (q : R j) : ∃ k : Int, G.int j = .int k ∧ -(2 ^ 62) ≤ k ∧ k < 2 ^ 62 ∧ R k := ⟨j, rfl, h1, h2, q⟩
theorem v_rg2 (q : ur ρ fun ρ1 gs => ∃ i j : Int, gs = [.int i, .int j] ∧ (-(2 ^ 62) ≤ i ∧ i < 2 ^ 62 ∧ -(2 ^ 62) ≤ j ∧ j < 2 ^ 62) ∧ Θ ρ1 (rgG i (j - i).toNat)) : uRg2 ur ρ Θ := q
theorem v_rg2b {a b : Int} {R : Int → Int → Prop} (h : -(2 ^ 62) ≤ a ∧ a < 2 ^ 62 ∧ -(2 ^ 62) ≤ b ∧ b < 2 ^ 62) (q : R a b) : ∃ i j : Int, [G.int a, G.int b] = [.int i, .int j] ∧ (-(2 ^ 62) ≤ i ∧ i < 2 ^ 62 ∧ -(2 ^ 62) ≤ j ∧ j < 2 ^ 62) ∧ R i j := ⟨a, b, rfl, h, q⟩
theorem v_al {n : Nat} {R : Prop} (h : n ≤ 100000) (q : R) : n ≤ 100000 ∧ R := ⟨h, q⟩
theorem v_aug {r} (h : ρ[i]? = some (.fz g)) (q : u ρ fun ρ1 y => r g y fun z => B.nx (ρ1.set i (.fz z))) : uAug i r u B ρ := ⟨g, h, q⟩
theorem v_slT {ul uh : UO} (q : ua ρ fun ρ1 g => ul ρ1 fun ρ2 lo => uh ρ2 fun ρ3 hi => ∃ gs, g = .tup gs ∧ Φ ρ3 (.tup (cutG gs lo hi))) : uSlT ua ul uh ρ Φ := q
theorem v_slL {ul uh : UO} (q : ua ρ fun ρ1 g => ul ρ1 fun ρ2 lo => uh ρ2 fun ρ3 hi => ∃ gs, g = .lst gs ∧ Φ ρ3 (.lst (cutG gs lo hi))) : uSlL ua ul uh ρ Φ := q
theorem v_noP {R : RS → Option Int → Prop} (q : R ρ none) : uNoP ρ R := q
theorem v_part {R : RS → Option Int → Prop} (q : u ρ fun ρ1 g => ∃ i, g = .int i ∧ R ρ1 (some i)) : uPart u ρ R := q
theorem v_cat {as bs : List G} {Q : G → Prop} (l : as.length + bs.length ≤ 100000) (q : Q (.tup (as ++ bs))) : u2Cat (.tup as) (.tup bs) Q := ⟨as, bs, rfl, rfl, l, q⟩
theorem v_catL {as bs : List G} {Q : G → Prop} (l : as.length + bs.length ≤ 100000) (q : Q (.lst (as ++ bs))) : u2CatL (.lst as) (.lst bs) Q := ⟨as, bs, rfl, rfl, l, q⟩
theorem v_isNt {Q : G → Prop} (h : ∀ u, x ≠ .raw u) (q : Q (.bl (!isN x))) : u2N true x .non Q := ⟨rfl, h, q⟩
theorem v_isNf {Q : G → Prop} (h : ∀ u, x ≠ .raw u) (q : Q (.bl (isN x))) : u2N false x .non Q := ⟨rfl, h, q⟩
theorem v_in {n : Int} {ns : List Int} {Q : G → Prop} (e : sq y = some (ns.map G.int)) (q : Q (.bl (decide (n ∈ ns)))) : u2In false (.int n) y Q := ⟨n, ns, rfl, e, q⟩
theorem v_notIn {n : Int} {ns : List Int} {Q : G → Prop} (e : sq y = some (ns.map G.int)) (q : Q (.bl (!decide (n ∈ ns)))) : u2In true (.int n) y Q := ⟨n, ns, rfl, e, q⟩
theorem v_inS {n : Str} {ns : List Str} {Q : G → Prop} (e : sq y = some (ns.map G.str)) (q : Q (.bl (decide (n ∈ ns)))) : u2InS false (.str n) y Q := ⟨n, ns, rfl, e, q⟩
theorem v_notInS {n : Str} {ns : List Str} {Q : G → Prop} (e : sq y = some (ns.map G.str)) (q : Q (.bl (!decide (n ∈ ns)))) : u2InS true (.str n) y Q := ⟨n, ns, rfl, e, q⟩
theorem v_star (q : ua ρ fun ρ1 g => ∃ gs, sq g = some gs ∧ ur ρ1 fun ρ2 hs => Θ ρ2 (gs ++ hs)) : uStar ua ur ρ Θ := q
theorem v_rgT (q : ur ρ fun ρ1 gs => ∃ a b : Int, gs = [.int a, .int b] ∧ RgOk a b ∧ Φ ρ1 (.tup (rgG a (b - a).toNat))) : uRgT ur ρ Φ := q
theorem v_lc {ui : UA} {ug : UG} {utt : UT} {ue : UE} {vs : List Nat} (q : ui ρ fun ρ1 gs => gs.length ≤ 100000 ∧ ∃ Iv : Nat → List G → RS → Prop, Iv 0 [] (wipeG ρ1 vs) ∧
  (∀ i g acc ρ2, gs[i]? = some g → acc.length ≤ i → Iv i acc ρ2 → ug g (wipeG ρ2 vs) fun ρ3 => utt ρ3 fun ρ4 b => if b = true then ue ρ4 fun ρ5 y => Iv (i + 1) (acc ++ [y]) (wipeG ρ5 vs) else Iv (i + 1) acc (wipeG ρ4 vs)) ∧
  ∀ acc ρ2, acc.length ≤ gs.length → Iv gs.length acc ρ2 → Φ (mergeG ρ1 vs ρ2) (.lst acc)) : uLc ui ug utt ue vs ρ Φ := q
theorem v_ite {c : Bool} {A C : Prop} (h1 : c = true → A) (h2 : c = false → C) : if c = true then A else C := by
  cases c with
  | true => exact h1 rfl
  | false => exact h2 rfl
theorem v_iteT {A C : Prop} (q : A) : if true = true then A else C := q
theorem v_iteF {A C : Prop} (q : C) : if false = true then A else C := q
theorem v_draw {m : Int} {R : G → Prop} (h1 : 1 ≤ m) (h2 : m < 1073741824) (q : ∀ n : Int, 0 ≤ n → n < m → R (.int n)) : ufDraw [.drw, .int m] R := ⟨m, rfl, h1, h2, q⟩
end
end Zn
/-! truth, isinstance, more that is walked, deep == -/
namespace Zn
open PySem PySem.Spec PyProof.Rows L2 TL
section
variable {X : Cx} {e a b tg : Expr} {t ta tb : TE} {u ua ub : UE} {pos : Pos}
def truG : G → Option Bool
  | .non => some false
  | .bl b => some b
  | .int i => some (i != 0)
  | .lst gs => some (!gs.isEmpty)
  | .tup gs => some (!gs.isEmpty)
  | _ => none
theorem isEmpty_len {α β : Type} {xs : List α} {ys : List β} (h : xs.length = ys.length) : xs.isEmpty = ys.isEmpty := by
  cases xs <;> cases ys <;> simp at h <;> rfl
theorem zip_empty {α β : Type} {xs : List α} {ys : List β} (h : xs.length = ys.length) : (xs.zip ys).isEmpty = xs.isEmpty := by
  cases xs <;> cases ys <;> simp at h <;> rfl
theorem tru_g {W : Wd} {S : AS} {H : Hp} {g : G} {v : V} {k : Bool} (h : RgB W S H g v) (e : truG g = some k) : TruV W.K v H k := by
  cases g with
  | non => cases e; rw [show v = .non from h.scal fun o => id]; rfl
  | bl b => cases e; rw [show v = .bl _ from h.scal fun o => id]; rfl
  | int b => cases e; rw [show v = .int _ from h.scal fun o => id]; rfl
  | lst gs =>
    cases e
    obtain ⟨p, vs, rfl, h1, h2⟩ := h.lst
    exact .inl ⟨vs, sl_of h1, by rw [isEmpty_len h2.len]⟩
  | tup gs =>
    cases e
    obtain ⟨p, vs, rfl, h1, h2⟩ := h.tup
    exact .inr (.inl ⟨vs, h1, by rw [isEmpty_len h2.len]⟩)
  | _ => cases e
def uTru (ua : UE) : UT := fun ρ Ψ => ua ρ fun ρ1 g => ∃ k, truG g = some k ∧ Ψ ρ1 k
theorem gt_truth (ha : GB X a ta ua) (he : ∀ whole, isTrue a X.env whole = (do let v ← whole; standAt a.pos; holding [v] (truthy v))) : GT X a (fun σ H Q => ta σ H fun x H' => ∃ k, TruV X.K x H' k ∧ Q k H') (uTru ua) :=
  ⟨pt_truth ha.pe he, fun F h ρ Φ σ H S Q q R j => ha.le F h ρ _ σ H S _ q R fun ρ1 g v H1 S1 ⟨k, e, q1⟩ n1 R1 r1 => ⟨k, h ▸ tru_g r1 e, j ρ1 k H1 S1 q1 n1 R1⟩⟩
theorem v_tru {ρ : RS} {Ψ : RS → Bool → Prop} (q : ua ρ fun ρ1 g => ∃ k, truG g = some k ∧ Ψ ρ1 k) : uTru ua ρ Ψ := q
theorem v_trb {g : G} {k : Bool} {R : Bool → Prop} (e : truG g = some k) (q : R k) : ∃ k, truG g = some k ∧ R k := ⟨k, e, q⟩
def tyG : G → Option String
  | .non => some "NoneType"
  | .bl _ => some "bool"
  | .int _ => some "int"
  | .str _ => some "str"
  | .lst _ => some "list"
  | .tup _ => some "tuple"
  | _ => none
theorem tyX_g {W : Wd} {S : AS} {H : Hp} {g : G} {v : V} {T : String} (h : Rg W S H g v) (e : tyG g = some T) : TyX W.K H v (.type T) := by
  cases g with
  | non => cases e; rw [show v = .non from h]; exact .base .non
  | bl b => cases e; rw [show v = .bl _ from h]; exact .base (.bl _)
  | int b => cases e; rw [show v = .int _ from h]; exact .base (.int _)
  | str b => cases e; rw [show v = .str _ from h]; exact .base (.str _)
  | lst gs =>
    cases e
    obtain ⟨p, vs, rfl, _, h1, h2⟩ := h
    exact .base (.lst h1)
  | tup gs =>
    cases e
    obtain ⟨p, vs, rfl, h1 | h1, h2⟩ := h
    · exact .base (.tup h1)
    · rcases h1 with (h1 | ⟨o, h1⟩) | ⟨o, its, n, h1, h3, _⟩
      · cases h1
      · cases h1
      · exact .kTuple h1 h3
  | _ => cases e
def uIsi (T : String) (ua : UE) : UE := fun ρ Φ => ua ρ fun ρ1 g => ∃ A b, tyG g = some A ∧ kitB A T = some b ∧ Φ ρ1 (.bl b)
theorem ge_isi {T : String} {x : Str} {p p2 : Pos} (hg : Gl X "isinstance") (hm : X.mg "isinstance" = none) (ha : GE X a ta ua) (hc : PE X (.Name x p2) (tC (.ty T)))
    (he : starEach [a, .Name x p2] X.env = (false, eval a X.env) :: starEach [.Name x p2] X.env := by rfl) (he2 : starEach [.Name x p2] X.env = (false, eval (.Name x p2) X.env) :: starEach [] X.env := by rfl) (hpl : (backTo pos (starEach [.Name x p2] X.env)).any (·.1) = false := by rfl) :
    GE X (.Call (.Name "isinstance" p) [a, .Name x p2] [] pos) (tCB (rIsi X.K) (tCons ta (tCons (tC (.ty T)) tNil))) (uIsi T ua) :=
  ⟨pe_callB call_isi hg hm (by decide +kernel) (pa_cons ha.pe (pa_cons hc pa_nil he2) he) (by decide) (by decide) he hpl, fun F h ρ Φ σ H S Q q R j => ha.le F h ρ _ σ H S _ q R fun ρ1 g v H1 S1 ⟨A, b, e1, e2, q1⟩ n1 R1 r1 =>
    ⟨v, .ty T, .type A, .type T, b, rfl, .ty _, h ▸ tyX_g r1 e1, kit_ty e2, j ρ1 _ _ H1 S1 q1 n1 R1 rfl⟩⟩
theorem v_isi {T : String} {ρ : RS} {Φ : RS → G → Prop} (q : ua ρ fun ρ1 g => ∃ A b, tyG g = some A ∧ kitB A T = some b ∧ Φ ρ1 (.bl b)) : uIsi T ua ρ Φ := q
theorem v_isi2 {T : String} {g : G} {A : String} {b : Bool} {R : Bool → Prop} (e1 : tyG g = some A) (e2 : kitB A T = some b) (q : R b) : ∃ A b, tyG g = some A ∧ kitB A T = some b ∧ R b := ⟨A, b, e1, e2, q⟩
/-- reversed(list) -/
def uItR (ua : UE) : UA := fun ρ Φ => ua ρ fun ρ1 g => ∃ gs, g = .lst gs ∧ Φ ρ1 gs.reverse
theorem gi_rev {p pos : Pos} (hg : Gl X "reversed") (hm : X.mg "reversed" = none) (ha : GE X a ta ua) (hs : starEach [a] X.env = [(false, eval a X.env)] := by rfl) : GI X tg (.Call (.Name "reversed" p) [a] [] pos) (iRev X.K (tCons ta tNil)) (uItR ua) :=
  ⟨pi_reversed hg hm (pa_cons ha.pe pa_nil hs) hs, fun F h ρ Φ σ H S R q Rl k => ha.le F h ρ _ σ H S _ q Rl fun ρ1 g v H1 S1 ⟨gs, e, q1⟩ n1 R1 r1 => by
    subst e
    obtain ⟨p, vs, rfl, hs, h1, h2⟩ := r1
    have hl := h2.len
    have w := walk_rev (K := X.K) (a := p) (xs := vs)
    refine ⟨p, vs, rfl, sl_of h1, k ρ1 gs.reverse _ H1 S1 q1 n1 R1 ⟨fun i H2 S2 hi n2 => ?_, fun H2 S2 n2 => ?_, fun i H2 S2 x H3 hi n2 y => ?_⟩⟩
    · exact w.goes i H2 (by rw [List.length_reverse] at hi; omega) (sl_of (n2.x _ _ hs h1))
    · have := w.stops H2 (sl_of (n2.x _ _ hs h1))
      rw [List.length_reverse, ← hl]
      exact this
    · rw [List.length_reverse] at hi
      obtain ⟨z1, z2⟩ := w.yields i H2 x H3 (by omega) (sl_of (n2.x _ _ hs h1)) y
      subst z1
      obtain ⟨g, e, r⟩ := h2.get z2
      refine ⟨.refl _, g, ?_, r.nx n2⟩
      rw [List.getElem?_reverse (by omega), ← hl]
      exact e⟩
theorem v_itR {ρ : RS} {Θ : RS → List G → Prop} (q : ua ρ fun ρ1 g => ∃ gs, g = .lst gs ∧ Θ ρ1 gs.reverse) : uItR ua ρ Θ := q
/-- enumerate(list) -/
def enumG (gs : List G) : List G := gs.zipIdx.map fun p => .tup [.int (p.2 : Nat), p.1]
theorem enumG_len {gs : List G} : (enumG gs).length = gs.length := by unfold enumG; rw [List.length_map, List.length_zipIdx]
theorem enumG_get {gs : List G} {i : Nat} : (enumG gs)[i]? = gs[i]?.map fun g => .tup [.int (i : Nat), g] := by
  unfold enumG
  rw [List.getElem?_map, List.getElem?_zipIdx]
  cases gs[i]? with
  | none => rfl
  | some g => simp
def uItE (ua : UE) : UA := fun ρ Φ => ua ρ fun ρ1 g => ∃ gs, g = .lst gs ∧ Φ ρ1 (enumG gs)
theorem gi_enum {elts : List Expr} {kk : Nat} {p pos tpos : Pos} (hg : Gl X "enumerate") (hm : X.mg "enumerate" = none) (ha : GE X a ta ua) (hs : starEach [a] X.env = [(false, eval a X.env)] := by rfl) : GI X (.Tuple elts kk tpos) (.Call (.Name "enumerate" p) [a] [] pos) (iEnum X.K (tCons ta tNil)) (uItE ua) :=
  ⟨pi_enum hg hm (pa_cons ha.pe pa_nil hs) hs, fun F h ρ Φ σ H S R q Rl k => ha.le F h ρ _ σ H S _ q Rl fun ρ1 g v H1 S1 ⟨gs, e, q1⟩ n1 R1 r1 => by
    subst e
    obtain ⟨p, vs, rfl, hs, h1, h2⟩ := r1
    have hl := h2.len
    have w := walk_enum (K := X.K) (a := p) (xs := vs)
    refine ⟨p, vs, rfl, sl_of h1, k ρ1 (enumG gs) _ H1 S1 q1 n1 R1 ⟨fun i H2 S2 hi n2 => ?_, fun H2 S2 n2 => ?_, fun i H2 S2 x H3 hi n2 y => ?_⟩⟩
    · exact w.goes i H2 (by rw [enumG_len] at hi; omega) (sl_of (n2.x _ _ hs h1))
    · have := w.stops H2 (sl_of (n2.x _ _ hs h1))
      rw [enumG_len, ← hl]
      exact this
    · rw [enumG_len] at hi
      obtain ⟨T, x1, x2, rfl, hT, rfl, e1, e2⟩ := w.yields i H2 x H3 (by omega) (sl_of (n2.x _ _ hs h1)) y
      obtain ⟨g, e, r⟩ := h2.get e2
      cases e1
      refine ⟨same_new hT, .tup [.int (i : Nat), g], by rw [enumG_get, e]; rfl, rg_tup hT ⟨_, _, rfl, rfl, _, _, rfl, r.nx n2, rfl⟩⟩⟩
theorem v_itE {ρ : RS} {Θ : RS → List G → Prop} (q : ua ρ fun ρ1 g => ∃ gs, g = .lst gs ∧ Θ ρ1 (enumG gs)) : uItE ua ρ Θ := q
/-- zip of two lists, of two tuples -/
def zipG (gs hs : List G) : List G := List.zipWith (fun x y => .tup [x, y]) gs hs
def uItZ (tt : Bool) (ur : UA) : UA := fun ρ Φ => ur ρ fun ρ1 l => ∃ gs hs, l = (if tt = true then [.tup gs, .tup hs] else [.lst gs, .lst hs]) ∧ Φ ρ1 (zipG gs hs)
theorem isIt_zip {F : Fr} {S : AS} {H : Hp} {J : It} {gs hs : List G} {vs ws : List V} {Gd : Hp → Prop} (w : Walk J (min vs.length ws.length) Gd (YPair (fun i => vs[i]?) (fun i => ws[i]?))) (h1 : RgL F.toWd S H gs vs) (h2 : RgL F.toWd S H hs ws) (hG : ∀ S2 H2, Nxt S H S2 H2 → Gd H2) : IsIt F S H J (zipG gs hs) := by
  have l1 := h1.len
  have l2 := h2.len
  have lz : (zipG gs hs).length = min vs.length ws.length := by unfold zipG; rw [List.length_zipWith, l1, l2]
  refine ⟨fun i H2 S2 hi n2 => w.goes i H2 (by omega) (hG _ _ n2), fun H2 S2 n2 => by rw [lz]; exact w.stops H2 (hG _ _ n2), fun i H2 S2 x H3 hi n2 y => ?_⟩
  obtain ⟨T, x1, x2, rfl, hT, rfl, e1, e2⟩ := w.yields i H2 x H3 (by omega) (hG _ _ n2) y
  obtain ⟨g1, f1, r1⟩ := h1.get e1
  obtain ⟨g2, f2, r2⟩ := h2.get e2
  refine ⟨same_new hT, .tup [g1, g2], ?_, rg_tup hT ⟨_, _, rfl, r1.nx n2, _, _, rfl, r2.nx n2, rfl⟩⟩
  unfold zipG
  rw [List.getElem?_zipWith, f1, f2]
theorem gi_zipL {elts : List Expr} {kk : Nat} {p pos tpos : Pos} {tr : TA} {ur : UA} (hg : Gl X "zip") (hm : X.mg "zip" = none) (ha : GA X [a, b] tr ur) (hs : starEach [a, b] X.env = (false, eval a X.env) :: starEach [b] X.env := by rfl) (hpl : (backTo pos (starEach [b] X.env)).any (·.1) = false := by rfl) :
    GI X (.Tuple elts kk tpos) (.Call (.Name "zip" p) [a, b] [] pos) (iZip X.K tr) (uItZ false ur) :=
  ⟨pi_zip hg hm ha.pe hs hpl, fun F h ρ Φ σ H S R q Rl k => ha.le F h ρ _ σ H S _ q Rl fun ρ1 l vs H1 S1 ⟨gs, hs, e, q1⟩ n1 R1 r1 => by
    subst e
    obtain ⟨v1, w1, rfl, ⟨p1, us, rfl, k1, a1, b1⟩, r1⟩ := r1
    obtain ⟨v2, w2, rfl, ⟨p2, ws, rfl, k2, a2, b2⟩, r1⟩ := r1
    cases r1
    exact ⟨p1, p2, us, ws, rfl, sl_of a1, sl_of a2, k ρ1 _ _ H1 S1 q1 n1 R1 (isIt_zip (walk_zip rfl) b1 b2 fun S2 H2 n2 => ⟨sl_of (n2.x _ _ k1 a1), sl_of (n2.x _ _ k2 a2)⟩)⟩⟩
theorem TupAt.nx {K : PySem.W.Frag} {S S' : AS} {H H' : Hp} {p : Addr} {vs : List V} (h : TupAt K H p vs) (n : Nxt S H S' H') : TupAt K H' p vs := by
  rcases h with h | h
  · exact .inl (n.t _ _ h)
  · exact .inr h
theorem gi_zipT {elts : List Expr} {kk : Nat} {p pos tpos : Pos} {tr : TA} {ur : UA} (hg : Gl X "zip") (hm : X.mg "zip" = none) (ha : GA X [a, b] tr ur) (hs : starEach [a, b] X.env = (false, eval a X.env) :: starEach [b] X.env := by rfl) (hpl : (backTo pos (starEach [b] X.env)).any (·.1) = false := by rfl) :
    GI X (.Tuple elts kk tpos) (.Call (.Name "zip" p) [a, b] [] pos) (RZ.iZipA X.K tr) (uItZ true ur) :=
  ⟨RZ.pi_zipA hg hm ha.pe hs hpl, fun F h ρ Φ σ H S R q Rl k => ha.le F h ρ _ σ H S _ q Rl fun ρ1 l vs H1 S1 ⟨gs, hs, e, q1⟩ n1 R1 r1 => by
    subst e
    obtain ⟨v1, w1, rfl, ⟨p1, us, rfl, a1, b1⟩, r1⟩ := r1
    obtain ⟨v2, w2, rfl, ⟨p2, ws, rfl, a2, b2⟩, r1⟩ := r1
    cases r1
    rw [h] at a1 a2
    exact ⟨p1, p2, us, ws, rfl, .inr ⟨a1.sq, a2.sq, k ρ1 _ _ H1 S1 q1 n1 R1 (isIt_zip (walk_zipT rfl) b1 b2 fun S2 H2 n2 => ⟨(a1.nx n2).sq, (a2.nx n2).sq⟩)⟩⟩⟩
theorem v_itZ {tt : Bool} {ur : UA} {ρ : RS} {Θ : RS → List G → Prop} (q : ur ρ fun ρ1 l => ∃ gs hs, l = (if tt = true then [.tup gs, .tup hs] else [.lst gs, .lst hs]) ∧ Θ ρ1 (zipG gs hs)) : uItZ tt ur ρ Θ := q
/-! deep == -/
mutual
def pd : G → Option PyData
  | .non => some .none
  | .bl b => some (.bool b)
  | .int i => some (.int i)
  | .str s => some (.str s)
  | .tup gs => (pdL gs).map .tuple
  | .lst gs => (pdL gs).map .list
  | _ => none
def pdL : List G → Option (List PyData)
  | [] => some []
  | g :: gs => (pd g).bind fun d => (pdL gs).map fun ds => d :: ds
end
section
variable {W : Wd} {S : AS} {H : Hp}
mutual
theorem dp_g : ∀ {g : G} {v : V} {d : PyData}, Rg W S H g v → pd g = some d → Dp W.K H v d
  | .non, v, d, h, e => by simp only [pd] at e; cases e; rw [show v = .non from h]; exact .non
  | .bl b, v, d, h, e => by simp only [pd] at e; cases e; rw [show v = .bl b from h]; exact .bl b
  | .int b, v, d, h, e => by simp only [pd] at e; cases e; rw [show v = .int b from h]; exact .int b
  | .str b, v, d, h, e => by simp only [pd] at e; cases e; rw [show v = .str b from h]; exact .str b
  | .tup gs, v, d, h, e => by
    simp only [pd] at e
    obtain ⟨p, vs, rfl, h1, h2⟩ := h
    cases k : pdL gs with
    | none => rw [k] at e; cases e
    | some ds => rw [k] at e; cases e; exact .tup h1.sq (dpL_g h2 k)
  | .lst gs, v, d, h, e => by
    simp only [pd] at e
    obtain ⟨p, vs, rfl, _, h1, h2⟩ := h
    cases k : pdL gs with
    | none => rw [k] at e; cases e
    | some ds => rw [k] at e; cases e; exact .lst (sl_of h1) (dpL_g h2 k)
  | .drw, v, d, h, e => by simp only [pd] at e; cases e
  | .raw _, v, d, h, e => by simp only [pd] at e; cases e
  | .dK _ _, v, d, h, e => by simp only [pd] at e; cases e
  | .dT _ _, v, d, h, e => by simp only [pd] at e; cases e
  | .dN _ _ _, v, d, h, e => by simp only [pd] at e; cases e
  | .obj _, v, d, h, e => by simp only [pd] at e; cases e
  | .ins _ _ _ _, v, d, h, e => by simp only [pd] at e; cases e
theorem dpL_g : ∀ {gs : List G} {vs : List V} {ds : List PyData}, RgL W S H gs vs → pdL gs = some ds → DpAll W.K H vs ds
  | [], vs, ds, h, e => by simp only [pdL] at e; cases e; cases h; exact .nil
  | g :: gs, vs, ds, h, e => by
    obtain ⟨v, ws, rfl, h1, h2⟩ := h
    simp only [pdL] at e
    cases k : pd g with
    | none => rw [k] at e; cases e
    | some d =>
      cases k2 : pdL gs with
      | none => rw [k, k2] at e; cases e
      | some es => rw [k, k2] at e; cases e; exact .cons (dp_g h1 k) (dpL_g h2 k2)
end
end
def u2EqD (neg : Bool) : G → G → (G → Prop) → Prop := fun x y Φ => ∃ d e, pd x = some d ∧ pd y = some e ∧ SeqAt.shaped d = true ∧ SeqAt.shaped e = true ∧ Φ (.bl (if neg = true then !PyData.eqv d e else PyData.eqv d e))
theorem go_eqD (hu : X.A.units + 64 < cLine) : GOp X (compareOp .Eq) (rEqD X.K) (u2EqD false) := ⟨op_eqD hu, fun W S H g1 g2 v1 v2 Φ Q hk _ r1 r2 ⟨d, e, e1, e2, s1, s2, q⟩ k => ⟨d, e, hk ▸ dp_g r1 e1, hk ▸ dp_g r2 e2, s1, s2, k _ _ H q (.refl _) rfl⟩⟩
theorem go_neD (hu : X.A.units + 64 < cLine) : GOp X (compareOp .NotEq) (rNeD X.K) (u2EqD true) := ⟨op_neD hu, fun W S H g1 g2 v1 v2 Φ Q hk _ r1 r2 ⟨d, e, e1, e2, s1, s2, q⟩ k => ⟨d, e, hk ▸ dp_g r1 e1, hk ▸ dp_g r2 e2, s1, s2, k _ _ H q (.refl _) rfl⟩⟩
end
end Zn
/-! the rules that name the module's part, with it given by name; chains, signs -/
namespace Zn
open PySem PySem.Spec PyProof.Rows L2 TL
section
variable {X : Cx} {e a b c tg : Expr} {t ta tb tc : TE} {u ua ub uc' : UE} {pos : Pos}
section
variable (K : PySem.W.Frag)
theorem k_cal {x : Str} {k : Nat} {uf} {es : List Expr} {tr : TA} {ur : UA} {p pos : Pos} (C : Cal X.prog X.w X.K X.mg X.base x k (spG K uf)) (hr : Room k X.A) (hg : Gl X x) (ha : GA X (e :: es) tr ur)
    (hdb : (x == ("__debug__" : Str)) = false := by decide) (he : starEach (e :: es) X.env = (false, eval e X.env) :: starEach es X.env := by rfl)
    (hpl : (backTo pos (starEach es X.env)).any (·.1) = false := by rfl) (hk : X.K = K := by rfl) : GE X (.Call (.Name x p) (e :: es) [] pos) (tCal (spG K uf) tr) (uCal uf ur) := by
  subst hk
  exact ge_cal C hr hg ha hdb he hpl
theorem k_cal0 {x : Str} {k : Nat} {uf} {p pos : Pos} (C : Cal X.prog X.w X.K X.mg X.base x k (spG K uf)) (hr : Room k X.A) (hg : Gl X x)
    (hdb : (x == ("__debug__" : Str)) = false := by decide) (hk : X.K = K := by rfl) : GE X (.Call (.Name x p) [] [] pos) (tCal (spG K uf) tNil) (uCal uf uNil) := by
  subst hk
  exact ge_cal0 C hr hg hdb
theorem k_ixL (ha : GE X a ta ua) (hb : GE X b tb ub) (hs : PlainIx b := by exact (fun _ _ => rfl)) (hk : X.K = K := by rfl) : GE X (.Subscript a b pos) (tOp (rIxL K) ta tb) (uOp u2IxL ua ub) := by
  subst hk
  exact ge_ix gi_list ha hb hs
theorem k_ixT (ha : GE X a ta ua) (hb : GE X b tb ub) (hs : PlainIx b := by exact (fun _ _ => rfl)) (hk : X.K = K := by rfl) : GE X (.Subscript a b pos) (tOp (rIxT K) ta tb) (uOp u2IxT ua ub) := by
  subst hk
  exact ge_ix gi_tup ha hb hs
theorem k_ixO (i : Nat) {x : Str} {pos' : Pos} (hb : GE X b tb ub) (hs : PlainIx b := by exact (fun _ _ => rfl)) (hN : X.N[i]? = some x := by rfl) (hv : Vis X.env.scope x := by first | exact Or.inl rfl | exact Or.inr (Or.inl rfl) | exact Or.inr (Or.inr rfl)) (hd : (x == ("__debug__" : Str)) = false := by decide) (hcd : (x == ("__classdict__" : Str)) = false := by decide)
    (hk : X.K = K := by rfl) : GE X (.Subscript (.Name x pos') b pos) (tOp (rIxL K) (tVar i) tb) (uIxO i ub) := by
  subst hk
  exact ge_ixO hN hv hb hs hd hcd
theorem k_slT {lo hi : Option Expr} {tl th : TO} {ul uh : UO} {p2 : Pos} (he : GE X e t u) (hl : GO X lo tl ul) (hu : GO X hi th uh) (hk : X.K = K := by rfl) : GE X (.Subscript e (.Slice lo hi none p2) pos) (tSl (rSlA K) t tl th) (uSlT u ul uh) := by
  subst hk
  exact ge_slT he hl hu
theorem k_slL {lo hi : Option Expr} {tl th : TO} {ul uh : UO} {p2 : Pos} (he : GE X e t u) (hl : GO X lo tl ul) (hu : GO X hi th uh) (hk : X.K = K := by rfl) : GN X (.Subscript e (.Slice lo hi none p2) pos) (tSl (rSlL K) t tl th) (uSlL u ul uh) := by
  subst hk
  exact gn_slL he hl hu
theorem k_catA (ha : GE X a ta ua) (hb : GE X b tb ub) (hk : X.K = K := by rfl) : GE X (.BinOp a .Add b pos) (tOp (rCatA K) ta tb) (uOp u2Cat ua ub) := by
  subst hk
  exact ge_op go_catA ha hb
theorem k_in (ha : GE X a ta ua) (hb : GB X b tb ub) (hm : behindInMarks .In b = false := by rfl) (hk : X.K = K := by rfl) : GE X (.Compare a [.In] [b] pos) (tOp (rIn K false) ta tb) (uOp (u2In false) ua ub) := by
  subst hk
  exact ge_cmpB go_in ha hb hm
theorem k_notIn (ha : GE X a ta ua) (hb : GB X b tb ub) (hm : behindInMarks .NotIn b = false := by rfl) (hk : X.K = K := by rfl) : GE X (.Compare a [.NotIn] [b] pos) (tOp (rIn K true) ta tb) (uOp (u2In true) ua ub) := by
  subst hk
  exact ge_cmpB go_notIn ha hb hm
theorem kt_in (ha : GE X a ta ua) (hb : GB X b tb ub) (hm : behindInMarks .In b = false := by rfl) (hk : X.K = K := by rfl) : GT X (.Compare a [.In] [b] pos) (tTest (tOp (rIn K false) ta tb)) (uTest (uOp (u2In false) ua ub)) := by
  subst hk
  exact gt_cmpB go_in ha hb hm
theorem kt_notIn (ha : GE X a ta ua) (hb : GB X b tb ub) (hm : behindInMarks .NotIn b = false := by rfl) (hk : X.K = K := by rfl) : GT X (.Compare a [.NotIn] [b] pos) (tTest (tOp (rIn K true) ta tb)) (uTest (uOp (u2In true) ua ub)) := by
  subst hk
  exact gt_cmpB go_notIn ha hb hm
theorem k_inS (ha : GE X a ta ua) (hb : GB X b tb ub) (hm : behindInMarks .In b = false := by rfl) (hk : X.K = K := by rfl) : GE X (.Compare a [.In] [b] pos) (tOp (rIn K false) ta tb) (uOp (u2InS false) ua ub) := by
  subst hk
  exact ge_cmpB go_inS ha hb hm
theorem k_notInS (ha : GE X a ta ua) (hb : GB X b tb ub) (hm : behindInMarks .NotIn b = false := by rfl) (hk : X.K = K := by rfl) : GE X (.Compare a [.NotIn] [b] pos) (tOp (rIn K true) ta tb) (uOp (u2InS true) ua ub) := by
  subst hk
  exact ge_cmpB go_notInS ha hb hm
theorem kt_inS (ha : GE X a ta ua) (hb : GB X b tb ub) (hm : behindInMarks .In b = false := by rfl) (hk : X.K = K := by rfl) : GT X (.Compare a [.In] [b] pos) (tTest (tOp (rIn K false) ta tb)) (uTest (uOp (u2InS false) ua ub)) := by
  subst hk
  exact gt_cmpB go_inS ha hb hm
theorem kt_notInS (ha : GE X a ta ua) (hb : GB X b tb ub) (hm : behindInMarks .NotIn b = false := by rfl) (hk : X.K = K := by rfl) : GT X (.Compare a [.NotIn] [b] pos) (tTest (tOp (rIn K true) ta tb)) (uTest (uOp (u2InS true) ua ub)) := by
  subst hk
  exact gt_cmpB go_notInS ha hb hm
theorem k_eqD (hu : X.A.units + 64 < cLine) (ha : GE X a ta ua) (hb : GE X b tb ub) (hm : behindInMarks .Eq b = false := by exact nomark _) (hk : X.K = K := by rfl) : GE X (.Compare a [.Eq] [b] pos) (tOp (rEqD K) ta tb) (uOp (u2EqD false) ua ub) := by
  subst hk
  exact ge_cmpR (go_eqD hu) ha hb hm
theorem k_neD (hu : X.A.units + 64 < cLine) (ha : GE X a ta ua) (hb : GE X b tb ub) (hm : behindInMarks .NotEq b = false := by exact nomark _) (hk : X.K = K := by rfl) : GE X (.Compare a [.NotEq] [b] pos) (tOp (rNeD K) ta tb) (uOp (u2EqD true) ua ub) := by
  subst hk
  exact ge_cmpR (go_neD hu) ha hb hm
theorem kt_eqD (hu : X.A.units + 64 < cLine) (ha : GE X a ta ua) (hb : GE X b tb ub) (hm : behindInMarks .Eq b = false := by exact nomark _) (hk : X.K = K := by rfl) : GT X (.Compare a [.Eq] [b] pos) (tTest (tOp (rEqD K) ta tb)) (uTest (uOp (u2EqD false) ua ub)) := by
  subst hk
  exact gt_cmpR (go_eqD hu) ha hb hm
theorem kt_neD (hu : X.A.units + 64 < cLine) (ha : GE X a ta ua) (hb : GE X b tb ub) (hm : behindInMarks .NotEq b = false := by exact nomark _) (hk : X.K = K := by rfl) : GT X (.Compare a [.NotEq] [b] pos) (tTest (tOp (rNeD K) ta tb)) (uTest (uOp (u2EqD true) ua ub)) := by
  subst hk
  exact gt_cmpR (go_neD hu) ha hb hm
theorem k_len {p : Pos} (hg : Gl X "len") (hm : X.mg "len" = none) (ha : GB X a ta ua) (he : starEach [a] X.env = (false, eval a X.env) :: starEach [] X.env := by rfl) (hk : X.K = K := by rfl) : GE X (.Call (.Name "len" p) [a] [] pos) (tCB (rLenS K) (tCons ta tNil)) (u1 ucLen ua) := by
  subst hk
  exact ge_call1 gc_len hg hm (by decide +kernel) ha (by decide) (by decide) he
theorem k_tuple {p : Pos} (hg : Gl X "tuple") (hm : X.mg "tuple" = none) (ha : GB X a ta ua) (he : starEach [a] X.env = (false, eval a X.env) :: starEach [] X.env := by rfl) (hk : X.K = K := by rfl) : GE X (.Call (.Name "tuple" p) [a] [] pos) (tCB (rTupOf K) (tCons ta tNil)) (u1 ucTup ua) := by
  subst hk
  exact ge_callTy1 gc_tup hg hm (by decide +kernel) ha (by decide) (by decide) he
theorem k_list {p : Pos} (hg : Gl X "list") (hm : X.mg "list" = none) (ha : GB X a ta ua) (he : starEach [a] X.env = (false, eval a X.env) :: starEach [] X.env := by rfl) (hk : X.K = K := by rfl) : GN X (.Call (.Name "list" p) [a] [] pos) (tCB (rLstOf K) (tCons ta tNil)) (u1 ucLst ua) := by
  subst hk
  exact gn_callTy1 gc_lst hg hm (by decide +kernel) ha (by decide) (by decide) he
theorem k_sorted {p : Pos} (hg : Gl X "sorted") (hm : X.mg "sorted" = none) (ha : GB X a ta ua) (he : starEach [a] X.env = (false, eval a X.env) :: starEach [] X.env := by rfl) (hk : X.K = K := by rfl) : GN X (.Call (.Name "sorted" p) [a] [] pos) (tCB (rSortedI K) (tCons ta tNil)) (u1 ucSort ua) := by
  subst hk
  exact gn_call1 gc_sort hg hm (by decide +kernel) ha (by decide) (by decide) he
theorem k_sum {p : Pos} (hc : X.calm = true) (hg : Gl X "sum") (hm : X.mg "sum" = none) (ha : GB X a ta ua) (he : starEach [a] X.env = (false, eval a X.env) :: starEach [] X.env := by rfl) (hk : X.K = K := by rfl) : GE X (.Call (.Name "sum" p) [a] [] pos) (tCB (rSum K) (tCons ta tNil)) (u1 ucSum ua) := by
  subst hk
  exact ge_call1 (gc_sum hc) hg hm (by decide +kernel) ha (by decide) (by decide) he
theorem k_all {p : Pos} (hc : X.calm = true) (hg : Gl X "all") (hm : X.mg "all" = none) (ha : GB X a ta ua) (he : starEach [a] X.env = (false, eval a X.env) :: starEach [] X.env := by rfl) (hk : X.K = K := by rfl) : GE X (.Call (.Name "all" p) [a] [] pos) (tCB (rAll K) (tCons ta tNil)) (u1 ucAll ua) := by
  subst hk
  exact ge_call1 (gc_all hc) hg hm (by decide +kernel) ha (by decide) (by decide) he
theorem k_any {p : Pos} (hc : X.calm = true) (hg : Gl X "any") (hm : X.mg "any" = none) (ha : GB X a ta ua) (he : starEach [a] X.env = (false, eval a X.env) :: starEach [] X.env := by rfl) (hk : X.K = K := by rfl) : GE X (.Call (.Name "any" p) [a] [] pos) (tCB (rAny K) (tCons ta tNil)) (u1 ucAny ua) := by
  subst hk
  exact ge_call1 (gc_any hc) hg hm (by decide +kernel) ha (by decide) (by decide) he
theorem k_max {p : Pos} (hc : X.calm = true) (hg : Gl X "max") (hm : X.mg "max" = none) (ha : GB X a ta ua) (he : starEach [a] X.env = (false, eval a X.env) :: starEach [] X.env := by rfl) (hk : X.K = K := by rfl) : GE X (.Call (.Name "max" p) [a] [] pos) (tCB (rMax K) (tCons ta tNil)) (u1 ucMax ua) := by
  subst hk
  exact ge_call1 (gc_max hc) hg hm (by decide +kernel) ha (by decide) (by decide) he
theorem k_min {p : Pos} (hc : X.calm = true) (hg : Gl X "min") (hm : X.mg "min" = none) (ha : GB X a ta ua) (he : starEach [a] X.env = (false, eval a X.env) :: starEach [] X.env := by rfl) (hk : X.K = K := by rfl) : GE X (.Call (.Name "min" p) [a] [] pos) (tCB (rMin K) (tCons ta tNil)) (u1 ucMin ua) := by
  subst hk
  exact ge_call1 (gc_min hc) hg hm (by decide +kernel) ha (by decide) (by decide) he
theorem k_isi {T : String} {x : Str} {p p2 : Pos} (hg : Gl X "isinstance") (hm : X.mg "isinstance" = none) (ha : GE X a ta ua) (hc : PE X (.Name x p2) (tC (.ty T)))
    (he : starEach [a, .Name x p2] X.env = (false, eval a X.env) :: starEach [.Name x p2] X.env := by rfl) (he2 : starEach [.Name x p2] X.env = (false, eval (.Name x p2) X.env) :: starEach [] X.env := by rfl) (hpl : (backTo pos (starEach [.Name x p2] X.env)).any (·.1) = false := by rfl) (hk : X.K = K := by rfl) :
    GE X (.Call (.Name "isinstance" p) [a, .Name x p2] [] pos) (tCB (rIsi K) (tCons ta (tCons (tC (.ty T)) tNil))) (uIsi T ua) := by
  subst hk
  exact ge_isi hg hm ha hc he he2 hpl
theorem k_app (i : Nat) {x : Str} {p1 p2 : Pos} (h : GE X e t u) (hN : X.N[i]? = some x := by rfl) (hv : Vis X.env.scope x := by first | exact Or.inl rfl | exact Or.inr (Or.inl rfl) | exact Or.inr (Or.inr rfl)) (hd : (x == ("__debug__" : Str)) = false := by decide) (hcd : (x == ("__classdict__" : Str)) = false := by decide)
    (hbase : attributeBase (.Name x p1) "append" X.env (eval (.Name x p1) X.env) = eval (.Name x p1) X.env := by rfl)
    (hfew : ((backTo pos (starEach [e] X.env)).all (fun x => !x.1) && (backToKw pos (keywordEach [] X.env)).all (fun x => x.1.isSome) && decide (([e] : List Expr).length + ([] : List Keyword).length + (if ([] : List Keyword).isEmpty then 0 else 1) < 30)) = true := by rfl)
    (hline : (p2.endLine == pos.line) = true := by rfl) (hs : starEach [e] X.env = (false, eval e X.env) :: starEach [] X.env := by rfl) (hk : X.K = K := by rfl) :
    GE X (.Call (.Attribute (.Name x p1) "append" p2) [e] [] pos) (tBM K "list" rAppend (tVar i) (tCons t tNil)) (uApp i u) := by
  subst hk
  exact ge_app i h hN hv hd hcd hbase hfew hline hs
theorem k_ext (i : Nat) {x : Str} {p1 p2 : Pos} (h : GE X e t u) (hN : X.N[i]? = some x := by rfl) (hv : Vis X.env.scope x := by first | exact Or.inl rfl | exact Or.inr (Or.inl rfl) | exact Or.inr (Or.inr rfl)) (hd : (x == ("__debug__" : Str)) = false := by decide) (hcd : (x == ("__classdict__" : Str)) = false := by decide)
    (hbase : attributeBase (.Name x p1) "extend" X.env (eval (.Name x p1) X.env) = eval (.Name x p1) X.env := by rfl)
    (hfew : ((backTo pos (starEach [e] X.env)).all (fun x => !x.1) && (backToKw pos (keywordEach [] X.env)).all (fun x => x.1.isSome) && decide (([e] : List Expr).length + ([] : List Keyword).length + (if ([] : List Keyword).isEmpty then 0 else 1) < 30)) = true := by rfl)
    (hline : (p2.endLine == pos.line) = true := by rfl) (hs : starEach [e] X.env = (false, eval e X.env) :: starEach [] X.env := by rfl) (hk : X.K = K := by rfl) :
    GE X (.Call (.Attribute (.Name x p1) "extend" p2) [e] [] pos) (tBM K "list" rExtend (tVar i) (tCons t tNil)) (uExt i u) := by
  subst hk
  exact ge_ext i h hN hv hd hcd hbase hfew hline hs
theorem k_pop (i : Nat) {x : Str} {p1 p2 : Pos} (hN : X.N[i]? = some x := by rfl) (hv : Vis X.env.scope x := by first | exact Or.inl rfl | exact Or.inr (Or.inl rfl) | exact Or.inr (Or.inr rfl)) (hd : (x == ("__debug__" : Str)) = false := by decide) (hcd : (x == ("__classdict__" : Str)) = false := by decide)
    (hbase : attributeBase (.Name x p1) "pop" X.env (eval (.Name x p1) X.env) = eval (.Name x p1) X.env := by rfl) (hline : (p2.endLine == pos.line) = true := by rfl) (hk : X.K = K := by rfl) :
    GE X (.Call (.Attribute (.Name x p1) "pop" p2) [] [] pos) (tBM0 K "list" rPop (tVar i)) (uPop i) := by
  subst hk
  exact ge_pop i hN hv hd hcd hbase hline
theorem k_popA (i : Nat) {x : Str} {p1 p2 : Pos} (h : GE X e t u) (hN : X.N[i]? = some x := by rfl) (hv : Vis X.env.scope x := by first | exact Or.inl rfl | exact Or.inr (Or.inl rfl) | exact Or.inr (Or.inr rfl)) (hd : (x == ("__debug__" : Str)) = false := by decide) (hcd : (x == ("__classdict__" : Str)) = false := by decide)
    (hbase : attributeBase (.Name x p1) "pop" X.env (eval (.Name x p1) X.env) = eval (.Name x p1) X.env := by rfl)
    (hfew : ((backTo pos (starEach [e] X.env)).all (fun x => !x.1) && (backToKw pos (keywordEach [] X.env)).all (fun x => x.1.isSome) && decide (([e] : List Expr).length + ([] : List Keyword).length + (if ([] : List Keyword).isEmpty then 0 else 1) < 30)) = true := by rfl)
    (hline : (p2.endLine == pos.line) = true := by rfl) (hs : starEach [e] X.env = (false, eval e X.env) :: starEach [] X.env := by rfl) (hk : X.K = K := by rfl) :
    GE X (.Call (.Attribute (.Name x p1) "pop" p2) [e] [] pos) (tBM K "list" rPopAt (tVar i) (tCons t tNil)) (uPopA i u) := by
  subst hk
  exact ge_popA i h hN hv hd hcd hbase hfew hline hs
theorem k_star {es : List Expr} {p : Pos} {tr : TA} {ur : UA} (he : GE X e t u) (hr : GA X es tr ur) (hs : starEach (.Starred e p :: es) X.env = (true, eval e X.env) :: starEach es X.env := by rfl) (hk : X.K = K := by rfl) : GA X (.Starred e p :: es) (StX.tStar K t tr) (uStar u ur) := by
  subst hk
  exact ga_star he hr hs
theorem k_truth (ha : GB X a ta ua) (he : ∀ whole, isTrue a X.env whole = (do let v ← whole; standAt a.pos; holding [v] (truthy v)) := by intro _; rfl) (hk : X.K = K := by rfl) : GT X a (fun σ H Q => ta σ H fun x H' => ∃ k, TruV K x H' k ∧ Q k H') (uTru ua) := by
  subst hk
  exact gt_truth ha he
theorem k_gtup {is : List Nat} {es : List Expr} {k : Nat} {tgs : TGs} {ugs : UGs} {n : Nat} (hc : X.calm = true) (h : GGs X is es tgs ugs)
    (hn : (assignEach es X.env).length = n := by rfl) (hst : (assignEach es X.env).findIdx? (·.1) = none := by rfl) (hk : X.K = K := by rfl) : GG X is (.Tuple es k pos) (gTup K n tgs) (vTup n ugs) := by
  subst hk
  exact gg_tup hc h hn hst
theorem k_itL (ha : GE X a ta ua) (hk : X.K = K := by rfl) : GI X tg a (iList K ta) (uIt ua) := by
  subst hk
  exact gi_lst ha
theorem k_itT (ha : GE X a ta ua) (hk : X.K = K := by rfl) : GI X tg a (iTup K ta) (uItT ua) := by
  subst hk
  exact gi_tp ha
theorem k_itR {p pos : Pos} (hg : Gl X "reversed") (hm : X.mg "reversed" = none) (ha : GE X a ta ua) (hs : starEach [a] X.env = [(false, eval a X.env)] := by rfl) (hk : X.K = K := by rfl) : GI X tg (.Call (.Name "reversed" p) [a] [] pos) (iRev K (tCons ta tNil)) (uItR ua) := by
  subst hk
  exact gi_rev hg hm ha hs
theorem k_itE {elts : List Expr} {kk : Nat} {p pos tpos : Pos} (hg : Gl X "enumerate") (hm : X.mg "enumerate" = none) (ha : GE X a ta ua) (hs : starEach [a] X.env = [(false, eval a X.env)] := by rfl) (hk : X.K = K := by rfl) : GI X (.Tuple elts kk tpos) (.Call (.Name "enumerate" p) [a] [] pos) (iEnum K (tCons ta tNil)) (uItE ua) := by
  subst hk
  exact gi_enum hg hm ha hs
theorem k_itZL {elts : List Expr} {kk : Nat} {p pos tpos : Pos} {tr : TA} {ur : UA} (hg : Gl X "zip") (hm : X.mg "zip" = none) (ha : GA X [a, b] tr ur) (hs : starEach [a, b] X.env = (false, eval a X.env) :: starEach [b] X.env := by rfl) (hpl : (backTo pos (starEach [b] X.env)).any (·.1) = false := by rfl) (hk : X.K = K := by rfl) :
    GI X (.Tuple elts kk tpos) (.Call (.Name "zip" p) [a, b] [] pos) (iZip K tr) (uItZ false ur) := by
  subst hk
  exact gi_zipL hg hm ha hs hpl
theorem k_itZT {elts : List Expr} {kk : Nat} {p pos tpos : Pos} {tr : TA} {ur : UA} (hg : Gl X "zip") (hm : X.mg "zip" = none) (ha : GA X [a, b] tr ur) (hs : starEach [a, b] X.env = (false, eval a X.env) :: starEach [b] X.env := by rfl) (hpl : (backTo pos (starEach [b] X.env)).any (·.1) = false := by rfl) (hk : X.K = K := by rfl) :
    GI X (.Tuple elts kk tpos) (.Call (.Name "zip" p) [a, b] [] pos) (RZ.iZipA K tr) (uItZ true ur) := by
  subst hk
  exact gi_zipT hg hm ha hs hpl
end
/-- a op b op' c -/
def uChain (ur ur' : G → G → (G → Prop) → Prop) (ua ub uc : UE) : UE := fun ρ Φ => ua ρ fun ρ1 x => ub ρ1 fun ρ2 y => ur x y fun z => ∃ k, z = .bl k ∧ (if k = true then uc ρ2 fun ρ3 w => ur' y w fun z' => Φ ρ3 z' else Φ ρ2 (.bl false))
theorem le_chain {F : Fr} {r r' : R2} {ur ur'} (h : Lr2 F.K r ur) (h' : Lr2 F.K r' ur') (ha : LE F ta ua) (hb : LE F tb ub) (hc : LE F tc uc') : LE F (tChain r r' ta tb tc) (uChain ur ur' ua ub uc') := fun ρ Φ σ H S Q q R k => by
  refine ha ρ _ σ H S _ q R fun ρ1 g1 v1 H1 S1 q1 n1 R1 r1 => ?_
  refine hb ρ1 _ σ H1 S1 _ q1 R1 fun ρ2 g2 v2 H2 S2 q2 n2 R2 r2 => ?_
  refine h F.toWd S2 H2 g1 g2 v1 v2 _ _ rfl R2.dom (r1.nx n2) r2 q2 fun g v H' ⟨b, e, q3⟩ s3 r3 => ?_
  subst e
  obtain ⟨R3, n3⟩ := R2.same s3
  refine ⟨b, r3, ?_⟩
  cases b with
  | false => exact k ρ2 _ _ H' S2 q3 ((n1.trans n2).trans n3) R3 rfl
  | true =>
    refine hc ρ2 _ σ H' S2 _ q3 R3 fun ρ4 g4 v4 H4 S4 q4 n4 R4 r4 => ?_
    refine h' F.toWd S4 H4 g2 g4 v2 v4 _ _ rfl R4.dom ((r2.nx n3).nx n4) r4 q4 fun g5 v5 H5 q5 s5 r5 => ?_
    obtain ⟨R5, n5⟩ := R4.same s5
    exact k ρ4 g5 v5 H5 S4 q5 ((((n1.trans n2).trans n3).trans n4).trans n5) R5 r5
theorem ge_chain {op op' : CmpOp} {r r' : R2} {ur ur'} (ho : GOp X (compareOp op) r ur) (ho' : GOp X (compareOp op') r' ur') (ha : GE X a ta ua) (hb : GE X b tb ub) (hc : GE X c tc uc')
    (hm : lastMarks [op, op'] [b, c] = false := by with_unfolding_all rfl) : GE X (.Compare a [op, op'] [b, c] pos) (tChain r r' ta tb tc) (uChain ur ur' ua ub uc') := ⟨pe_chain ho.ho ho'.ho ha.pe hb.pe hc.pe hm, fun F h => le_chain (h ▸ ho.le) (h ▸ ho'.le) (ha.le F h) (hb.le F h) (hc.le F h)⟩
theorem gt_chain {op op' : CmpOp} {r r' : R2} {ur ur'} (ho : GOp X (compareOp op) r ur) (ho' : GOp X (compareOp op') r' ur') (ha : GE X a ta ua) (hb : GE X b tb ub) (hc : GE X c tc uc')
    (hm : lastMarks [op, op'] [b, c] = false := by with_unfolding_all rfl) : GT X (.Compare a [op, op'] [b, c] pos) (tTest (tChain r r' ta tb tc)) (uTest (uChain ur ur' ua ub uc')) := ⟨pt_chain ho.ho ho'.ho ha.pe hb.pe hc.pe hm, fun F h => le_test (le_chain (h ▸ ho.le) (h ▸ ho'.le) (ha.le F h) (hb.le F h) (hc.le F h))⟩
theorem v_chain {ur ur'} {ρ : RS} {Φ : RS → G → Prop} (q : ua ρ fun ρ1 x => ub ρ1 fun ρ2 y => ur x y fun z => ∃ k, z = .bl k ∧ (if k = true then uc' ρ2 fun ρ3 w => ur' y w fun z' => Φ ρ3 z' else Φ ρ2 (.bl false))) : uChain ur ur' ua ub uc' ρ Φ := q
/-- -x, ~x -/
def uUn (f : Int → Int) (ua : UE) : UE := fun ρ Φ => ua ρ fun ρ1 g => ∃ i, g = .int i ∧ Φ ρ1 (.int (f i))
theorem ge_un {op : UnaryOp} {f : Int → Int} (ho : UnR X (unaryOp op) (rU fun i => .int (f i))) (ha : GE X a ta ua) : GE X (.UnaryOp op a pos) (tUn (rU fun i => .int (f i)) ta) (uUn f ua) :=
  ⟨pe_un ho ha.pe, fun F h ρ Φ σ H S Q q R j => ha.le F h ρ _ σ H S _ q R fun ρ1 g v H1 S1 ⟨i, e, q1⟩ n1 R1 r1 => by
    subst e
    exact ⟨i, r1, j ρ1 _ _ H1 S1 q1 n1 R1 rfl⟩⟩
theorem v_un {f : Int → Int} {ρ : RS} {Φ : RS → G → Prop} (q : ua ρ fun ρ1 g => ∃ i, g = .int i ∧ Φ ρ1 (.int (f i))) : uUn f ua ρ Φ := q
end
end Zn
/-! two targets; new things by cases; operators in place -/
namespace Zn
open PySem PySem.Spec PyProof.Rows L2 TL
section
variable {X : Cx} {e a b c tg : Expr} {t ta tb tc : TE} {u ua ub : UE} {pos : Pos}
theorem ip_or : PIp X .BitOr (ipI Builtin.bitOr) := iop_or
theorem ip_and : PIp X .BitAnd (ipI Builtin.bitAnd) := iop_and
theorem gn_ifExp {tA : TT} {uA : UT} (hc : GT X c tA uA) (ha : GN X a ta ua) (hb : GN X b tb ub) : GN X (.IfExp c a b pos) (tIf tA ta tb) (uIf uA ua ub) :=
  ⟨pe_ifExp hc.pe ha.pe hb.pe, fun F h ρ Φ σ H S Q q R k => hc.le F h ρ _ σ H S _ q R fun ρ1 c H1 S1 q1 n1 R1 => by
    cases c with
    | true => exact ha.le F h ρ1 Φ σ H1 S1 Q q1 R1 fun ρ2 c p o H2 S2 q2 n2 R2 => k ρ2 c p o H2 S2 q2 (n1.trans n2) R2
    | false => exact hb.le F h ρ1 Φ σ H1 S1 Q q1 R1 fun ρ2 c p o H2 S2 q2 n2 R2 => k ρ2 c p o H2 S2 q2 (n1.trans n2) R2⟩
def uPar (i j : Nat) (ur : UA) : US := fun B ρ => ur ρ fun ρ1 gs => ∃ g h, gs = [g, h] ∧ B.nx ((ρ1.set i (.fz g)).set j (.fz h))
theorem gs_par {i j : Nat} {x y : Str} {ta : TA} {ua : UA} {px py pt : Pos} {kt k2 pt2} (hc : X.calm = true) (hN : X.N.Nodup) (hi : X.N[i]? = some x) (hj : X.N[j]? = some y) (hij : i ≠ j)
    (hx : X.env.scope.names.lookup x = some .local) (hy : X.env.scope.names.lookup y = some .local) (ha : GA X [a, b] ta ua)
    (hw : swappedStores [.Tuple [.Name x px, .Name y py] kt pt] (.Tuple [a, b] k2 pt2) X.env = pure (some [x, y]))
    (hs : swapsWithSole [.Tuple [.Name x px, .Name y py] kt pt] (.Tuple [a, b] k2 pt2) pos.line X.env = pure false := by rfl) :
    GS X (.Assign [.Tuple [.Name x px, .Name y py] kt pt] (.Tuple [a, b] k2 pt2) pos) (tPar i j ta) (uPar i j ua) :=
  ⟨ps_par hc hN hi hj hij hx hy ha.pe hw hs, fun F k ρ B σ H S E q R m => ha.le F k ρ _ σ H S _ q R fun ρ1 gs vs H1 S1 ⟨g, h, e, q1⟩ n1 R1 r1 => by
    subst e
    obtain ⟨v1, w1, rfl, r2, r1⟩ := r1
    obtain ⟨v2, w2, rfl, r3, r1⟩ := r1
    cases r1
    exact ⟨v1, v2, rfl, m.nx _ _ H1 S1 q1 n1 ((R1.setF r2).setF r3)⟩⟩
def uParO (i j : Nat) (ua ub : UE) : US := fun B ρ => ua ρ fun ρ1 g => ub ρ1 fun ρ2 h => B.nx ((ρ2.set i (.ow true g)).set j (.ow true h))
theorem gs_parO {i j : Nat} {x y : Str} {px py pt : Pos} {kt k2 pt2} (hc : X.calm = true) (hN : X.N.Nodup) (hi : X.N[i]? = some x) (hj : X.N[j]? = some y) (hij : i ≠ j)
    (hx : X.env.scope.names.lookup x = some .local) (hy : X.env.scope.names.lookup y = some .local) (ha : GN X a ta ua) (hb : GN X b tb ub)
    (hw : swappedStores [.Tuple [.Name x px, .Name y py] kt pt] (.Tuple [a, b] k2 pt2) X.env = pure (some [x, y]))
    (h1 : starEach [a, b] X.env = (false, eval a X.env) :: starEach [b] X.env := by rfl) (h2 : starEach [b] X.env = (false, eval b X.env) :: starEach [] X.env := by rfl)
    (hs : swapsWithSole [.Tuple [.Name x px, .Name y py] kt pt] (.Tuple [a, b] k2 pt2) pos.line X.env = pure false := by rfl) :
    GS X (.Assign [.Tuple [.Name x px, .Name y py] kt pt] (.Tuple [a, b] k2 pt2) pos) (tPar i j (tCons ta (tCons tb tNil))) (uParO i j ua ub) :=
  ⟨ps_par hc hN hi hj hij hx hy (pa_cons ha.pe (pa_cons hb.pe pa_nil h2) h1) hw hs, fun F k ρ B σ H S E q R m => ha.le F k ρ _ σ H S _ q R fun ρ1 g p o H1 S1 q1 n1 R1 s1 p1 r1 f1 =>
    hb.le (F.pnw (p, o)) k ρ1 _ σ H1 S1 _ q1 (R1.addPin p1 s1 f1) fun ρ2 h p' o' H2 S2 q2 n2 R2 s2 p2 r2 f2 => by
      obtain ⟨z1, z2, z3, z4, z5⟩ := R2.pin (p, o) List.mem_cons_self
      have R3 := R2.unpin.setN (i := i) z2 z1 (r1.nx n2) ⟨z5, z4, f1.2.2⟩
      have npp : p ≠ p' := f2.2.2 (p, o) List.mem_cons_self
      refine ⟨_, _, rfl, m.nx _ _ H2 S2 q2 (n1.trans n2) (R3.setN (i := j) s2 p2 r2 ⟨f2.1, fun n f g' hn => ?_, fun q hq => f2.2.2 q (List.mem_cons_of_mem _ hq)⟩)⟩
      rcases set_at hn with ⟨e, hn⟩ | ⟨e, _, l⟩
      · rw [List.getElem?_set, if_neg e]
        exact f2.2.1 n f g' hn
      · subst e
        rw [List.getElem?_set, if_pos rfl, if_pos (by rw [R2.len]; exact l)]
        intro z
        cases z
        exact npp rfl⟩
theorem v_par {i j : Nat} {ur : UA} {B : Bs} {ρ : RS} (q : ur ρ fun ρ1 gs => ∃ g h, gs = [g, h] ∧ B.nx ((ρ1.set i (.fz g)).set j (.fz h))) : uPar i j ur B ρ := q
theorem v_parO {i j : Nat} {B : Bs} {ρ : RS} (q : ua ρ fun ρ1 g => ub ρ1 fun ρ2 h => B.nx ((ρ2.set i (.ow true g)).set j (.ow true h))) : uParO i j ua ub B ρ := q
theorem v_gh {g h : G} {R : G → G → Prop} (q : R g h) : ∃ g' h', [g, h] = [g', h'] ∧ R g' h' := ⟨g, h, rfl, q⟩
/-- a constant of the module: a tuple -/
theorem k_glob {x : Str} {v : V} {w : Value} {gl : G} (hm : X.mg x = some w) (r : RelV v w) (hr : ∀ W : Wd, W.K = X.K → ∀ S H, Rg W S H gl v) (hg : Gl X x := by rfl) (hd : (x == ("__debug__" : Str)) = false := by decide) : GE X (.Name x pos) (tC v) (uC gl) :=
  ⟨pe_glob hg hm r hd, fun F k ρ Φ σ H S Q q R j => j ρ gl v H S q (.refl _ _) R (hr F.toWd k S H)⟩
end
end Zn
/-! a call that only looks at one's own things and hands back what holds no list -/
namespace Zn
open PySem PySem.Spec PyProof.Rows L2 TL
theorem v_bd {x y : Int} {R : Prop} (h : -(2 ^ 62) ≤ x ∧ x < 2 ^ 62 ∧ -(2 ^ 62) ≤ y ∧ y < 2 ^ 62) (q : R) : (-(2 ^ 62) ≤ x ∧ x < 2 ^ 62 ∧ -(2 ^ 62) ≤ y ∧ y < 2 ^ 62) ∧ R := ⟨h, q⟩
theorem dec_cast {x y : Nat} : decide ((x : Int) = (y : Int)) = decide (x = y) := by
  rw [decide_eq_decide]
  omega
theorem v_sq {g : G} {gs : List G} {R : List G → Prop} (e : sq g = some gs) (q : R gs) : ∃ gs, sq g = some gs ∧ R gs := ⟨gs, e, q⟩
theorem v_eqD {x y : G} {d e : PyData} {Q : G → Prop} (e1 : pd x = some d) (e2 : pd y = some e) (s1 : SeqAt.shaped d = true) (s2 : SeqAt.shaped e = true) (q : Q (.bl (PyData.eqv d e))) : u2EqD false x y Q := ⟨d, e, e1, e2, s1, s2, q⟩
theorem v_neD {x y : G} {d e : PyData} {Q : G → Prop} (e1 : pd x = some d) (e2 : pd y = some e) (s1 : SeqAt.shaped d = true) (s2 : SeqAt.shaped e = true) (q : Q (.bl (!PyData.eqv d e))) : u2EqD true x y Q := ⟨d, e, e1, e2, s1, s2, q⟩
theorem v_iteNF {A C : Prop} (q : A) : if (!false) = true then A else C := q
theorem v_iteNT {A C : Prop} (q : C) : if (!true) = true then A else C := q
theorem v_62 {j : Int} {R : Prop} (h1 : -(2 ^ 62) ≤ j) (h2 : j < 2 ^ 62) (q : R) : -(2 ^ 62) ≤ j ∧ j < 2 ^ 62 ∧ R := ⟨h1, h2, q⟩
theorem v_isiT {T : String} {g : G} {A : String} {R : Bool → Prop} (e1 : tyG g = some A) (e2 : kitB A T = some true) (q : R true) : ∃ A b, tyG g = some A ∧ kitB A T = some b ∧ R b := ⟨A, true, e1, e2, q⟩
theorem v_isiF {T : String} {g : G} {A : String} {R : Bool → Prop} (e1 : tyG g = some A) (e2 : kitB A T = some false) (q : R false) : ∃ A b, tyG g = some A ∧ kitB A T = some b ∧ R b := ⟨A, false, e1, e2, q⟩
theorem v_mx {gs : List G} {R : List G → Prop} (l : gs.length ≤ 100000) (q : R gs) : gs.length ≤ 100000 ∧ R gs := ⟨l, q⟩
theorem v_iteNN {b : Bool} {A C : Prop} (q : if b = true then A else C) : if (!!b) = true then A else C := by
  cases b <;> exact q
theorem v_iteE {α : Type} {a : α} {l : List α} {A C : Prop} (q : C) : if (a :: l).isEmpty = true then A else C := q
theorem v_iteE0 {α : Type} {A C : Prop} (q : A) : if ([] : List α).isEmpty = true then A else C := q
theorem v_iteNE {α : Type} {a : α} {l : List α} {A C : Prop} (q : A) : if (!(a :: l).isEmpty) = true then A else C := q
theorem v_iteNE0 {α : Type} {A C : Prop} (q : C) : if (!([] : List α).isEmpty) = true then A else C := q
/-- data that == compares, at most n deep -/
def okG : Nat → G → Bool
  | _, .non => true
  | _, .bl _ => true
  | _, .int _ => true
  | _, .str s => okB s
  | n + 1, .tup gs => gs.all (okG n)
  | n + 1, .lst gs => gs.all (okG n)
  | _, _ => false
theorem okG_pd : ∀ (n : Nat) (g : G), okG n g = true → ∃ d, pd g = some d ∧ d.canLay0 = true ∧ d.depth ≤ n := fun n => by
  have at_ : ∀ (n : Nat) (g : G), (g = .non ∨ (∃ b, g = .bl b) ∨ (∃ i, g = .int i) ∨ ∃ s, g = .str s ∧ okB s = true) → ∃ d, pd g = some d ∧ d.canLay0 = true ∧ d.depth ≤ n := fun n g h => by
    rcases h with rfl | ⟨b, rfl⟩ | ⟨i, rfl⟩ | ⟨s, rfl, hs⟩
    · exact ⟨.none, by simp [pd], rfl, by simp [PyData.depth]⟩
    · exact ⟨.bool b, by simp [pd], rfl, by simp [PyData.depth]⟩
    · exact ⟨.int i, by simp [pd], rfl, by simp [PyData.depth]⟩
    · exact ⟨.str s, by simp [pd], by simp [PyData.canLay0, strOk_of hs], by simp [PyData.depth]⟩
  induction n with
  | zero =>
    intro g h
    refine at_ 0 g ?_
    cases g <;> simp [okG] at h ⊢
    exact h
  | succ n ih =>
    have all : ∀ gs : List G, gs.all (okG n) = true → ∃ ds, pdL gs = some ds ∧ PyData.canLayAll0 ds = true ∧ PyData.depthAll ds ≤ n := fun gs => by
      induction gs with
      | nil => intro _; exact ⟨[], by simp [pdL], by simp [PyData.canLayAll0], by simp [PyData.depthAll]⟩
      | cons g gs ihl =>
        intro h
        rw [List.all_cons, Bool.and_eq_true] at h
        obtain ⟨d, h1, h2, h3⟩ := ih g h.1
        obtain ⟨ds, k1, k2, k3⟩ := ihl h.2
        exact ⟨d :: ds, by simp [pdL, h1, k1], by simp [PyData.canLayAll0, h2, k2], by simp only [PyData.depthAll]; omega⟩
    intro g h
    cases g with
    | tup gs =>
      obtain ⟨ds, k1, k2, k3⟩ := all gs h
      exact ⟨.tuple ds, by simp [pd, k1], by simp [PyData.canLay0, k2], by simp only [PyData.depth]; omega⟩
    | lst gs =>
      obtain ⟨ds, k1, k2, k3⟩ := all gs h
      exact ⟨.list ds, by simp [pd, k1], by simp [PyData.canLay0, k2], by simp only [PyData.depth]; omega⟩
    | non => exact at_ _ _ (.inl rfl)
    | bl b => exact at_ _ _ (.inr (.inl ⟨b, rfl⟩))
    | int b => exact at_ _ _ (.inr (.inr (.inl ⟨b, rfl⟩)))
    | str b => exact at_ _ _ (.inr (.inr (.inr ⟨b, rfl, h⟩)))
    | _ => simp [okG] at h
theorem okG_sh {g : G} {n : Nat} (h : okG n g = true) (hn : n ≤ 64) : ∃ d, pd g = some d ∧ SeqAt.shaped d = true ∧ PyData.eqv d d = true := by
  obtain ⟨d, h1, h2, h3⟩ := okG_pd n g h
  refine ⟨d, h1, ?_, SeqAt.eqv_refl _ h2⟩
  unfold SeqAt.shaped
  rw [h2, decide_eq_true (by omega)]
  rfl
theorem v_eqS {x : G} (n : Nat) {Q : G → Prop} (h : okG n x = true) (hn : n ≤ 64) (q : Q (.bl true)) : u2EqD false x x Q := by
  obtain ⟨d, h1, h2, h3⟩ := okG_sh h hn
  exact v_eqD h1 h1 h2 h2 (by rw [h3]; exact q)
theorem v_neS {x : G} (n : Nat) {Q : G → Prop} (h : okG n x = true) (hn : n ≤ 64) (q : Q (.bl false)) : u2EqD true x x Q := by
  obtain ⟨d, h1, h2, h3⟩ := okG_sh h hn
  exact v_neD h1 h1 h2 h2 (by rw [h3]; exact q)
theorem atG {gs : List G} {i : Int} {j : Nat} {g : G} (e : i = (j : Int)) (h : gs[j]? = some g) : atI gs i = some g := by
  rw [e]
  exact atI_nat h
/-- holds no list -/
def Flat (g : G) : Prop := ∀ (W : Wd) (S S' : AS) (H : Hp) (v : V), Rg W S H g v → Rg W S' H g v
theorem flat_int {i : Int} : Flat (.int i) := fun _ _ _ _ _ h => h
theorem flat_bl {i : Bool} : Flat (.bl i) := fun _ _ _ _ _ h => h
theorem flat_str {i : Str} : Flat (.str i) := fun _ _ _ _ _ h => h
theorem flat_non : Flat .non := fun _ _ _ _ _ h => h
theorem flat_L : ∀ {gs : List G}, (∀ g ∈ gs, Flat g) → ∀ {W : Wd} {S S' : AS} {H : Hp} {vs : List V}, RgL W S H gs vs → RgL W S' H gs vs
  | [], _, _, _, _, _, _, hs => hs
  | g :: gs, h, W, S, S', H, vs, hs => by
    obtain ⟨u, us, rfl, h1, h2⟩ := hs
    exact ⟨u, us, rfl, h g List.mem_cons_self W S S' H u h1, flat_L (fun x m => h x (List.mem_cons_of_mem _ m)) h2⟩
theorem flat_tup {gs : List G} (h : ∀ g ∈ gs, Flat g) : Flat (.tup gs) := fun W S S' H v ⟨p, vs, e, ht, hs⟩ => ⟨p, vs, e, ht, flat_L h hs⟩
/-- the drawer's alone -/
def dS (W : Wd) : AS := fun a => W.dr ∧ a = W.d
section
variable {F : Fr} {S : AS} {ρ : RS} {σ : L2.St} {H : Hp}
theorem Rel.weak (R : Rel F S ρ σ H) {g : G} {v : V} (h : Rg F.toWd S H g v) : Rg F.toWd (dS F.toWd) H g v := h.nx (Nxt.less fun a ⟨k, z⟩ => z ▸ R.s0 _ (R.ok.d k).1)
theorem Rel.weakL (R : Rel F S ρ σ H) {g : List G} {v : List V} (h : RgL F.toWd S H g v) : RgL F.toWd (dS F.toWd) H g v := h.nx (Nxt.less fun a ⟨k, z⟩ => z ▸ R.s0 _ (R.ok.d k).1)
theorem Rel.weakO (R : Rel F S ρ σ H) {i : Nat} {f : Bool} {g : G} (h : ρ[i]? = some (.ow f g)) : ∃ v, σ[i]? = some (some v) ∧ Rg F.toWd (dS F.toWd) H g v := by
  obtain ⟨a, u, ha, h1, h2, h3, _, _, h4⟩ := R.own h
  refine ⟨_, ha, (h3.nx (Nxt.less (S' := dS F.toWd) fun a ⟨k, z⟩ => z ▸ R.s0 _ (R.ok.d k).1)).fz h2 fun ⟨k, z⟩ => h4 k z⟩
theorem Rel.okwD (R : Rel F S ρ σ H) : Okw F.toWd (dS F.toWd) H := ⟨fun a ⟨k, z⟩ => z ▸ R.dom _ (R.s0 _ (R.ok.d k).1), fun k => ⟨⟨k, rfl⟩, fun ⟨_, z⟩ => (R.dr k).1 (z ▸ R.s0 _ (R.ok.d k).1), (R.dr k).2⟩⟩
end
def LAB (F : Fr) (t : TA) (u : UA) : Prop := ∀ (ρ : RS) (Φ : RS → List G → Prop) (σ : L2.St) (H : Hp) (S : AS) (Q : List V → Hp → Prop), u ρ Φ → Rel F S ρ σ H →
  (∀ ρ' gs vs H' S', Φ ρ' gs → Nxt S H S' H' → Rel F S' ρ' σ H' → RgL F.toWd (dS F.toWd) H' gs vs → Q vs H') → t σ H Q
structure GAB (X : Cx) (e : List Expr) (t : TA) (u : UA) : Prop where
  pe : PA X e t
  le : ∀ F : Fr, F.K = X.K → LAB F t u
section
variable {X : Cx} {e : Expr} {es : List Expr} {ta : TE} {ua : UE} {tr : TA} {ur : UA} {pos : Pos}
theorem gab (h : GA X es tr ur) : GAB X es tr ur := ⟨h.pe, fun F k ρ Φ σ H S Q q R j => h.le F k ρ Φ σ H S Q q R fun ρ' gs vs H' S' q' n' R' r' => j ρ' gs vs H' S' q' n' R' (R'.weakL r')⟩
theorem gab_cons (ha : GE X e ta ua) (hr : GAB X es tr ur) (hs : starEach (e :: es) X.env = (false, eval e X.env) :: starEach es X.env := by rfl) : GAB X (e :: es) (tCons ta tr) (uCons ua ur) :=
  ⟨pa_cons ha.pe hr.pe hs, fun F h ρ Φ σ H S Q q R k => ha.le F h ρ _ σ H S _ q R fun ρ1 g v H1 S1 q1 n1 R1 r1 =>
    hr.le F h ρ1 _ σ H1 S1 _ q1 R1 fun ρ2 gs vs H2 S2 q2 n2 R2 r2 => k ρ2 (g :: gs) (v :: vs) H2 S2 q2 (n1.trans n2) R2 ⟨v, vs, rfl, R2.weak (r1.nx n2), r2⟩⟩
def uConsB (i : Nat) (ur : UA) : UA := fun ρ Φ => ∃ f g, ρ[i]? = some (.ow f g) ∧ ur ρ fun ρ1 gs => ∃ f g, ρ1[i]? = some (.ow f g) ∧ Φ ρ1 (g :: gs)
theorem gab_own (i : Nat) {x : Str} {p : Pos} (hr : GAB X es tr ur) (hN : X.N[i]? = some x := by rfl) (hv : Vis X.env.scope x := by first | exact Or.inl rfl | exact Or.inr (Or.inl rfl) | exact Or.inr (Or.inr rfl)) (hd : (x == ("__debug__" : Str)) = false := by decide) (hcd : (x == ("__classdict__" : Str)) = false := by decide)
    (hs : starEach (.Name x p :: es) X.env = (false, eval (.Name x p) X.env) :: starEach es X.env := by rfl) : GAB X (.Name x p :: es) (tCons (tVar i) tr) (uConsB i ur) :=
  ⟨pa_cons (pe_var hN hv hd hcd) hr.pe hs, fun F h ρ Φ σ H S Q ⟨f, g, hg, q⟩ R k => by
    obtain ⟨v, hv, _⟩ := R.weakO hg
    refine ⟨v, hv, hr.le F h ρ _ σ H S _ q R fun ρ2 gs vs H2 S2 ⟨f', g', hg', q2⟩ n2 R2 r2 => ?_⟩
    obtain ⟨v', hv', r⟩ := R2.weakO hg'
    rw [hv] at hv'
    cases hv'
    exact k ρ2 (g' :: gs) (v :: vs) H2 S2 q2 n2 R2 ⟨v, vs, rfl, r, r2⟩⟩
def uCalB (uf : List G → (G → Prop) → Prop) (ua : UA) : UE := fun ρ Φ => ua ρ fun ρ1 gs => uf gs fun g => Flat g ∧ Φ ρ1 g
theorem k_calB (K : PySem.W.Frag) {x : Str} {k : Nat} {uf} {p pos : Pos} (C : Cal X.prog X.w X.K X.mg X.base x k (spG K uf)) (hr : Room k X.A) (hg : Gl X x) (ha : GAB X (e :: es) tr ur)
    (hdb : (x == ("__debug__" : Str)) = false := by decide) (he : starEach (e :: es) X.env = (false, eval e X.env) :: starEach es X.env := by rfl)
    (hpl : (backTo pos (starEach es X.env)).any (·.1) = false := by rfl) (hk : X.K = K := by rfl) : GE X (.Call (.Name x p) (e :: es) [] pos) (tCal (spG K uf) tr) (uCalB uf ur) := by
  subst hk
  exact ⟨pe_cal C hr hg ha.pe hdb he hpl, fun F h ρ Φ σ H S Q q R k => ha.le F h ρ _ σ H S _ q R fun ρ1 gs vs H1 S1 q1 n1 R1 r1 =>
    ⟨F.toWd, dS F.toWd, gs, _, h, q1, R1.okwD, r1, fun g v H' ⟨fl, q2⟩ af r2 => by
      obtain ⟨R2, n2⟩ := R1.step af.x af.dr
      exact k ρ1 g v H' S1 q2 (n1.trans n2) R2 (fl _ _ _ _ _ r2)⟩⟩
theorem v_consB {i : Nat} {f : Bool} {g : G} {ρ : RS} {Θ : RS → List G → Prop} (h : ρ[i]? = some (.ow f g)) (q : ur ρ fun ρ1 gs => ∃ f g, ρ1[i]? = some (.ow f g) ∧ Θ ρ1 (g :: gs)) : uConsB i ur ρ Θ := ⟨f, g, h, q⟩
theorem v_consB2 {f : Bool} {g : G} {R : G → Prop} {o : Option SG} (h : o = some (.ow f g)) (q : R g) : ∃ f g, o = some (.ow f g) ∧ R g := ⟨f, g, h, q⟩
theorem v_calB {uf} {ρ : RS} {Φ : RS → G → Prop} (q : ur ρ fun ρ1 gs => uf gs fun g => Flat g ∧ Φ ρ1 g) : uCalB uf ur ρ Φ := q
end
theorem cal_none {P : Program} {w : World} {K : PySem.W.Frag} {mg : Str → Option Value} {base : Heap} {x : Str} {f : Addr} {k : Nat} {uf : List G → (G → Prop) → Prop} (hm : mg x = some (.ref f)) (hk : PySem.W.keepIn K (.ref f) = true) (h : ∀ gs Φ, ¬ uf gs Φ) : Cal P w K mg base x k (spG K uf) :=
  ⟨f, hm, fun _ _ _ _ _ _ _ _ _ _ _ ⟨_, _, gs, Φ, _, q, _⟩ => (h gs Φ q).elim, hk⟩
end Zn
/-! the law: its drawer is made first -/
namespace Zn
open PySem PySem.Spec PyProof.Rows L2 TL
def spLaw (K : PySem.W.Frag) : Sp := fun vs H Q _ => ∃ (a : Addr) (ns : List Int), vs = [.ref a] ∧ SqL K H a (ns.map V.int) ∧ ns.length ≤ 63 ∧ ∀ H', Q (.bl true) H'
structure GLaw (X : Cx) (K : PySem.W.Frag) (ss : List Stmt) (t : TS) (u : US) : Prop where
  pe : PSs X ss (tSeq (tAsg (tCal (spBegin K) (tCons (tVar 0) tNil)) (gName 1)) t)
  le : ∀ F : Fr, F.K = X.K → LS F t u
theorem gss_law {X : Cx} {K : PySem.W.Frag} {st : Stmt} {rest : List Stmt} {t : TS} {u : US} (h : PS X st (tAsg (tCal (spBegin K) (tCons (tVar 0) tNil)) (gName 1))) (r : GSs X rest t u) : GLaw X K (st :: rest) t u := ⟨pss_cons h r.pe, r.le⟩
def endsL : Bs := { nx := fun _ => False, rt := fun _ g => g = .bl true }
def startL (N : List Str) : RS := .un :: .fz .drw :: List.replicate (N.length - 2) .un
section
variable {P : Program} {w : World} {K : PySem.W.Frag} {mg : Str → Option Value} {base : Heap}
theorem law_le {X : Cx} {ss : List Stmt} {t : TS} {u : US} {N : List Str} {a : Addr} {ns : List Int} {H : Hp} {Q : VK} (g : GLaw X X.K ss t u) (hN : 2 ≤ N.length) (h3 : u endsL (startL N)) (h1 : SqL X.K H a (ns.map V.int)) (h2 : ns.length ≤ 63) (q : ∀ H', Q (.bl true) H') :
    (tSeq (tAsg (tCal (spBegin X.K) (tCons (tVar 0) tNil)) (gName 1)) t) { nx := fun _ H' => Q .non H', rt := Q } (L2.start N [.ref a]) H := by
  have hst : L2.start N [.ref a] = some (.ref a) :: none :: List.replicate (N.length - 2) none := by
    unfold L2.start
    show some (V.ref a) :: List.replicate (N.length - 1) none = _
    rw [show N.length - 1 = N.length - 2 + 1 by omega, List.replicate_succ]
  rw [hst]
  refine r_seq (r_asg (r_cal (r_cons (r_var rfl (r_nil ?_)))))
  refine ⟨a, ns, rfl, h1, h2, fun H' d c s1 hd D => ?_⟩
  refine r_gname ?_
  have hd' : H' d ≠ none := by
    obtain ⟨l, e⟩ := D.get
    rw [e]
    intro z; cases z
  have R : Rel { K := X.K, d := d, c := c, dr := True, ps := [], H0 := H', S0 := fun b => b = d, pn := [] } (fun b => b = d) (startL N) (some (.ref a) :: some (.ref d) :: List.replicate (N.length - 2) none) H' := by
    refine ⟨⟨fun b e => e ▸ hd', fun _ => ⟨rfl, by simp⟩, fun a h => (nomatch h)⟩, fun b e => e ▸ hd', fun _ h => h, fun _ => ⟨D.ne, D⟩, fun _ _ _ _ h => h, fun _ _ h => h, ?_, fun a h => (nomatch h), fun i t hi => ?_, fun i j f g f' g' _ hi _ => ?_, fun p h => (nomatch h)⟩
    · simp [startL]
    · unfold startL at hi
      rcases i with _ | _ | i
      · cases hi
        exact ⟨_, rfl, trivial⟩
      · cases hi
        exact ⟨_, rfl, .ref d, rfl, trivial, rfl⟩
      · have hi : (List.replicate (N.length - 2) SG.un)[i]? = some t := hi
        have e : t = .un := (List.mem_replicate.mp (List.mem_of_getElem? hi)).2
        subst e
        have l2 := (List.getElem?_eq_some_iff.mp hi).1
        rw [List.length_replicate] at l2
        refine ⟨none, ?_, trivial⟩
        show (List.replicate (N.length - 2) none)[i]? = _
        rw [List.getElem?_replicate, if_pos l2]
    · exfalso
      unfold startL at hi
      rcases i with _ | _ | i
      · cases hi
      · cases hi
      · have hi : (List.replicate (N.length - 2) SG.un)[i]? = _ := hi
        cases (List.mem_replicate.mp (List.mem_of_getElem? hi)).2
  refine g.le { K := X.K, d := d, c := c, dr := True, ps := [], H0 := H', S0 := fun b => b = d, pn := [] } rfl _ _ _ H' _ _ h3 R ⟨?_, ?_, ?_, ?_⟩
  · exact fun _ _ _ _ z => z.elim
  · intro ρ' σ' H'' S' g' v e n' R' r'
    have e : g' = .bl true := e
    subst e
    cases (show v = .bl true from r')
    exact q H''
  · exact fun _ _ _ _ z => z.elim
  · exact fun _ _ _ _ z => z.elim
theorem g_law {x : Str} {st : Stmt} {f : Addr} {fd : FuncData} {N : List Str} {k : Nat} (F : Fun K x x st f fd) (sc : FnScope N ["_law_script"] (defScope st)) (hN : 2 ≤ N.length)
    (body : ∀ (cdv : Value) (A : Around) (outer : List Env) (s : Shared) (H : Hp) (E : XK), Room k (A.deeper (envOfC x (defScope st) s.heap.objs.size f cdv)) →
      ∃ t u, GLaw (cxOf CX0 P w K mg base N x (defScope st) f cdv A outer s H E).nox K (defBody st) t u ∧ u endsL (startL N)) : FnOk P w K mg base CX0 (k + 1) f fd ["_law_script"] (spLaw K) := by
  refine F.ok sc (fun vs H Q E ⟨a, ns, h, _⟩ => by rw [h]; rfl) (fun cdv A outer s H vs Q E hr h => ?_)
  obtain ⟨a, ns, rfl, h1, h2, q⟩ := h
  obtain ⟨t, u, g, h3⟩ := body cdv A outer s H E hr
  exact ⟨_, g.pe, law_le g hN h3 h1 h2 q⟩
end
/-! what stands behind an if is told once -/
section
variable {X : Cx} {e : Expr} {t : TE} {u : UE} {st : Stmt} {ts : TS} {w : US}
def uPx (u : UE) : UE := fun ρ Φ => ∃ P : RS → G → Prop, u ρ P ∧ ∀ ρ' g, P ρ' g → Φ ρ' g
theorem ge_post (h : GE X e t u) : GE X e t (uPx u) := ⟨h.pe, fun F k ρ Φ σ H S Q ⟨P, q, hq⟩ R j => h.le F k ρ P σ H S Q q R fun ρ' g v H' S' q' n' R' r' => j ρ' g v H' S' (hq _ _ q') n' R' r'⟩
theorem gn_post (h : GN X e t u) : GN X e t (uPx u) := ⟨h.pe, fun F k ρ Φ σ H S Q ⟨P, q, hq⟩ R j => h.le F k ρ P σ H S Q q R fun ρ' g p o H' S' q' n' R' s' h' r' f' => j ρ' g p o H' S' (hq _ _ q') n' R' s' h' r' f'⟩
def uPs (w : US) : US := fun B ρ => ∃ P : RS → Prop, w { B with nx := P } ρ ∧ ∀ ρ', P ρ' → B.nx ρ'
theorem gs_post (h : GS X st ts w) : GS X st ts (uPs w) := ⟨h.pe, fun F k ρ B σ H S E ⟨P, q, hq⟩ R m => h.le F k ρ _ σ H S E q R ⟨fun ρ' σ' H' S' q' n' R' => m.nx ρ' σ' H' S' (hq _ q') n' R', m.rt, m.bk, m.ct⟩⟩
theorem v_px {ρ : RS} {Φ : RS → G → Prop} (P : RS → G → Prop) (q : u ρ P) (h : ∀ ρ' g, P ρ' g → Φ ρ' g) : uPx u ρ Φ := ⟨P, q, h⟩
theorem v_px0 {ρ : RS} {Φ : RS → G → Prop} (q : u ρ Φ) : uPx u ρ Φ := ⟨Φ, q, fun _ _ h => h⟩
theorem v_ps {ρ : RS} {B : Bs} (P : RS → Prop) (q : w { B with nx := P } ρ) (h : ∀ ρ', P ρ' → B.nx ρ') : uPs w B ρ := ⟨P, q, h⟩
theorem v_ps0 {ρ : RS} {B : Bs} (q : w B ρ) : uPs w B ρ := ⟨B.nx, q, fun _ h => h⟩
def uPt (u : UT) : UT := fun ρ Ψ => ∃ P : RS → Bool → Prop, u ρ P ∧ ∀ ρ' b, P ρ' b → Ψ ρ' b
theorem gt_post {tt : TT} {ut : UT} (h : GT X e tt ut) : GT X e tt (uPt ut) := ⟨h.pe, fun F k ρ Φ σ H S Q ⟨P, q, hq⟩ R j => h.le F k ρ P σ H S Q q R fun ρ' g H' S' q' n' R' => j ρ' g H' S' (hq _ _ q') n' R'⟩
theorem v_pt {ut : UT} {ρ : RS} {Ψ : RS → Bool → Prop} (P : RS → Bool → Prop) (q : ut ρ P) (h : ∀ ρ' b, P ρ' b → Ψ ρ' b) : uPt ut ρ Ψ := ⟨P, q, h⟩
theorem v_pt0 {ut : UT} {ρ : RS} {Ψ : RS → Bool → Prop} (q : ut ρ Ψ) : uPt ut ρ Ψ := ⟨Ψ, q, fun _ _ h => h⟩
end
end Zn
/-! three lists in a list, filled by places that are drawn-/
namespace Zn
open PySem PySem.Spec PyProof.Rows L2 TL
section
variable {F : Fr} {S : AS} {ρ : RS} {σ σ' : L2.St} {H : Hp} {p : Addr} {o o' : HO}
/-- a pinned cell, wherever it stands among the pins-/
theorem Rel.repinAt (R : Rel F S ρ σ H) {j : Nat} (hj : F.pn[j]? = some (p, o)) (ho : ∀ xs, o ≠ .tup xs) (hq : ∀ i q, i ≠ j → F.pn[i]? = some q → q.1 ≠ p) : Rel { F with pn := F.pn.set j (p, o') } S ρ σ (upd H p o') ∧ Nxt S H S (upd H p o') := by
  obtain ⟨p1, p2, p3, p4, p5⟩ := R.pin (p, o) (List.mem_of_getElem? hj)
  have hx : ∀ b u, b ≠ p → H b = some u → upd H p o' b = some u := fun b u z e => by rw [upd_ne z]; exact e
  have ht : ∀ b xs, H b = some (.tup xs) → upd H p o' b = some (.tup xs) := fun b xs e => hx b _ (fun z => by rw [z, p1] at e; cases e; exact ho _ rfl) e
  have n : Nxt S H S (upd H p o') := ⟨fun b u k e => hx b u (fun z => k (z ▸ p2)) e, ht, fun _ h => .inl h⟩
  have hne : ∀ b, H b ≠ none → upd H p o' b ≠ none := fun b hb => by
    by_cases z : b = p
    · rw [z, upd_same]; intro z; cases z
    · rw [upd_ne z]; exact hb
  refine ⟨⟨⟨R.ok.s0, R.ok.d, R.ok.p⟩, fun b hb => hne b (R.dom b hb), R.s0, fun k => ⟨(R.dr k).1, (R.dr k).2.upd (p3 k).symm fun z => (R.dr k).1 (z ▸ p2)⟩, fun b u k1 k2 e => hx b u (fun z => ?_) (R.kx b u k1 k2 e), fun b xs e => ht b xs (R.kt b xs e), R.len, fun b hb => hne b (R.pp b hb), fun i s hi => ?_, R.dj, fun q hq' => ?_⟩, n⟩
  · have := p5
    rw [← z] at this
    have e : F.H0 b = some u := e
    rw [show F.H0 b = none from this] at e
    cases e
  · obtain ⟨u, e, r⟩ := R.sl i s hi
    refine ⟨u, e, ?_⟩
    cases s with
    | un => trivial
    | fz g => obtain ⟨v, e, r⟩ := r; exact ⟨v, e, Rg.nx n r⟩
    | ow f g =>
      obtain ⟨a, w, e', k1, k2, k3, k4, k5⟩ := r
      exact ⟨a, w, e', k1, hx a w (fun z => p4 i f g hi (by rw [e, e', z])) k2, RgO.nx n k3, k4, k5⟩
  · obtain ⟨i, hi⟩ := List.mem_iff_getElem?.mp hq'
    have hi : (F.pn.set j (p, o'))[i]? = some q := hi
    rw [List.getElem?_set] at hi
    by_cases e : j = i
    · rw [if_pos e] at hi
      split at hi
      · cases hi
        exact ⟨upd_same, p2, p3, p4, p5⟩
      · cases hi
    · rw [if_neg e] at hi
      obtain ⟨q1, q2, q3, q4, q5⟩ := R.pin q (List.mem_of_getElem? hi)
      exact ⟨hx _ _ (hq i q (fun z => e z.symm) hi) q1, q2, q3, q4, q5⟩
end
abbrev tPlant1 (ip : Nat) : TS := tAsg (tLst (tCons (tLst tNil) (tCons (tLst tNil) (tCons (tLst tNil) tNil)))) (gName ip)
abbrev tPlant2 (K : PySem.W.Frag) (il iv ir ip : Nat) (td : TE) : TS := tFor (iList K (tVar il)) (gName iv) (tSeq (tAsg (tOp (rIxL K) (tVar ip) td) (gName ir)) (tDrop (tBM K "list" rAppend (tVar ir) (tCons (tVar iv) tNil))))
/-- what is put into the three is out of ns, in its order -/
def uPlant (il iv ir ip : Nat) (ud : UE) (w : US) : US := fun B ρ => ∃ ns : List G, ρ[il]? = some (.fz (.lst ns)) ∧ ns.length ≤ 1000 ∧ (il ≠ iv ∧ il ≠ ir ∧ il ≠ ip ∧ iv ≠ ir ∧ iv ≠ ip ∧ ir ≠ ip ∧ ip < ρ.length ∧ iv < ρ.length ∧ ir < ρ.length) ∧
  (ud (((ρ.set ip .un).set iv .un).set ir .un) fun ρ'' g => ρ'' = (((ρ.set ip .un).set iv .un).set ir .un) ∧ ∃ n : Int, g = .int n ∧ 0 ≤ n ∧ n < 3) ∧
  ∀ as bs cs : List G, as.Sublist ns → bs.Sublist ns → cs.Sublist ns → w B ((((ρ.set ip .un).set iv .un).set ir .un).set ip (.fz (.lst [.lst as, .lst bs, .lst cs])))
theorem set_get {α : Type} {l : List α} {i j : Nat} {x : α} (h : i ≠ j) : (l.set i x)[j]? = l[j]? := by rw [List.getElem?_set, if_neg h]
theorem sub_snoc {α : Type} {l ns : List α} {i : Nat} {g : α} (h : l.Sublist (ns.take i)) (e : ns[i]? = some g) : (l ++ [g]).Sublist (ns.take (i + 1)) := by
  rw [take_snoc e]
  exact h.append (List.Sublist.refl _)
theorem sub_up {α : Type} {l ns : List α} {i : Nat} {g : α} (h : l.Sublist (ns.take i)) (e : ns[i]? = some g) : l.Sublist (ns.take (i + 1)) := by
  rw [take_snoc e]
  exact h.trans (List.sublist_append_left _ _)
theorem gss_plant {X : Cx} {K : PySem.W.Frag} {il iv ir ip : Nat} {s1 s2 : Stmt} {rest : List Stmt} {tg it de : Expr} {td : TE} {ud : UE} {t : TS} {w : US} (h1 : PS X s1 (tPlant1 ip)) (h2 : PE X de td → PS X s2 (tPlant2 K il iv ir ip td)) (hi : GI X tg it (iList K (tVar il)) (uIt (uVar il))) (hd : GE X de td ud) (h3 : GSs X rest t w) (hk : X.K = K := by rfl) :
    GSs X (s1 :: s2 :: rest) (tSeq (tPlant1 ip) (tSeq (tPlant2 K il iv ir ip td) t)) (uPlant il iv ir ip ud w) := ⟨pss_cons h1 (pss_cons (h2 hd.pe) h3.pe), fun F k ρ B σ H S E hu R m => by
  obtain ⟨ns, hn, hl, ⟨z1, z2, z3, z4, z5, z6, z7, z8, z9⟩, hD, hw⟩ := hu
  refine r_seq (r_asg (r_tLst (r_cons (r_tLst (r_nil (r_al (by decide) fun p1 hp1 => ?_))))))
  refine r_cons (r_tLst (r_nil (r_al (by decide) fun p2 hp2 => ?_)))
  refine r_cons (r_tLst (r_nil (r_al (by decide) fun p3 hp3 => ?_)))
  refine r_nil (r_al (by show 3 ≤ _; decide) fun P hP => ?_)
  refine r_gname ?_
  -- the four cells, pinned
  obtain ⟨R1, n1⟩ := R.grow (o := .lst []) hp1
  have R1 := R1.addPin upd_same (.inr rfl) (R.new hp1)
  obtain ⟨R2, n2⟩ := R1.grow (o := .lst []) hp2
  have f2 := R1.new hp2
  have R2 := R2.addPin upd_same (.inr rfl) f2
  obtain ⟨R3, n3⟩ := R2.grow (o := .lst []) hp3
  have f3 := R2.new hp3
  have R3 := R3.addPin upd_same (.inr rfl) f3
  obtain ⟨R4, n4⟩ := R3.grow (o := .lst [.ref p1, .ref p2, .ref p3]) hP
  have f4 := R3.new hP
  have R4 := R4.addPin upd_same (.inr rfl) f4
  have e12 : p1 ≠ p2 := f2.2.2 (p1, _) List.mem_cons_self
  have e13 : p1 ≠ p3 := f3.2.2 (p1, _) (List.mem_cons_of_mem _ List.mem_cons_self)
  have e23 : p2 ≠ p3 := f3.2.2 (p2, _) List.mem_cons_self
  have e1P : p1 ≠ P := f4.2.2 (p1, _) (List.mem_cons_of_mem _ (List.mem_cons_of_mem _ List.mem_cons_self))
  have e2P : p2 ≠ P := f4.2.2 (p2, _) (List.mem_cons_of_mem _ List.mem_cons_self)
  have e3P : p3 ≠ P := f4.2.2 (p3, _) List.mem_cons_self
  have q1 := (R.new hp1).2.2
  have q2 : ∀ q ∈ F.pn, q.1 ≠ p2 := fun q h => f2.2.2 q (List.mem_cons_of_mem _ h)
  have q3 : ∀ q ∈ F.pn, q.1 ≠ p3 := fun q h => f3.2.2 q (List.mem_cons_of_mem _ (List.mem_cons_of_mem _ h))
  have qP0 : ∀ q ∈ F.pn, q.1 ≠ P := fun q h => f4.2.2 q (List.mem_cons_of_mem _ (List.mem_cons_of_mem _ (List.mem_cons_of_mem _ h)))
  have n04 := ((n1.trans n2).trans n3).trans n4
  have R4 := ((R4.forget (i := ip)).forget (i := iv)).forget (i := ir)
  clear n1 n2 n3 n4 R1 R2 R3 f2 f3 f4
  generalize upd (upd (upd (upd H p1 (.lst [])) p2 (.lst [])) p3 (.lst [])) P (.lst [.ref p1, .ref p2, .ref p3]) = H4 at *
  generalize (fun a => (((S a ∨ a = p1) ∨ a = p2) ∨ a = p3) ∨ a = P) = S4 at *
  have un_at : ∀ (i : Nat) (s : SG), (((ρ.set ip .un).set iv .un).set ir .un)[i]? = some s → (i = ip ∨ i = iv ∨ i = ir) → s = .un := fun i s h e => by
    rcases set_at h with ⟨e1, h⟩ | ⟨_, e1, _⟩
    · rcases set_at h with ⟨e2, h⟩ | ⟨_, e2, _⟩
      · rcases set_at h with ⟨e3, h⟩ | ⟨_, e3, _⟩
        · rcases e with e | e | e
          · exact (e3 e.symm).elim
          · exact (e2 e.symm).elim
          · exact (e1 e.symm).elim
        · exact e3.symm
      · exact e2.symm
    · exact e1.symm
  have hil : (((ρ.set ip .un).set iv .un).set ir .un)[il]? = some (.fz (.lst ns)) := by
    rw [set_get (fun e => z2 e.symm), set_get (fun e => z1 e.symm), set_get (fun e => z3 e.symm)]
    exact hn
  have hlen : (((ρ.set ip .un).set iv .un).set ir .un).length = ρ.length := by rw [List.length_set, List.length_set, List.length_set]
  have hwn := fun as bs cs a1 a2 a3 => hw as bs cs a1 a2 a3
  generalize (((ρ.set ip .un).set iv .un).set ir .un) = ρ1 at *
  -- a slot of the three may hold anything
  have any : ∀ {F' : Fr} {S' : AS} {σ1 : L2.St} {H' : Hp} {i : Nat} {v : Option V}, (i = ip ∨ i = iv ∨ i = ir) → Rel F' S' ρ1 σ1 H' → Rel F' S' ρ1 (σ1.set i v) H' := fun {F' S' σ1 H' i v} hi R => by
    refine R.slotU (List.length_set ..) fun j s hj hs => ?_
    by_cases e : i = j
    · subst e
      have := un_at _ s hj hi
      subst this
      obtain ⟨g, z | ⟨f, z⟩⟩ := hs <;> cases z
    · rw [List.getElem?_set, if_neg e]
  have R5 := any (v := some (V.ref P)) (.inl rfl) R4
  have hσP : (σ.set ip (some (V.ref P)))[ip]? = some (some (V.ref P)) := by
    rw [List.getElem?_set, if_pos rfl, if_pos (by rw [R.len]; exact z7)]
  show tSeq (tPlant2 K il iv ir ip td) t E _ H4
  refine r_seq (r_for ?_)
  refine hi.le ((((F.pnw (p1, .lst [])).pnw (p2, .lst [])).pnw (p3, .lst [])).pnw (P, .lst [.ref p1, .ref p2, .ref p3])) k ρ1 (fun ρ' gs => ρ' = ρ1 ∧ gs = ns) _ _ _ _ (v_it (v_var hil (v_el ⟨rfl, rfl⟩))) R5 fun ρ' gs J H5 S5 ⟨eρ, egs⟩ n5 R6 itr => ?_
  subst eρ
  subst egs
  refine ⟨fun i mm σ' H' => mm = gs.length - i ∧ i ≤ gs.length ∧ ∃ S' as bs cs vas vbs vcs, σ'[ip]? = some (some (V.ref P)) ∧ Rel ((((F.pnw (p1, .lst vas)).pnw (p2, .lst vbs)).pnw (p3, .lst vcs)).pnw (P, .lst [.ref p1, .ref p2, .ref p3])) S' ρ' σ' H' ∧ Nxt S5 H5 S' H' ∧
      RgL F.toWd S' H' as vas ∧ RgL F.toWd S' H' bs vbs ∧ RgL F.toWd S' H' cs vcs ∧ as.Sublist (gs.take i) ∧ bs.Sublist (gs.take i) ∧ cs.Sublist (gs.take i),
    ⟨_, rfl, Nat.zero_le _, S5, [], [], [], [], [], [], hσP, R6, .refl _ _, rfl, rfl, rfl, List.nil_sublist _, List.nil_sublist _, List.nil_sublist _⟩, ?_⟩
  rintro i mm σ' H' ⟨rfl, hi', S', as, bs, cs, vas, vbs, vcs, hP', R7, n7, ra, rb, rc, sa, sb, sc⟩
  by_cases hlt : i < gs.length
  · refine .inr ⟨itr.go i H' S' hlt n7, fun σ'' H'' => i + 1 ≤ gs.length ∧ ∃ S' as bs cs vas vbs vcs, σ''[ip]? = some (some (V.ref P)) ∧ Rel ((((F.pnw (p1, .lst vas)).pnw (p2, .lst vbs)).pnw (p3, .lst vcs)).pnw (P, .lst [.ref p1, .ref p2, .ref p3])) S' ρ' σ'' H'' ∧ Nxt S5 H5 S' H'' ∧
      RgL F.toWd S' H'' as vas ∧ RgL F.toWd S' H'' bs vbs ∧ RgL F.toWd S' H'' cs vcs ∧ as.Sublist (gs.take (i + 1)) ∧ bs.Sublist (gs.take (i + 1)) ∧ cs.Sublist (gs.take (i + 1)), fun σ'' H'' h => ⟨_, by omega, rfl, h.1, h.2⟩, fun x H8 y => ?_⟩
    obtain ⟨s8, g', eg, rg'⟩ := itr.yld i H' S' x H8 hlt n7 y
    obtain ⟨R8, n8⟩ := R7.same s8
    refine r_gname ?_
    have R9 := any (v := some x) (.inr (.inl rfl)) R8
    have hP9 : (σ'.set iv (some x))[ip]? = some (some (V.ref P)) := by rw [set_get z5]; exact hP'
    refine r_seq (r_asg (r_op (r_var hP9 ?_)))
    refine hd.le ((((F.pnw (p1, .lst vas)).pnw (p2, .lst vbs)).pnw (p3, .lst vcs)).pnw (P, .lst [.ref p1, .ref p2, .ref p3])) k ρ' _ _ H8 S' _ hD R9 fun ρ'' gn vn H9 S9 ⟨e1, n, e2, n0, n1⟩ n9 R10 rn => ?_
    subst e1
    subst e2
    cases (show vn = .int n from rn)
    have pP := (R10.pin (P, _) List.mem_cons_self).1
    have n79 := (n7.trans n8).trans n9
    have ra := (ra.nx n8).nx n9
    have rb := (rb.nx n8).nx n9
    have rc := (rc.nx n8).nx n9
    have rx : Rg F.toWd S9 H9 g' x := Rg.nx n9 rg'
    have las := ra.len
    have lbs := rb.len
    have lcs := rc.len
    have la : as.length ≤ 1000 := Nat.le_trans sa.length_le (by rw [List.length_take]; omega)
    have lb : bs.length ≤ 1000 := Nat.le_trans sb.length_le (by rw [List.length_take]; omega)
    have lc : cs.length ≤ 1000 := Nat.le_trans sc.length_le (by rw [List.length_take]; omega)
    have hn3 : n = 0 ∨ n = 1 ∨ n = 2 := by omega
    rcases hn3 with rfl | rfl | rfl
    · refine r_ixL (sl_of pP) (show atI [V.ref p1, V.ref p2, V.ref p3] 0 = some (V.ref p1) from rfl) ?_
      refine r_gname ?_
      have R11 := any (v := some (V.ref p1)) (.inr (.inr rfl)) R10
      have pk := (R11.pin (p1, .lst vas) (List.mem_cons_of_mem _ (List.mem_cons_of_mem _ (List.mem_cons_of_mem _ List.mem_cons_self)))).1
      have hir : ((σ'.set iv (some x)).set ir (some (V.ref p1)))[ir]? = some (some (V.ref p1)) := by
        rw [List.getElem?_set, if_pos rfl, if_pos (by have := R10.len; rw [this, hlen]; exact z9)]
      have hiv : ((σ'.set iv (some x)).set ir (some (V.ref p1)))[iv]? = some (some x) := by
        rw [set_get (fun e => z4 e.symm), List.getElem?_set, if_pos rfl, if_pos (by have := R7.len; rw [this, hlen]; exact z8)]
      have hip : ((σ'.set iv (some x)).set ir (some (V.ref p1)))[ip]? = some (some (V.ref P)) := by
        rw [set_get z6]
        exact hP9
      refine r_drop (r_BM (r_var hir ⟨.inl ⟨rfl, _, sl_of pk⟩, r_cons (r_var hiv (r_nil ?_))⟩))
      refine r_append pk (lt_line (by omega)) ?_
      obtain ⟨R12, n12⟩ := R11.repinAt (j := 3) (p := p1) (o' := .lst (vas ++ [x])) rfl (fun _ z => by cases z) (fun i' q hn hq e => by
        rcases i' with _ | _ | _ | _ | i'
        · cases hq; exact e1P e.symm
        · cases hq; exact e13 e.symm
        · cases hq; exact e12 e.symm
        · cases hq; exact hn rfl
        · exact q1 _ (List.mem_of_getElem? hq) e)
      exact ⟨hlt, S9, as ++ [g'], bs, cs, vas ++ [x], vbs, vcs, hip, R12, n79.trans n12, (ra.app (.one rx)).nx n12, rb.nx n12, rc.nx n12, sub_snoc sa eg, sub_up sb eg, sub_up sc eg⟩
    · refine r_ixL (sl_of pP) (show atI [V.ref p1, V.ref p2, V.ref p3] 1 = some (V.ref p2) from rfl) ?_
      refine r_gname ?_
      have R11 := any (v := some (V.ref p2)) (.inr (.inr rfl)) R10
      have pk := (R11.pin (p2, .lst vbs) (List.mem_cons_of_mem _ (List.mem_cons_of_mem _ List.mem_cons_self))).1
      have hir : ((σ'.set iv (some x)).set ir (some (V.ref p2)))[ir]? = some (some (V.ref p2)) := by
        rw [List.getElem?_set, if_pos rfl, if_pos (by have := R10.len; rw [this, hlen]; exact z9)]
      have hiv : ((σ'.set iv (some x)).set ir (some (V.ref p2)))[iv]? = some (some x) := by
        rw [set_get (fun e => z4 e.symm), List.getElem?_set, if_pos rfl, if_pos (by have := R7.len; rw [this, hlen]; exact z8)]
      have hip : ((σ'.set iv (some x)).set ir (some (V.ref p2)))[ip]? = some (some (V.ref P)) := by
        rw [set_get z6]
        exact hP9
      refine r_drop (r_BM (r_var hir ⟨.inl ⟨rfl, _, sl_of pk⟩, r_cons (r_var hiv (r_nil ?_))⟩))
      refine r_append pk (lt_line (by omega)) ?_
      obtain ⟨R12, n12⟩ := R11.repinAt (j := 2) (p := p2) (o' := .lst (vbs ++ [x])) rfl (fun _ z => by cases z) (fun i' q hn hq e => by
        rcases i' with _ | _ | _ | _ | i'
        · cases hq; exact e2P e.symm
        · cases hq; exact e23 e.symm
        · cases hq; exact hn rfl
        · cases hq; exact e12 e
        · exact q2 _ (List.mem_of_getElem? hq) e)
      exact ⟨hlt, S9, as, bs ++ [g'], cs, vas, vbs ++ [x], vcs, hip, R12, n79.trans n12, ra.nx n12, (rb.app (.one rx)).nx n12, rc.nx n12, sub_up sa eg, sub_snoc sb eg, sub_up sc eg⟩
    · refine r_ixL (sl_of pP) (show atI [V.ref p1, V.ref p2, V.ref p3] 2 = some (V.ref p3) from rfl) ?_
      refine r_gname ?_
      have R11 := any (v := some (V.ref p3)) (.inr (.inr rfl)) R10
      have pk := (R11.pin (p3, .lst vcs) (List.mem_cons_of_mem _ List.mem_cons_self)).1
      have hir : ((σ'.set iv (some x)).set ir (some (V.ref p3)))[ir]? = some (some (V.ref p3)) := by
        rw [List.getElem?_set, if_pos rfl, if_pos (by have := R10.len; rw [this, hlen]; exact z9)]
      have hiv : ((σ'.set iv (some x)).set ir (some (V.ref p3)))[iv]? = some (some x) := by
        rw [set_get (fun e => z4 e.symm), List.getElem?_set, if_pos rfl, if_pos (by have := R7.len; rw [this, hlen]; exact z8)]
      have hip : ((σ'.set iv (some x)).set ir (some (V.ref p3)))[ip]? = some (some (V.ref P)) := by
        rw [set_get z6]
        exact hP9
      refine r_drop (r_BM (r_var hir ⟨.inl ⟨rfl, _, sl_of pk⟩, r_cons (r_var hiv (r_nil ?_))⟩))
      refine r_append pk (lt_line (by omega)) ?_
      obtain ⟨R12, n12⟩ := R11.repinAt (j := 1) (p := p3) (o' := .lst (vcs ++ [x])) rfl (fun _ z => by cases z) (fun i' q hn hq e => by
        rcases i' with _ | _ | _ | _ | i'
        · cases hq; exact e3P e.symm
        · cases hq; exact hn rfl
        · cases hq; exact e23 e
        · cases hq; exact e13 e
        · exact q3 _ (List.mem_of_getElem? hq) e)
      exact ⟨hlt, S9, as, bs, cs ++ [g'], vas, vbs, vcs ++ [x], hip, R12, n79.trans n12, ra.nx n12, rb.nx n12, (rc.app (.one rx)).nx n12, sub_up sa eg, sub_up sb eg, sub_snoc sc eg⟩
  · have e : i = gs.length := by omega
    subst e
    refine .inl ⟨itr.stop H' S' n7, ?_⟩
    rw [List.take_length] at sa sb sc
    -- the pins are let go, one after the other
    obtain ⟨b1, b2, b3, b4, b5⟩ := R7.pin (P, _) List.mem_cons_self
    obtain ⟨c1, c2, c3, c4, c5⟩ := R7.pin (p3, .lst vcs) (List.mem_cons_of_mem _ List.mem_cons_self)
    obtain ⟨d1, d2, d3, d4, d5⟩ := R7.pin (p2, .lst vbs) (List.mem_cons_of_mem _ (List.mem_cons_of_mem _ List.mem_cons_self))
    obtain ⟨f1, f2, f3, f4, f5⟩ := R7.pin (p1, .lst vas) (List.mem_cons_of_mem _ (List.mem_cons_of_mem _ (List.mem_cons_of_mem _ List.mem_cons_self)))
    have Q0 := R7.unpin.unpin.unpin.unpin
    have qP : ∀ q ∈ F.pn, q.1 ≠ P := fun q h => qP0 q h
    obtain ⟨Q1, m1, r1⟩ := Q0.unN f2 f1 (g := .lst as) ⟨vas, rfl, ra⟩ ⟨f5, f4, q1⟩
    obtain ⟨Q2, m2, r2⟩ := Q1.unN (p := p2) ⟨d2, e12.symm⟩ d1 (g := .lst bs) ⟨vbs, rfl, rb.nx m1⟩ ⟨d5, d4, q2⟩
    obtain ⟨Q3, m3, r3⟩ := Q2.unN (p := p3) ⟨⟨c2, e13.symm⟩, e23.symm⟩ c1 (g := .lst cs) ⟨vcs, rfl, (rc.nx m1).nx m2⟩ ⟨c5, c4, q3⟩
    obtain ⟨Q4, m4, r4⟩ := Q3.unN (p := P) ⟨⟨⟨b2, e1P.symm⟩, e2P.symm⟩, e3P.symm⟩ b1 (g := .lst [.lst as, .lst bs, .lst cs]) ⟨_, rfl, _, _, rfl, (r1.nx m2).nx m3, _, _, rfl, r2.nx m3, _, _, rfl, r3, rfl⟩ ⟨b5, b4, qP⟩
    have Q5 := Q4.setF (i := ip) r4
    have eσ : σ'.set ip (some (V.ref P)) = σ' := by
      apply List.ext_getElem?
      intro j
      rw [List.getElem?_set]
      by_cases e : ip = j
      · rw [if_pos e, ← e, if_pos (by rw [R7.len, hlen]; exact z7), hP']
      · rw [if_neg e]
    rw [eσ] at Q5
    exact h3.le F k _ B σ' H' _ E (hwn as bs cs sa sb sc) Q5 (m.mono ((((((n04.trans n5).trans n7).trans m1).trans m2).trans m3).trans m4))⟩
end Zn
/-! enumerate of a tuple -/
namespace Zn
open PySem PySem.Spec PyProof.Rows L2 TL
abbrev tiO (l : Addr) : Obj := { cls := .type "tuple_iterator", data := .fields #[.ref l, .int 0 0] }
abbrev enO (it : Addr) : Obj := { cls := .type "enumerate", data := .fields #[.none, .bool false, .ref it, rawInt 0, .none, .none] }
open AutoSeq1 (wpAny_loadPart') in
theorem enT_meets (l : Addr) (xs : Array Value) (k : Nat) (dt : Option Addr) (sz : Array (Option Value)) :
    Meets (Builtin.«enumerate.__new__» ⟨[.type "enumerate", .ref l], []⟩) (fun _ R s => s.heap.get? l = some { cls := .type "tuple", dict := dt, data := .seq xs k, slots := sz } ∧
      R (.ok (.ret (.ref (s.heap.push (tiO l)).objs.size))) { s with heap := (s.heap.push (tiO l)).push (enO s.heap.objs.size) }) := .of_wp fun prog w A R s q => by
  obtain ⟨h0, g0, d0, t0, o0⟩ := s
  obtain ⟨hg, q⟩ := q
  have sb := sub_enumerate
  have ht : Heap.IsTuple (Shared.heap ⟨h0, g0, d0, t0, o0⟩) l xs := ⟨_, hg, rfl, k, rfl⟩
  wp_walk using wpAny_loadPart' hg
  refine wpAny_stack_any fun _ => wpAny_pure ?_
  split
  · rename_i c _ _ _ _ _
    cases (c == Value.type "enumerate") <;> (wp_walk using wpAny_loadPart' hg, wpAny_pyIter_tuple ht; exact ⟨_, rfl, q⟩)
  · wp_walk using wpAny_loadPart' hg, wpAny_pyIter_tuple ht
    exact ⟨_, rfl, q⟩
section
variable {prog : Program} {w : World} {A : Around} {E : Value → Shared → Prop} {s : Shared}
theorem call_enT {l : Addr} {xs : Array Value} {Q : Value → Shared → Prop} (hT : s.heap.IsTuple l xs)
    (h : ∀ h', IsEnum h' (s.heap.objs.size + 1) s.heap.objs.size 0 .none → h'.IsTupleIter s.heap.objs.size l 0 → (∀ b o, s.heap.get? b = some o → h'.get? b = some o) → Q (.ref (s.heap.objs.size + 1)) { s with heap := h' }) :
    wpAny (model prog w) A (call (.type "enumerate") [.ref l]) Q E s := by
  obtain ⟨⟨c, dt, da, sl⟩, hl, hc, n, hd⟩ := hT
  cases (show c = .type "tuple" from hc)
  cases (show da = .seq xs n from hd)
  refine callType_new F.called_enumerate (by decide) (F.typeCall_enumerate_1 _) (F.newCall_enumerate_1 _) (fun _ => F.args_object_init_2 _ _) F.entry_enumerate_new (enT_meets l xs n dt sl) ⟨hl, ?_⟩
  have z : (s.heap.push (tiO l)).objs.size = s.heap.objs.size + 1 := Heap.size_push ..
  show _ ∧ _
  rw [z]
  have he : IsEnum ((s.heap.push (tiO l)).push (enO s.heap.objs.size)) (s.heap.objs.size + 1) s.heap.objs.size 0 .none := by
    have r := Heap.get?_push_size (s.heap.push (tiO l)) (o := enO s.heap.objs.size) rfl
    rw [z] at r
    exact r
  exact ⟨⟨_, he, rfl⟩, h _ he ⟨_, Heap.get?_push_of_some _ (Heap.get?_push_size _ rfl), rfl, rfl⟩ fun _ _ x => Heap.get?_push_of_some _ (Heap.get?_push_of_some _ x)⟩
theorem draws_tup (hh : A.handled = none) (it l : Addr) (hne : l ≠ it) (xs : Array Value) : Draws prog w A it [it, l] xs.size (fun i v => xs[i]? = some v) (fun i h => h.IsTupleIter it l i ∧ h.IsTuple l xs) where
  live := fun _ _ st => let ⟨o, ho, _⟩ := st.1; ⟨o, ho⟩
  frame := fun _ _ _ ⟨⟨o, ho, r⟩, ⟨u, hu, r'⟩⟩ hk => ⟨⟨o, hk it (by simp) o ho, r⟩, ⟨u, hk l (by simp) u hu, r'⟩⟩
  item := fun i s Q E hi st hQ => RZ.nextOf_tuple_item st.1 st.2 (x := xs[i]) (by simp [hi]) fun h' c sb => hQ _ h' s.toks (by simp [hi]) ⟨c, st.2.extBut sb.extBut hne⟩ sb
  done := fun s Q E st hE => RZ.nextOf_tuple_end hh st.1 st.2 (by simp) hE
theorem draws_end (hh : A.handled = none) (it l : Addr) (i : Nat) (xs : Array Value) (hx : xs[i]? = none) : Draws prog w A it [it, l] i (fun _ _ => False) (fun j h => j = i ∧ h.IsTupleIter it l i ∧ h.IsTuple l xs) where
  live := fun _ _ st => let ⟨o, ho, _⟩ := st.2.1; ⟨o, ho⟩
  frame := fun _ _ _ ⟨e, ⟨o, ho, r⟩, ⟨u, hu, r'⟩⟩ hk => ⟨e, ⟨o, hk it (by simp) o ho, r⟩, ⟨u, hk l (by simp) u hu, r'⟩⟩
  item := fun j s Q E hi st _ => absurd hi (by rw [st.1]; exact Nat.lt_irrefl _)
  done := fun s Q E st hE => RZ.nextOf_tuple_end hh st.2.1 st.2.2 hx hE
end
/-- the tuple at a, each item in a new pair -/
def IteT (K : PySem.W.Frag) (a : Addr) : It :=
  ⟨fun i H => ∃ (xs : List V) (x : V), SqT K H a xs ∧ xs[i]? = some x, fun i H v H' => ∃ T x, v = .ref T ∧ H T = none ∧ H' = upd H T (.tup [.int (i : Nat), x]) ∧ ∀ xs, SqT K H a xs → xs[i]? = some x, fun i H => ∃ xs : List V, SqT K H a xs ∧ xs.length ≤ i⟩
theorem turn_enT {P : Program} {w : World} {K : PySem.W.Frag} {elts : List Expr} {kk : Nat} {tpos : Pos} (a e it : Addr) (hai : a ≠ it) (hae : a ≠ e) :
    Turn P w K (.Tuple elts kk tpos) (IteT K a) [e, it] e (fun i h => (∃ old, IsEnum h e it ((i : Nat) : Int) old) ∧ h.IsTupleIter it a i ∧ e ≠ it) where
  mem := by simp
  obj := fun i h st b hb => by
    obtain ⟨⟨old, he⟩, ⟨o, ho, hc, hd⟩, _⟩ := st
    rcases (by simpa using hb : b = e ∨ b = it) with z | z
    · rw [z]
      exact ⟨_, he, fun v q => nomatch q⟩
    · rw [z]
      exact ⟨o, ho, fun v q => by rw [hd] at q; cases q⟩
  keep := fun i h h' st k => let ⟨⟨old, he⟩, ⟨o, ho, r⟩, hne⟩ := st; ⟨⟨old, k e (by simp) _ he⟩, ⟨o, k it (by simp) o ho, r⟩, hne⟩
  item := by
    intro X hP hw hK hc i pins s σ H E I hf st hg
    subst hP hw hK
    obtain ⟨⟨old, he⟩, hit, hne⟩ := st
    obtain ⟨xs, x, hq, hx⟩ := hg
    obtain ⟨us, rv, hT, _⟩ := I.tuple hq
    obtain ⟨u, hu, ru⟩ := rv.get hx
    have el : e < s.heap.objs.size := Heap.lt_size he
    have il : it < s.heap.objs.size := by obtain ⟨_, q, _⟩ := hit; exact Heap.lt_size q
    have D : Draws X.prog X.w X.A.in1 it [it, a] us.toArray.size _ _ := draws_tup (by have := I.ok.hd hc; simpa using this) it a hai us.toArray
    refine wpAny_pyNext_enum_itemD D he ⟨hit, hT⟩ (by simpa using getL hu) hne (by simp; exact ⟨hne, hae.symm⟩) fun y h' tk hy ho hs hN hsz hk => ?_
    have ey : u = y := by
      have q : us.toArray[i]? = some y := hy
      rw [List.getElem?_toArray, hu] at q
      exact Option.some.inj q
    rw [← ey] at hN ho
    refine ⟨_, rfl, wpAny_letOwnedTupleGo_enum (s := { s with heap := h', toks := tk + 1 }) ho fun h'' he' sb => ?_⟩
    have hN2 := (sb.2 _ (Nat.ne_of_gt el)).trans hN
    have new : ObjOk X.prog X.w (upd H s.heap.objs.size (.tup [.int (i : Nat), x])) h'' s.heap.objs.size (.tup [.int (i : Nat), x]) :=
      ⟨by show 2 ≤ sizeLine; decide, [.int i tk, u], .cons ⟨_, rfl⟩ (.cons ru .nil), ⟨_, hN2, rfl, _, rfl⟩⟩
    have I1 : Inv X pins σ (upd H s.heap.objs.size (.tup [.int (i : Nat), x])) { s with heap := h'', toks := tk + 1 } :=
      I.turnedNew (ch := [e, it]) (fun b o hb q => (sb.2 b (fun z => hb (by simp [z]))).trans (hk b o (fun z => hb (by simp [z])) (fun z => hb (by simp [z])) q)) hf (Nat.le_refl _) new
    refine ⟨.ref s.heap.objs.size, _, I1, rfl, ⟨_, x, rfl, I.hok.fresh (Nat.le_refl _), rfl, fun ys hy => by rw [I.tuple_inj hy hq]; exact hx⟩, ⟨⟨u, ?_⟩, ?_, hne⟩, fun b hb => ?_⟩
    · rw [show ((i + 1 : Nat) : Int) = (i : Int) + 1 by omega]
      exact he'
    · obtain ⟨o, q1, q2⟩ := hs.1
      exact ⟨o, (sb.2 it hne.symm).trans q1, q2⟩
    · have lb : b < s.heap.objs.size := by
        rcases (by simpa using hb : b = e ∨ b = it) with z | z
        · exact z ▸ el
        · exact z ▸ il
      rw [upd_ne (Nat.ne_of_lt lb)]
      exact (hf b hb).1
  done := by
    intro X hP hw hK hc i pins s σ H E I hf st hg
    subst hP hw hK
    obtain ⟨⟨old, he⟩, hit, hne⟩ := st
    obtain ⟨xs, hq, hx⟩ := hg
    obtain ⟨us, rv, hT, _⟩ := I.tuple hq
    obtain ⟨f0, f1, f2, f3, f4, f5⟩ := hf it (by simp)
    have hl := rv.length
    have D : Draws X.prog X.w X.A.in1 it [it, a] i _ _ := draws_end (by have := I.ok.hd hc; simpa using this) it a i us.toArray (by simp; omega)
    refine wpAny_pyNext_enum_endD D he ⟨rfl, hit, hT⟩ fun h' eb => ⟨rfl, I.turned (t' := s.toks) (fun b o hb q => eb b o hb q) f0 f1 f3 f4 f5⟩
  self := fun A i s Q E st h => let ⟨⟨_, he⟩, _⟩ := st; wpAny_pyIter_enum he h
def iEnT (K : PySem.W.Frag) (ta : TA) : TI := fun σ H R => ta σ H fun vs H1 => ∃ a xs, vs = [.ref a] ∧ SqT K H1 a xs ∧ R (IteT K a) H1
theorem pi_enT {X : Cx} {e : Expr} {ta : TA} {p pos tpos : Pos} {elts : List Expr} {kk : Nat} (hg : Gl X "enumerate") (hm : X.mg "enumerate" = none) (ha : PA X [e] ta) (hs : starEach [e] X.env = [(false, eval e X.env)] := by rfl) :
    PI X (.Tuple elts kk tpos) (.Call (.Name "enumerate" p) [e] [] pos) (iEnT X.K ta) := by
  refine ⟨fun pins s σ H R I h => ?_⟩
  refine Call_ (ld_blt I hg hm boot_enumerate (PyProof.Rows.callWith_type1 (thn (ha.run pos pins s σ H _ I h) fun us s1 ⟨vs, H1, I1, r1, a, xs, ev, hq, q⟩ => ?_) hs rfl))
  subst ev
  cases r1 with
  | cons r rr =>
    cases rr
    cases r
    obtain ⟨its, rv, hT, hz⟩ := I1.tuple hq
    have la : a < s1.heap.objs.size := by obtain ⟨_, q, _⟩ := hT; exact Heap.lt_size q
    refine call_enT hT fun h' he hit hk => wpAny_pyIter_enum he ?_
    have I2 : Inv X pins σ H1 { s1 with heap := h' } := I1.kept (t' := s1.toks) hk
    refine ⟨s1.heap.objs.size + 1, [s1.heap.objs.size + 1, s1.heap.objs.size], _, _, H1, rfl, I2, turn_enT a (s1.heap.objs.size + 1) s1.heap.objs.size (Nat.ne_of_lt la) (Nat.ne_of_lt (Nat.lt_succ_of_lt la)), ⟨⟨.none, he⟩, hit, Nat.succ_ne_self _⟩, fun b hb => ?_, q⟩
    have hle : s1.heap.objs.size ≤ b := by
      rcases (by simpa using hb : b = s1.heap.objs.size + 1 ∨ b = s1.heap.objs.size) with z | z
      · rw [z]; exact Nat.le_succ _
      · rw [z]; exact Nat.le_refl _
    exact I1.fpOk hle (I1.hok.fresh hle)
theorem walk_enT {K : PySem.W.Frag} {a : Addr} {xs : List V} : Walk (IteT K a) xs.length (fun H => SqT K H a xs) (YPair (fun i => some (.int (i : Nat))) (fun i => xs[i]?)) :=
  ⟨fun i _ hi q => ⟨xs, xs[i], q, by simp [hi]⟩, fun _ q => ⟨xs, q, Nat.le_refl _⟩, fun i H v H' _ q ⟨T, x, h1, h2, h3, h4⟩ => ⟨T, .int (i : Nat), x, h1, h2, h3, rfl, h4 xs q⟩⟩
section
variable {X : Cx} {a : Expr} {ta : TE} {ua : UE}
def uItET (ua : UE) : UA := fun ρ Φ => ua ρ fun ρ1 g => ∃ gs, g = .tup gs ∧ Φ ρ1 (enumG gs)
theorem gi_enT {elts : List Expr} {kk : Nat} {p pos tpos : Pos} (hg : Gl X "enumerate") (hm : X.mg "enumerate" = none) (ha : GE X a ta ua) (hs : starEach [a] X.env = [(false, eval a X.env)] := by rfl) : GI X (.Tuple elts kk tpos) (.Call (.Name "enumerate" p) [a] [] pos) (iEnT X.K (tCons ta tNil)) (uItET ua) :=
  ⟨pi_enT hg hm (pa_cons ha.pe pa_nil hs) hs, fun F h ρ Φ σ H S R q Rl k => ha.le F h ρ _ σ H S _ q Rl fun ρ1 g v H1 S1 ⟨gs, e, q1⟩ n1 R1 r1 => by
    subst e
    obtain ⟨p, vs, rfl, h1, h2⟩ := r1
    rw [h] at h1
    have st : ∀ {H2 S2}, Nxt S1 H1 S2 H2 → SqT X.K H2 p vs := fun n2 => by
      rcases h1 with h1 | h1
      · exact st_of (n2.t _ _ h1)
      · exact TupAt.sq (.inr h1)
    have hl := h2.len
    have w := walk_enT (K := X.K) (a := p) (xs := vs)
    refine ⟨p, vs, rfl, h1.sq, k ρ1 (enumG gs) _ H1 S1 q1 n1 R1 ⟨fun i H2 S2 hi n2 => ?_, fun H2 S2 n2 => ?_, fun i H2 S2 x H3 hi n2 y => ?_⟩⟩
    · exact w.goes i H2 (by rw [enumG_len] at hi; omega) (st n2)
    · have := w.stops H2 (st n2)
      rw [enumG_len, ← hl]
      exact this
    · rw [enumG_len] at hi
      obtain ⟨T, x1, x2, rfl, hT, rfl, e1, e2⟩ := w.yields i H2 x H3 (by omega) (st n2) y
      obtain ⟨g, e, r⟩ := h2.get e2
      cases e1
      exact ⟨same_new hT, .tup [.int (i : Nat), g], by rw [enumG_get, e]; rfl, rg_tup hT ⟨_, _, rfl, rfl, _, _, rfl, r.nx n2, rfl⟩⟩⟩
theorem v_itET {ρ : RS} {Θ : RS → List G → Prop} (q : ua ρ fun ρ1 g => ∃ gs, g = .tup gs ∧ Θ ρ1 (enumG gs)) : uItET ua ρ Θ := q
end
end Zn
/-! sorted(set(a list of ints)) -/
namespace Zn
open PySem PySem.Spec PyProof.Rows L2 TL
abbrev stO (w : World) : Obj := { cls := .type "set", dict := none, data := .set #[] 0 (.fresh 0 0 (!w.params.followText "set-order")) }
section
variable {P : Program} {w : World} {A : Around} {E : Value → Shared → Prop} {s : Shared}
set_option maxHeartbeats 3200000 in
theorem call_setL {l : Addr} {its : Array Value} (ns : List Int) {Q : Value → Shared → Prop} (hh : A.handled = none) (hl : s.heap.IsList l its) (hit : IntsAre its.toList ns) (hb : ns.length + 1 < scanBound)
    (h : ∀ (h' : Heap) (tk c : Nat), SetR w h' s.heap.objs.size (fun j => decide (j ∈ ns)) c → (∀ b o, s.heap.get? b = some o → h'.get? b = some o) → Q (.ref s.heap.objs.size) { s with heap := h', toks := tk }) :
    wpAny (model P w) A (call (.type "set") [.ref l]) Q E s := by
  have zi : its.size = ns.length := by rw [← Array.length_toList]; exact IntsAre.length hit
  obtain ⟨c0, t0, m0⟩ := F.called_set.mro
  have m1 := F.called_set.made
  have m2 := F.called_set.sub
  have m3 := F.called_set.notType
  have m4 := F.called_set.canCreate
  have m5 := F.typeCall_set_1 (.ref l)
  refine wpAny_call (codeAny_of_tree (by
    show wpAny _ _ (callAny (.type "set") _) _ _ _
    refine wpAny_pure ⟨Code.quiet_builtin _ (by decide +kernel), codeAny_builtin F.entry_type_call (by
      rw [Around.under_plain (weight_type_call_type "set" [.ref l] []) rfl]
      repeat (any_goals (first | assumption | wp_step))
      refine codeAny_mono (code_set_led1 (.ref l) (E := E) (Q₁ := fun v z => v = .ref s.heap.objs.size ∧ z = { s with heap := s.heap.push (stO w) }) ⟨rfl, rfl⟩) fun r z hr => ?_
      rcases r with e | fl
      · exact hr
      rcases fl with _ | _ | _ | v
      all_goals first | exact hr.elim | skip
      obtain ⟨rfl, rfl⟩ := hr
      have g0 : (s.heap.push (stO w)).get? s.heap.objs.size = some (stO w) := Heap.get?_push_size _ rfl
      have g1 : Shared.TypeIs { s with heap := s.heap.push (stO w) } (.ref s.heap.objs.size) "set" := ⟨_, g0, rfl⟩
      have g2 := F.called_set.init.lookup
      have g3 := F.called_set.init.bind (.ref s.heap.objs.size)
      repeat (any_goals (first | assumption | wp_step))
      refine codeAny_mono (codeAny_call_builtin (R := wants (fun r z => r = .none ∧ ∃ h' tk c, z = { s with heap := h', toks := tk } ∧ SetR w h' s.heap.objs.size (fun j => decide (j ∈ ns)) c ∧ ∀ b o, s.heap.get? b = some o → h'.get? b = some o) E)
        F.called_set.init.plain F.entry_set_init (check_set_init_1 g1 ?_)) fun r z hr => ?_
      · obtain ⟨⟨c, dt, da, sl⟩, hol, hc, n, hd⟩ := hl
        cases (show c = .type "list" from hc)
        cases (show da = .seq its n from hd)
        have hol' : (s.heap.push (stO w)).get? l = some { cls := .type "list", dict := dt, data := .seq its n, slots := sl } := Heap.get?_push_of_some _ hol
        have k1 := F.sub_list_set
        have k2 := F.sub_list_frozenset
        have k3 : (Value.type "list" == Value.type "dict") = false := by decide
        have k4 : (s.heap.push (stO w)).IsList l its := ⟨_, hol', rfl, n, rfl⟩
        unfold Builtin.«set.__init__» noKeywords Builtin.Frozenset.updateFrom
        generalize hPI : pyIter = PI
        wp_walk
        subst hPI
        refine wpAny_pyIter_list k4 (wpAny_bind (wpAny_runValue ?_))
        have ls : l < s.heap.objs.size := Heap.lt_size hol
        have zs : (s.heap.push (stO w)).objs.size = s.heap.objs.size + 1 := Heap.size_push ..
        have nl : l ≠ (s.heap.push (stO w)).objs.size := by rw [zs]; exact Nat.ne_of_lt (Nat.lt_succ_of_lt ls)
        have nf : s.heap.objs.size ∉ [(s.heap.push (stO w)).objs.size, l] := by
          rw [zs, List.mem_cons, List.mem_singleton]
          exact fun z => z.elim (Nat.ne_of_lt (Nat.lt_succ_self _)) (Nat.ne_of_gt ls)
        have at_ : ∀ (i : Nat) (v : Value), its[i]? = some v → ∃ k t, ns[i]? = some k ∧ v = .int k t := fun i v hv => by
          have hi : i < ns.length := zi ▸ (Array.getElem?_eq_some_iff.mp hv).1
          obtain ⟨t, e⟩ := PyProof.Rows.IntsAre.int_at hit i v (by rw [Array.getElem?_toList]; exact hv)
          exact ⟨ns[i], t, List.getElem?_eq_getElem hi, by rw [e, List.getD_eq_getElem?_getD, List.getElem?_eq_getElem hi] <;> rfl⟩
        refine set_update_ints ((Walks.list (by simp [hh]) _ l nl its).toS) _ nf ns zi hb at_ (its.size - 0) 0 _ (by omega) (Nat.zero_le _) ⟨⟨_, Heap.get?_push_size _ rfl, rfl, rfl⟩, k4.push _⟩ ⟨0, Nat.le_refl 0, setR_new_at (Heap.get?_push_of_some _ g0)⟩ fun z c hm _ hS => ?_
        obtain ⟨h', g', d', t', o'⟩ := z
        cases (show g' = s.gens from hm.gens)
        cases (show d' = s.drawn from hm.drawn)
        cases (show o' = s.os from hm.os)
        show wpAny _ _ _ _ _ _
        refine wpAny_pure ?_
        show wpAny _ _ (ret Value.none) _ _ _
        refine wpAny_pure ⟨rfl, h', t', c, rfl, hS, fun b o e => hm.heap b o ?_ (Heap.get?_push_of_some _ (Heap.get?_push_of_some _ e))⟩
        have hb0 : b < s.heap.objs.size := Heap.lt_size e
        rw [List.mem_cons, List.mem_singleton, zs]
        exact fun z => z.elim (Nat.ne_of_lt hb0) (Nat.ne_of_lt (Nat.lt_succ_of_lt hb0))
      · rcases r with e | fl
        · exact hr
        rcases fl with _ | _ | _ | v
        all_goals first | exact hr.elim | skip
        obtain ⟨rfl, h', tk, c, rfl, hS, hk⟩ := hr
        repeat (any_goals (first | assumption | wp_step))
        exact h _ _ _ hS hk)⟩))
end
end Zn
/-! sorted(set(e)); d.get(k, z) -/
namespace Zn
open PySem PySem.Spec PyProof.Rows L2 TL
theorem nodup_len : ∀ {l ms : List Int}, l.Nodup → (∀ x ∈ l, x ∈ ms) → l.length ≤ ms.length
  | [], _, _, _ => Nat.zero_le _
  | x :: l, ms, d, h => by
    obtain ⟨d1, d2⟩ := List.nodup_cons.mp d
    have hx := h x List.mem_cons_self
    have r := nodup_len (l := l) (ms := ms.erase x) d2 fun y hy => (List.mem_erase_of_ne (fun z : y = x => d1 (by rw [← z]; exact hy))).mpr (h y (List.mem_cons_of_mem _ hy))
    rw [List.length_erase_of_mem hx] at r
    have := List.length_pos_of_mem hx
    rw [List.length_cons]
    omega
theorem setR_le {w : World} {h : Heap} {a : Addr} {ns ms : List Int} {c : Nat} (R : SetR w h a (fun j => decide (j ∈ ns)) c) (hm : ∀ j ∈ ns, j ∈ ms) : c ≤ ms.length := by
  obtain ⟨o, es, ep, t, _, _, _, _, nd, hs, _, _, hn, _⟩ := R
  rw [← hn, ← Array.length_toList, ← List.length_map (f := keyOf)]
  exact nodup_len nd fun x hx => hm x (of_decide_eq_true ((hs x).2 hx))
def rSetLi (K : PySem.W.Frag) (w : World) : List V → Hp → VK → Prop := fun vs H Q => ∃ (a : Addr) (ns ms : List Int), vs = [V.ref a] ∧ SqL K H a (ns.map V.int) ∧ ns.length ≤ 4000 ∧ (∀ j ∈ ns, j ∈ ms) ∧
  ∀ (p : Addr) (c : Nat), H p = none → c ≤ ms.length → Q (.ref p) (upd H p (SetO w p (fun j => decide (j ∈ ns)) c))
section
variable {X : Cx}
theorem cr_setLi (hc : X.calm = true) : CallR X (.type "set") (rSetLi X.K X.w) := by
  intro pins s σ H vs us Q I r h
  obtain ⟨a, ns, ms, rfl, hs, hl, hm, q⟩ := h
  obtain ⟨its, rv, hp, hz⟩ := I.list hs
  rw [Vals.ref1 r]
  refine call_setL (its := its.toArray) ns (I.ok.hd hc) hp.isList rv.ints (Nat.lt_of_le_of_lt (Nat.succ_le_succ hl) (by decide)) fun h' tk c R k => ?_
  exact ⟨.ref _, upd H s.heap.objs.size (SetO X.w s.heap.objs.size (fun j => decide (j ∈ ns)) c), I.laid (t' := tk) k (Nat.le_refl _) (setO_new R), rfl, q _ _ (I.hok.fresh (Nat.le_refl _)) (setR_le R hm)⟩
end
def ucSset : G → (G → Prop) → Prop := fun g Φ => ∃ ns ms : List Int, g = .lst (ns.map G.int) ∧ ns.length ≤ 4000 ∧ (∀ j ∈ ns, j ∈ ms) ∧ ms.length < 64 ∧
  ∀ ks : List Int, ks.Pairwise (· < ·) → (∀ k : Int, k ∈ ks ↔ k ∈ ns) → Φ (.lst (ks.map G.int))
section
variable {X : Cx} {K : PySem.W.Frag} {w : World} {a e f o : Expr} {ta td ty tx : TE} {ua ud uy ux : UE} {pos : Pos}
theorem k_sset {p p2 pos2 : Pos} (hc : X.calm = true) (hg : Gl X "sorted") (hm : X.mg "sorted" = none) (hg2 : Gl X "set") (hm2 : X.mg "set" = none) (ha : GB X a ta ua)
    (he : starEach [a] X.env = (false, eval a X.env) :: starEach [] X.env := by rfl)
    (he2 : starEach [.Call (.Name "set" p2) [a] [] pos2] X.env = (false, eval (.Call (.Name "set" p2) [a] [] pos2) X.env) :: starEach [] X.env := by rfl) (hk : X.K = K := by rfl) (hw : X.w = w := by rfl) :
    GN X (.Call (.Name "sorted" p) [.Call (.Name "set" p2) [a] [] pos2] [] pos) (tCB (rSortedSet w) (tCons (tCB (rSetLi K w) (tCons ta tNil)) tNil)) (u1 ucSset ua) := by
  subst hk
  subst hw
  refine ⟨pe_callB (cr_sortedSet hc) hg hm (by decide +kernel) (pa_cons (pe_callTy (cr_setLi hc) hg2 hm2 boot_set (pa_cons ha.pe pa_nil he) (by decide) (by decide) he rfl) pa_nil he2) (by decide) (by decide) he2 rfl, fun F k ρ Φ σ H S Q q R j => ?_⟩
  refine ha.le F k ρ _ σ H S _ q R fun ρ1 g v H1 S1 ⟨ns, ms, e, hl, hm, h64, q1⟩ n1 R1 r1 => ?_
  subst e
  obtain ⟨p, vs, rfl, h1, h2⟩ := r1.lst
  cases h2.ints
  refine ⟨p, ns, ms, rfl, sl_of h1, hl, hm, fun P c hP hc' => ?_⟩
  refine ⟨P, _, c, rfl, upd_same, by omega, fun ks L hs hk' hl' hL => ?_⟩
  obtain ⟨R2, n2⟩ := R1.same (same_new (o := SetO X.w P (fun j => decide (j ∈ ns)) c) hP)
  obtain ⟨n3, R3, r3, fr⟩ := new_lst (g := .lst (ks.map G.int)) R2 hL ⟨_, rfl, RgL.of_ints⟩
  exact j ρ1 _ L _ _ _ (q1 ks hs fun k => by rw [hk' k]; exact ⟨of_decide_eq_true, decide_eq_true⟩) ((n1.trans n2).trans n3) R3 (.inr rfl) upd_same r3 fr
/-- what stands under a key -/
def getK : List L2.Key → List G → L2.Key → Option G
  | k :: ks, g :: gs, j => if k = j then some g else getK ks gs j
  | _, _, _ => none
theorem getK_val {W : Wd} {S : AS} {H : Hp} {j : L2.Key} : ∀ {ks : List L2.Key} {gs : List G} {vs : List V}, ks.length = gs.length → RgL W S H gs vs →
    (∃ g v, getK ks gs j = some g ∧ valV (ks.zip vs) j = some v ∧ Rg W S H g v) ∨ (getK ks gs j = none ∧ valV (ks.zip vs) j = none)
  | [], [], vs, _, h => by cases h; exact .inr ⟨rfl, rfl⟩
  | k :: ks, g :: gs, vs, l, h => by
    obtain ⟨v, ws, rfl, h1, h2⟩ := h
    by_cases e : k = j
    · exact .inl ⟨g, v, by unfold getK; rw [if_pos e], valV_pos (p := (k, v)) (r := ks.zip ws) e, h1⟩
    · rcases getK_val (j := j) (by simpa using l) h2 with ⟨g', v', a1, a2, a3⟩ | ⟨a1, a2⟩
      · exact .inl ⟨g', v', by unfold getK; rw [if_neg e]; exact a1, (valV_neg (p := (k, v)) (r := ks.zip ws) e).trans a2, a3⟩
      · exact .inr ⟨by unfold getK; rw [if_neg e]; exact a1, (valV_neg (p := (k, v)) (r := ks.zip ws) e).trans a2⟩
  | [], _ :: _, _, l, _ => by simp at l
  | _ :: _, [], _, l, _ => by simp at l
def keyG : L2.Key → G
  | .inl i => .int i
  | .inr s => .str s
theorem rg_key {W : Wd} {S : AS} {H : Hp} {k : L2.Key} {v : V} (h : Rg W S H (keyG k) v) : v = kV k := by
  cases k <;> exact h
/-- d.get(k, z), of a dict that stands still -/
def uDGet2 (ud uy ux : UE) : UE := fun ρ Φ => ud ρ fun ρ1 d => ∃ ks gs, d = .dK ks gs ∧ uy ρ1 fun ρ2 y => ∃ k, y = keyG k ∧ ux ρ2 fun ρ3 z => Φ ρ3 ((getK ks gs k).getD z)
theorem k_dget2 {apos : Pos} (hu : X.A.units + 1 < cLine) (ho : GE X o td ud) (he : GE X e ty uy) (hf : GE X f tx ux)
    (hb : attributeBase o "get" X.env (eval o X.env) = eval o X.env := by rfl)
    (hw : ((backTo pos (starEach [e, f] X.env)).all (fun x => !x.1) && (backToKw pos (keywordEach [] X.env)).all (fun x => x.1.isSome) && decide (([e, f] : List Expr).length + ([] : List Keyword).length + (if ([] : List Keyword).isEmpty then 0 else 1) < 30)) = true := by rfl)
    (hl : (apos.endLine == pos.line) = true := by rfl) (hs : backTo pos (starEach [e, f] X.env) = [(false, eval e X.env), (false, eval f X.env)] := by rfl) :
    GE X (.Call (.Attribute o "get" apos) [e, f] [] pos) (tDGet2 td ty tx) (uDGet2 ud uy ux) :=
  ⟨pe_dget2 hu ho.pe he.pe hf.pe ⟨hb, hw, hl, hs⟩, fun F h ρ Φ σ H S Q q R j => ho.le F h ρ _ σ H S _ q R fun ρ1 d v H1 S1 ⟨ks, gs, ed, q1⟩ n1 R1 r1 => by
    subst ed
    obtain ⟨p, vs, rfl, k1, k2, k3, k4⟩ := r1
    refine ⟨p, rfl, .inl ⟨_, k2⟩, he.le F h ρ1 _ σ H1 S1 _ q1 R1 fun ρ2 y vy H2 S2 ⟨k, ey, q2⟩ n2 R2 r2 => ?_⟩
    subst ey
    cases rg_key r2
    refine hf.le F h ρ2 _ σ H2 S2 _ q2 R2 fun ρ3 z vz H3 S3 q3 n3 R3 r3 => ?_
    have n23 := n2.trans n3
    have k2' : Rd H3 p (.dK (ks.zip vs)) := n23.rd k2 k1
    refine ⟨valV (ks.zip vs) k, .inl ⟨_, _, k2', rfl, rfl⟩, ?_⟩
    rcases getK_val (j := k) k3 (k4.nx n23) with ⟨g, v, a1, a2, a3⟩ | ⟨a1, a2⟩
    · rw [a1] at q3
      rw [a2]
      exact j ρ3 g v H3 S3 q3 (n1.trans n23) R3 a3
    · rw [a1] at q3
      rw [a2]
      exact j ρ3 z vz H3 S3 q3 (n1.trans n23) R3 r3⟩
end
end Zn
/-! a dict of lists, filled by setdefault and append -/
namespace Zn
open PySem PySem.Spec PyProof.Rows L2 TL
abbrev esD (es : List (Int × Addr)) : List (L2.Key × V) := es.map fun e => (.inl e.1, V.ref e.2)
/-- how it stands within the loops: H0 ahead, D the dict, pos what each key has -/
structure Held (H0 : Hp) (D : Addr) (pos : Int → List Int) (c : Nat) (es : List (Int × Addr)) (H : Hp) : Prop where
  same : Same H0 H
  d : H D = some (.dK (esD es))
  nk : (es.map (·.1)).Nodup
  na : (es.map (·.2)).Nodup
  cell : ∀ e ∈ es, H0 e.2 = none ∧ e.2 ≠ D ∧ H e.2 = some (.lst ((pos e.1).map V.int)) ∧ pos e.1 ≠ []
  all : ∀ n, pos n ≠ [] → n ∈ es.map (·.1)
  len : es.length ≤ c
  lp : ∀ n, (pos n).length ≤ c
theorem esD_val {n : Int} : ∀ {es : List (Int × Addr)}, (es.map (·.1)).Nodup → (∃ q, (n, q) ∈ es ∧ valV (esD es) (.inl n) = some (.ref q)) ∨ (n ∉ es.map (·.1) ∧ valV (esD es) (.inl n) = none)
  | [], _ => .inr ⟨by simp, rfl⟩
  | e :: es, d => by
    obtain ⟨d1, d2⟩ := List.nodup_cons.mp d
    by_cases z : e.1 = n
    · exact .inl ⟨e.2, by rw [← z]; exact List.mem_cons_self, valV_pos (p := ((.inl e.1 : L2.Key), V.ref e.2)) (r := esD es) (by rw [z])⟩
    · have hne : ¬ (.inl e.1 : L2.Key) = .inl n := fun h => z (by cases h; rfl)
      rcases esD_val (n := n) d2 with ⟨q, h1, h2⟩ | ⟨h1, h2⟩
      · exact .inl ⟨q, List.mem_cons_of_mem _ h1, (valV_neg (p := ((.inl e.1 : L2.Key), V.ref e.2)) (r := esD es) hne).trans h2⟩
      · refine .inr ⟨fun m => ?_, (valV_neg (p := ((.inl e.1 : L2.Key), V.ref e.2)) (r := esD es) hne).trans h2⟩
        rw [List.map_cons, List.mem_cons] at m
        exact m.elim (fun k => z k.symm) h1
def posUp (pos : Int → List Int) (n a : Int) : Int → List Int := fun m => if m = n then pos n ++ [a] else pos m
section
variable {H0 H : Hp} {D : Addr} {pos : Int → List Int} {c : Nat} {es : List (Int × Addr)}
theorem Held.more (h : Held H0 D pos c es H) {c' : Nat} (hc : c ≤ c') : Held H0 D pos c' es H := ⟨h.same, h.d, h.nk, h.na, h.cell, h.all, Nat.le_trans h.len hc, fun n => Nat.le_trans (h.lp n) hc⟩
theorem Held.grow (h : Held H0 D pos c es H) {T : Addr} {o : HO} (hT : H T = none) : Held H0 D pos c es (upd H T o) :=
  ⟨fun b u e => same_new hT _ _ (h.same b u e), same_new hT _ _ h.d, h.nk, h.na, fun e he => let ⟨a, b, k, z⟩ := h.cell e he; ⟨a, b, same_new hT _ _ k, z⟩, h.all, h.len, h.lp⟩
theorem snd_inj : ∀ {es : List (Int × Addr)}, (es.map (·.2)).Nodup → ∀ {e e' : Int × Addr}, e ∈ es → e' ∈ es → e.2 = e'.2 → e = e'
  | x :: es, d, e, e', h, h', q => by
    obtain ⟨d1, d2⟩ := List.nodup_cons.mp d
    rcases List.mem_cons.mp h with u | u
    · rcases List.mem_cons.mp h' with u' | u'
      · rw [u, u']
      · exact (d1 (by rw [← u, show (fun z : Int × Addr => z.2) e = e'.2 from q]; exact List.mem_map_of_mem u')).elim
    · rcases List.mem_cons.mp h' with u' | u'
      · exact (d1 (by rw [← u', show (fun z : Int × Addr => z.2) e' = e.2 from q.symm]; exact List.mem_map_of_mem u)).elim
      · exact snd_inj d2 u u' q
/-- the list under a key that is there grows -/
theorem Held.old (h : Held H0 D pos c es H) {n a : Int} {q : Addr} (hq : (n, q) ∈ es) : Held H0 D (posUp pos n a) (c + 1) es (upd H q (.lst ((pos n ++ [a]).map V.int))) := by
  obtain ⟨c1, c2, c3, c4⟩ := h.cell _ hq
  refine ⟨fun b u e => ?_, by rw [upd_ne c2.symm]; exact h.d, h.nk, h.na, fun e he => ?_, fun m hm => ?_, Nat.le_succ_of_le h.len, fun m => ?_⟩
  · rw [upd_ne (fun z => by rw [z, show H0 q = none from c1] at e; cases e)]
    exact h.same b u e
  · obtain ⟨k1, k2, k3, k4⟩ := h.cell e he
    unfold posUp
    by_cases z : e.2 = q
    · have ee := snd_inj h.na he hq z
      subst ee
      exact ⟨k1, k2, by rw [z, upd_same, if_pos rfl], by rw [if_pos rfl]; simp⟩
    · have ne : e.1 ≠ n := fun y => by
        have h2 : (es.map (·.1)).Nodup := h.nk
        obtain ⟨i, hi⟩ := List.mem_iff_getElem?.mp he
        obtain ⟨j, hj⟩ := List.mem_iff_getElem?.mp hq
        have e1 : (es.map (·.1))[i]? = some n := by rw [List.getElem?_map, hi, ← y]; rfl
        have e2 : (es.map (·.1))[j]? = some n := by rw [List.getElem?_map, hj]; rfl
        have li := getL e1
        have := (List.getElem?_inj li h2).mp (e1.trans e2.symm)
        rw [this, hj] at hi
        cases hi
        exact z rfl
      refine ⟨k1, k2, by rw [upd_ne z, if_neg ne]; exact k3, by rw [if_neg ne]; exact k4⟩
  · unfold posUp at hm
    by_cases z : m = n
    · rw [z]
      exact List.mem_map.mpr ⟨_, hq, rfl⟩
    · rw [if_neg z] at hm
      exact h.all m hm
  · unfold posUp
    have := h.lp n
    have := h.lp m
    split
    · rw [List.length_append, List.length_singleton]; omega
    · omega
/-- a new key -/
theorem Held.new (h : Held H0 D pos c es H) {n a : Int} {q : Addr} (hD : H0 D = none) (hn : n ∉ es.map (·.1)) (hq : H q = none) :
    Held H0 D (posUp pos n a) (c + 1) (es ++ [(n, q)]) (upd (upd (upd H q (.lst [])) D (.dK (esD (es ++ [(n, q)])))) q (.lst [V.int a])) := by
  have p0 : pos n = [] := Classical.byContradiction fun z => hn (h.all n z)
  have h0q : H0 q = none := by
    cases e : H0 q with
    | none => rfl
    | some u => rw [h.same q u e] at hq; cases hq
  have qD : q ≠ D := fun z => by rw [z, h.d] at hq; cases hq
  refine ⟨fun b u e => ?_, by rw [upd_ne qD.symm, upd_same], ?_, ?_, fun e he => ?_, fun m hm => ?_, by rw [List.length_append]; exact Nat.succ_le_succ h.len, fun m => ?_⟩
  · rw [upd_ne (fun z => by rw [z, h0q] at e; cases e), upd_ne (fun z => by rw [z, hD] at e; cases e), upd_ne (fun z => by rw [z, h0q] at e; cases e)]
    exact h.same b u e
  · rw [List.map_append]
    refine List.nodup_append.mpr ⟨h.nk, by simp, fun x hx y hy => ?_⟩
    rw [List.map_cons, List.map_nil, List.mem_singleton] at hy
    exact fun z => hn (by rw [← (show y = n from hy), ← z]; exact hx)
  · rw [List.map_append]
    refine List.nodup_append.mpr ⟨h.na, by simp, fun x hx y hy => ?_⟩
    rw [List.map_cons, List.map_nil, List.mem_singleton] at hy
    intro z
    obtain ⟨e, he, ee⟩ := List.mem_map.mp hx
    have := (h.cell e he).2.2.1
    rw [ee, z, hy, hq] at this
    cases this
  · unfold posUp
    rcases List.mem_append.mp he with he | he
    · obtain ⟨k1, k2, k3, k4⟩ := h.cell e he
      have ne : e.1 ≠ n := fun z => hn (by rw [← z]; exact List.mem_map_of_mem he)
      have nq : e.2 ≠ q := fun z => by rw [z, hq] at k3; cases k3
      exact ⟨k1, k2, by rw [upd_ne nq, upd_ne k2, upd_ne nq, if_neg ne]; exact k3, by rw [if_neg ne]; exact k4⟩
    · cases List.mem_singleton.mp he
      exact ⟨h0q, qD, by rw [upd_same, if_pos rfl, p0]; rfl, by rw [if_pos rfl]; simp⟩
  · unfold posUp at hm
    rw [List.map_append, List.mem_append]
    by_cases z : m = n
    · exact .inr (by rw [z]; simp)
    · rw [if_neg z] at hm
      exact .inl (h.all m hm)
  · unfold posUp
    have := h.lp n
    have := h.lp m
    split
    · rw [List.length_append, List.length_singleton]; omega
    · omega
end
abbrev tHold2 (K : PySem.W.Frag) (is ih iat ione inum : Nat) : TS :=
  tFor (iEnT K (tCons (tVar is) tNil)) (gTup K 2 (gCons (gName iat) (gCons (gName ione) gNil)))
    (tFor (iTup K (tVar ione)) (gName inum) (tDrop (tBM K "list" rAppend (tDSetd (tVar ih) (tVar inum) (tLst tNil)) (tCons (tVar iat) tNil))))
/-- where n stands in the rows -/
def posT (nss : List (List Int)) (k i : Nat) (n : Int) : List Int :=
  ((List.range k).flatMap fun a : Nat => ((nss[a]?.getD []).filter fun x => decide (x = n)).map fun _ => Int.ofNat a) ++ (((nss[k]?.getD []).take i).filter fun x => decide (x = n)).map fun _ => Int.ofNat k
theorem posT_step {nss : List (List Int)} {k i : Nat} {ns : List Int} {m : Int} (hk : nss[k]? = some ns) (hi : ns[i]? = some m) : posT nss k (i + 1) = posUp (posT nss k i) m k := by
  funext n
  unfold posUp posT
  rw [hk, Option.getD_some, List.take_add_one, hi, List.filter_append, List.map_append]
  by_cases z : n = m
  · rw [if_pos z, z]
    simp
  · rw [if_neg z]
    simp [show ¬ m = n from fun y => z y.symm]
theorem posT_row {nss : List (List Int)} {k : Nat} {ns : List Int} (hk : nss[k]? = some ns) : posT nss k ns.length = posT nss (k + 1) 0 := by
  funext n
  unfold posT
  rw [hk, Option.getD_some, List.take_length, List.range_succ, List.flatMap_append]
  simp [hk]
theorem posT_zero {nss : List (List Int)} : posT nss 0 0 = fun _ => [] := by
  funext n
  simp [posT]
abbrev rowG (ns : List Int) : G := .tup (ns.map G.int)
def uHold (is ih iat ione inum : Nat) (w : US) : US := fun B ρ => ∃ nss : List (List Int), ρ[is]? = some (.fz (.tup (nss.map rowG))) ∧ nss.length ≤ 40 ∧ (∀ ns ∈ nss, ns.length ≤ 2000) ∧
  (is ≠ ih ∧ is ≠ iat ∧ is ≠ ione ∧ is ≠ inum ∧ ih ≠ iat ∧ ih ≠ ione ∧ ih ≠ inum ∧ iat ≠ ione ∧ iat ≠ inum ∧ ione ≠ inum ∧ ih < ρ.length ∧ iat < ρ.length ∧ ione < ρ.length ∧ inum < ρ.length) ∧
  ∀ (ks : List L2.Key) (gs : List G), ks.length = gs.length → (∀ n : Int, getK ks gs (.inl n) = if posT nss nss.length 0 n = [] then none else some (.lst ((posT nss nss.length 0 n).map G.int))) → (∃ es : List Int, ks = es.map (fun n => (Sum.inl n : L2.Key)) ∧ es.Nodup) →
    w B ((((ρ.set iat .un).set ione .un).set inum .un).set ih (.fz (.dK ks gs)))
theorem get_rows {W : Wd} {S : AS} {H : Hp} : ∀ {nss : List (List Int)} {vs : List V}, RgL W S H (nss.map rowG) vs → ∀ {i : Nat} {ns : List Int}, nss[i]? = some ns → ∃ q, vs[i]? = some (.ref q) ∧ TupAt W.K H q (ns.map V.int) := fun {nss vs} h {i ns} e => by
  obtain ⟨v, hv, p, us, rfl, ht, hs⟩ := h.get' (i := i) (g := rowG ns) (by rw [List.getElem?_map, e]; rfl)
  cases hs.ints
  exact ⟨p, hv, ht⟩
theorem es_getK {pos : Int → List Int} {n : Int} : ∀ {es : List (Int × Addr)}, (es.map (·.1)).Nodup → (∀ e ∈ es, pos e.1 ≠ []) → (pos n ≠ [] → n ∈ es.map (·.1)) →
    getK (es.map fun e => (.inl e.1 : L2.Key)) (es.map fun e => G.lst ((pos e.1).map G.int)) (.inl n) = if pos n = [] then none else some (.lst ((pos n).map G.int))
  | [], _, _, h => by
    rw [if_pos (Classical.byContradiction fun z => by have := h z; simp at this)]
    rfl
  | e :: es, d, hp, h => by
    obtain ⟨d1, d2⟩ := List.nodup_cons.mp d
    rw [List.map_cons, List.map_cons]
    unfold getK
    by_cases z : e.1 = n
    · rw [if_pos (by rw [z]), ← z, if_neg (hp e List.mem_cons_self)]
    · rw [if_neg (fun y => z (by cases y; rfl))]
      refine es_getK d2 (fun e he => hp e (List.mem_cons_of_mem _ he)) fun y => ?_
      have m := h y
      rw [List.map_cons, List.mem_cons] at m
      exact m.elim (fun k => (z k.symm).elim) id
theorem es_rg {W : Wd} {S : AS} {H : Hp} {pos : Int → List Int} : ∀ {es : List (Int × Addr)}, (∀ e ∈ es, ¬ S e.2 ∧ H e.2 = some (.lst ((pos e.1).map V.int))) → RgL W S H (es.map fun e => G.lst ((pos e.1).map G.int)) (es.map fun e => V.ref e.2)
  | [], _ => rfl
  | e :: es, h => ⟨_, _, rfl, ⟨e.2, _, rfl, (h e List.mem_cons_self).1, (h e List.mem_cons_self).2, RgL.of_ints⟩, es_rg fun e he => h e (List.mem_cons_of_mem _ he)⟩
theorem zip_es : ∀ es : List (Int × Addr), (es.map fun e => (.inl e.1 : L2.Key)).zip (es.map fun e => V.ref e.2) = esD es
  | [] => rfl
  | e :: es => by rw [List.map_cons, List.map_cons, List.zip_cons_cons, zip_es es]; rfl
theorem gss_hold {X : Cx} {K : PySem.W.Frag} {is ih iat ione inum : Nat} {s1 s2 : Stmt} {rest : List Stmt} {t : TS} {w : US} (h1 : PS X s1 (tAsg tDNewK (gName ih))) (h2 : PS X s2 (tHold2 K is ih iat ione inum)) (h3 : GSs X rest t w) (hK : X.K = K) :
    GSs X (s1 :: s2 :: rest) (tSeq (tAsg tDNewK (gName ih)) (tSeq (tHold2 K is ih iat ione inum) t)) (uHold is ih iat ione inum w) := ⟨pss_cons h1 (pss_cons h2 h3.pe), fun F k ρ B σ H S E hu R m => by
  obtain ⟨nss, hn, hl, hrow, ⟨z1, z2, z3, z4, z5, z6, z7, z8, z9, z10, l1, l2, l3, l4⟩, hw⟩ := hu
  obtain ⟨o, eo, v, rfl, P, vs, rfl, hP, hvs⟩ := R.sl is _ hn
  have lvs : vs.length = nss.length := by rw [hvs.len, List.length_map]
  have rows := fun {i ns} (e : nss[i]? = some ns) => get_rows hvs e
  rw [k, hK] at hP
  have rows : ∀ {i : Nat} {ns : List Int}, nss[i]? = some ns → ∃ q, vs[i]? = some (.ref q) ∧ TupAt K H q (ns.map V.int) := fun {i ns} e => by
    obtain ⟨q, a, b⟩ := rows e
    rw [k, hK] at b
    exact ⟨q, a, b⟩
  have up : ∀ {H' : Hp} {q : Addr} {xs : List V}, Same H H' → TupAt K H q xs → SqT K H' q xs := fun {H' q xs} s h => by
    rcases h with h | h
    · exact st_of (s _ _ h)
    · exact TupAt.sq (.inr h)
  refine r_seq (r_asg fun D hD => r_gname ?_)
  -- the slots within the loops
  have slots : ∃ Sl : L2.St → Prop, Sl (σ.set ih (some (.ref D))) ∧ (∀ σ', Sl σ' → σ'.length = σ.length ∧ σ'[ih]? = some (some (.ref D)) ∧ σ'[is]? = some (some (.ref P)) ∧ ∀ j, j ≠ ih → j ≠ iat → j ≠ ione → j ≠ inum → σ'[j]? = σ[j]?) ∧
      ∀ σ' j v, Sl σ' → j = iat ∨ j = ione ∨ j = inum → Sl (σ'.set j v) := by
    refine ⟨fun σ' => σ'.length = σ.length ∧ σ'[ih]? = some (some (.ref D)) ∧ σ'[is]? = some (some (.ref P)) ∧ ∀ j, j ≠ ih → j ≠ iat → j ≠ ione → j ≠ inum → σ'[j]? = σ[j]?,
      ⟨by rw [List.length_set], by rw [List.getElem?_set, if_pos rfl, if_pos (by rw [R.len]; exact l1)], by rw [set_get z1.symm]; exact eo, fun j h _ _ _ => set_get h.symm⟩, fun _ h => h, fun σ' j v ⟨a1, a2, a3, a4⟩ hj => ?_⟩
    have nih : j ≠ ih := by rcases hj with e | e | e <;> rw [e] <;> first | exact z5.symm | exact z6.symm | exact z7.symm
    have nis : j ≠ is := by rcases hj with e | e | e <;> rw [e] <;> first | exact z2.symm | exact z3.symm | exact z4.symm
    refine ⟨by rw [List.length_set, a1], by rw [set_get nih]; exact a2, by rw [set_get nis]; exact a3, fun i h1 h2 h3 h4 => ?_⟩
    rw [set_get]
    · exact a4 i h1 h2 h3 h4
    · rcases hj with e | e | e <;> rw [e] <;> first | exact h2.symm | exact h3.symm | exact h4.symm
  obtain ⟨Sl, s0, sl, su⟩ := slots
  have set_at' : ∀ {σ' : L2.St} {j : Nat} {v : Option V}, Sl σ' → j < ρ.length → (σ'.set j v)[j]? = some v := fun {σ' j v} h hj => by
    rw [List.getElem?_set, if_pos rfl, if_pos (by rw [(sl _ h).1, R.len]; exact hj)]
  have st0 : Held H D (posT nss 0 0) 0 [] (upd H D (.dK [])) := by
    rw [posT_zero]
    exact ⟨same_new hD, upd_same, by simp, by simp, fun e he => by simp at he, fun n hn => (hn rfl).elim, Nat.le_refl _, fun n => Nat.le_refl _⟩
  show tSeq (tHold2 K is ih iat ione inum) t E _ _
  refine r_seq (r_for ?_)
  refine r_cons (r_var (sl _ s0).2.2.1 (r_nil ⟨P, vs, rfl, up st0.same hP, ?_⟩))
  refine ⟨fun i mm σ' H' => mm = nss.length - i ∧ i ≤ nss.length ∧ Sl σ' ∧ ∃ es, Held H D (posT nss i 0) (i * 2000) es H', ⟨_, rfl, Nat.zero_le _, s0, [], by rw [Nat.zero_mul]; exact st0⟩, ?_⟩
  rintro i mm σ' H' ⟨rfl, hi, hS, es, hH⟩
  have wk := walk_enT (K := K) (a := P) (xs := vs)
  by_cases hlt : i < nss.length
  · refine .inr ⟨wk.goes i H' (by omega) (up hH.same hP), fun σ'' H'' => Sl σ'' ∧ ∃ es, Held H D (posT nss (i + 1) 0) ((i + 1) * 2000) es H'', fun σ'' H'' h => ⟨_, by omega, rfl, hlt, h⟩, fun x H2 y => ?_⟩
    obtain ⟨T, x1, x2, rfl, hT, rfl, e1, e2⟩ := wk.yields i H' x H2 (by omega) (up hH.same hP) y
    cases e1
    have en : nss[i]? = some nss[i] := List.getElem?_eq_getElem hlt
    obtain ⟨q, eq, hq⟩ := rows en
    have e2 : vs[i]? = some x2 := e2
    rw [e2] at eq
    cases eq
    have hH2 := hH.grow (o := .tup [.int (i : Nat), .ref q]) hT
    refine r_tupd (st_of upd_same) rfl (r_gcons (r_gname (r_gcons (r_gname (r_gnil ?_)))))
    have hS2 := su _ iat (some (.int (i : Nat))) hS (.inl rfl)
    have a2 := set_at' (v := some (.int (i : Nat))) hS l2
    have hS3 := su _ ione (some (.ref q)) hS2 (.inr (.inl rfl))
    have a3 := set_at' (v := some (.ref q)) hS2 l3
    have a2 : ((σ'.set iat (some (.int (i : Nat)))).set ione (some (.ref q)))[iat]? = some (some (.int (i : Nat))) := by rw [set_get z8.symm]; exact a2
    generalize (σ'.set iat (some (.int (i : Nat)))).set ione (some (.ref q)) = σ3 at *
    generalize upd H' T (.tup [.int (i : Nat), .ref q]) = H3 at *
    have hns : nss[i].length ≤ 2000 := hrow _ (List.getElem_mem hlt)
    generalize nss[i] = ns at *
    refine r_for (r_var a3 ⟨q, rfl, ⟨_, up hH2.same hq⟩, ?_⟩)
    refine ⟨fun j mj σ4 H4 => mj = ns.length - j ∧ j ≤ ns.length ∧ Sl σ4 ∧ σ4[iat]? = some (some (.int (i : Nat))) ∧ ∃ es, Held H D (posT nss i j) (i * 2000 + j) es H4, ⟨_, rfl, Nat.zero_le _, hS3, a2, es, hH2⟩, ?_⟩
    rintro j mj σ4 H4 ⟨rfl, hj, hS4, b2, es4, hH4⟩
    by_cases hlj : j < ns.length
    · refine .inr ⟨⟨_, V.int ns[j], up hH4.same hq, by rw [List.getElem?_map, List.getElem?_eq_getElem hlj]; rfl⟩, fun σ5 H5 => Sl σ5 ∧ σ5[iat]? = some (some (.int (i : Nat))) ∧ ∃ es, Held H D (posT nss i (j + 1)) (i * 2000 + (j + 1)) es H5, fun σ5 H5 h => ⟨_, by omega, rfl, hlj, h⟩, fun y H5 ⟨e5, y5⟩ => ?_⟩
      subst e5
      have ej : ns[j]? = some ns[j] := List.getElem?_eq_getElem hlj
      have y5 := y5 _ (up hH4.same hq)
      rw [List.getElem?_map, ej] at y5
      cases y5
      rw [posT_step en ej]
      generalize ns[j] = nn at *
      refine r_gname ?_
      have hS5 := su _ inum (some (.int nn)) hS4 (.inr (.inr rfl))
      have c4 := set_at' (v := some (.int nn)) hS4 l4
      have c2 : (σ4.set inum (some (.int nn)))[iat]? = some (some (.int (i : Nat))) := by rw [set_get z9.symm]; exact b2
      have big : i * 2000 + j < 100000 := by have : i < 40 := by omega
                                             have : j < 2000 := by omega
                                             omega
      refine r_drop (r_BM (r_var (sl _ hS5).2.1 ⟨D, rfl, .inl ⟨_, .inl hH4.d⟩, r_var c4 (r_tLst (r_nil (r_al (by decide) fun q5 hq5 => ?_)))⟩))
      have hH5 := hH4.grow (o := .lst []) hq5
      have le4 : (esD es4).length ≤ i * 2000 + j := by
        unfold esD
        rw [List.length_map]
        exact hH4.len
      refine ⟨esD es4, .inl nn, hH5.d, rfl, lt_line (Nat.lt_of_le_of_lt le4 big), fun vv hv => ?_, fun hv => ?_⟩
      · rcases esD_val (n := nn) hH5.nk with ⟨q6, m6, e6⟩ | ⟨_, e6⟩
        · rw [e6] at hv
          cases hv
          have cq := (hH5.cell _ m6).2.2.1
          refine ⟨.inl ⟨rfl, _, sl_of cq⟩, r_cons (r_var c2 (r_nil (r_append cq (lt_line (Nat.lt_of_le_of_lt (show ((posT nss i j nn).map V.int).length ≤ i * 2000 + j by rw [List.length_map]; exact hH5.lp nn) big)) ?_)))⟩
          have r := hH5.old (a := (i : Nat)) m6
          rw [List.map_append] at r
          exact ⟨hS5, c2, es4, r⟩
        · rw [e6] at hv
          cases hv
      · rcases esD_val (n := nn) hH5.nk with ⟨q6, m6, e6⟩ | ⟨m6, e6⟩
        · rw [e6] at hv
          cases hv
        · have pk : putK (esD es4) (.inl nn) (V.ref q5) = esD (es4 ++ [(nn, q5)]) := by
            rw [putK_new _ hv]
            show _ = (es4 ++ [(nn, q5)]).map _
            rw [List.map_append]
            rfl
          rw [pk]
          have qD : q5 ≠ D := fun z => by rw [z, hH4.d] at hq5; cases hq5
          have cq : upd (upd H5 q5 (.lst [])) D (.dK (esD (es4 ++ [(nn, q5)]))) q5 = some (.lst []) := by rw [upd_ne qD, upd_same]
          refine ⟨.inl ⟨rfl, _, sl_of cq⟩, r_cons (r_var c2 (r_nil (r_append cq (show ([] : List V).length < sizeLine by decide) ?_)))⟩
          exact ⟨hS5, c2, _, hH4.new (a := (i : Nat)) hD m6 hq5⟩
    · have e : j = ns.length := by omega
      subst e
      refine .inl ⟨⟨_, up hH4.same hq, by rw [List.length_map]; exact Nat.le_refl _⟩, hS4, es4, ?_⟩
      rw [posT_row en] at hH4
      exact hH4.more (by omega)
  · have e : i = nss.length := by omega
    subst e
    refine .inl ⟨by have r := wk.stops H' (up hH.same hP); rw [lvs] at r; exact r, ?_⟩
    obtain ⟨R1, n1⟩ := R.same hH.same
    have nS : ∀ p, H p = none → ¬ S p := fun p hp hs => R.dom p hs hp
    have rd : Rg F.toWd S H' (.dK (es.map fun e => (.inl e.1 : L2.Key)) (es.map fun e => G.lst ((posT nss nss.length 0 e.1).map G.int))) (.ref D) :=
      ⟨D, es.map fun e => V.ref e.2, rfl, nS D hD, by rw [zip_es]; exact .inl hH.d, by rw [List.length_map, List.length_map], es_rg fun e he => ⟨nS _ (hH.cell e he).1, (hH.cell e he).2.2.1⟩⟩
    have R2 := ((R1.forget (i := iat)).forget (i := ione)).forget (i := inum)
    have R3 := R2.setF (i := ih) rd
    have R4 : Rel F S ((((ρ.set iat .un).set ione .un).set inum .un).set ih (.fz (.dK (es.map fun e => (.inl e.1 : L2.Key)) (es.map fun e => G.lst ((posT nss nss.length 0 e.1).map G.int))))) σ' H' := by
      refine R3.slotU (by rw [(sl _ hS).1, List.length_set]) fun j s hj hs => ?_
      rcases set_at hj with ⟨e1, hj⟩ | ⟨e1, _, _⟩
      · rw [set_get e1]
        rcases set_at hj with ⟨e2, hj⟩ | ⟨_, e2, _⟩
        · rcases set_at hj with ⟨e3, hj⟩ | ⟨_, e3, _⟩
          · rcases set_at hj with ⟨e4, hj⟩ | ⟨_, e4, _⟩
            · exact (sl _ hS).2.2.2 j e1.symm e4.symm e3.symm e2.symm
            · subst e4
              obtain ⟨g, z | ⟨f, z⟩⟩ := hs <;> cases z
          · subst e3
            obtain ⟨g, z | ⟨f, z⟩⟩ := hs <;> cases z
        · subst e2
          obtain ⟨g, z | ⟨f, z⟩⟩ := hs <;> cases z
      · subst e1
        rw [(sl _ hS).2.1, List.getElem?_set, if_pos rfl, if_pos (by rw [R.len]; exact l1)]
    exact h3.le F k _ B σ' H' S E (hw _ _ (by rw [List.length_map, List.length_map]) (fun n => es_getK hH.nk (fun e he => (hH.cell e he).2.2.2) (hH.all n)) ⟨es.map (·.1), by rw [List.map_map]; rfl, hH.nk⟩) R4 (m.mono n1)⟩
end Zn
/-! steps for the newer rules -/
namespace Zn
open PySem PySem.Spec PyProof.Rows L2 TL
section
variable {X : Cx} {a : Expr} {ta : TE} {ua ud uy ux : UE} {w : US}
theorem k_itET (K : PySem.W.Frag) {elts : List Expr} {kk : Nat} {p pos tpos : Pos} (hg : Gl X "enumerate") (hm : X.mg "enumerate" = none) (ha : GE X a ta ua) (hs : starEach [a] X.env = [(false, eval a X.env)] := by rfl) (hk : X.K = K := by rfl) : GI X (.Tuple elts kk tpos) (.Call (.Name "enumerate" p) [a] [] pos) (iEnT K (tCons ta tNil)) (uItET ua) := by
  subst hk
  exact gi_enT hg hm ha hs
theorem v_dget2 {ρ : RS} {Φ : RS → G → Prop} (q : ud ρ fun ρ1 d => ∃ ks gs, d = .dK ks gs ∧ uy ρ1 fun ρ2 y => ∃ k, y = keyG k ∧ ux ρ2 fun ρ3 z => Φ ρ3 ((getK ks gs k).getD z)) : uDGet2 ud uy ux ρ Φ := q
theorem v_dk {ks : List L2.Key} {gs : List G} {R : List L2.Key → List G → Prop} (q : R ks gs) : ∃ ks' gs', G.dK ks gs = .dK ks' gs' ∧ R ks' gs' := ⟨ks, gs, rfl, q⟩
theorem v_ki {i : Int} {R : L2.Key → Prop} (q : R (.inl i)) : ∃ k, G.int i = keyG k ∧ R k := ⟨.inl i, rfl, q⟩
theorem v_ks {i : Str} {R : L2.Key → Prop} (q : R (.inr i)) : ∃ k, G.str i = keyG k ∧ R k := ⟨.inr i, rfl, q⟩
theorem v_sset {ns ms : List Int} {Φ : G → Prop} (l : ns.length ≤ 4000) (h : ∀ j ∈ ns, j ∈ ms) (h64 : ms.length < 64) (q : ∀ ks : List Int, ks.Pairwise (· < ·) → (∀ k : Int, k ∈ ks ↔ k ∈ ns) → Φ (.lst (ks.map G.int))) : ucSset (.lst (ns.map G.int)) Φ := ⟨ns, ms, rfl, l, h, h64, q⟩
end
end Zn
/-! a name that is one's own on one way and a still thing on another -/
namespace Zn
open PySem PySem.Spec PyProof.Rows L2 TL
section
variable {X : Cx} {pos : Pos} {ρ : RS} {Φ : RS → G → Prop} {i : Nat} {g : G}
def uMixF (i : Nat) : UE := fun ρ Φ => uVar i ρ Φ ∨ uFrz i ρ Φ
def uMixB (i : Nat) : UE := fun ρ Φ => uVar i ρ Φ ∨ uBor i ρ Φ
theorem gvMF (i : Nat) {x : Str} (hN : X.N[i]? = some x := by rfl) (hv : Vis X.env.scope x := by first | exact Or.inl rfl | exact Or.inr (Or.inl rfl) | exact Or.inr (Or.inr rfl)) (h1 : (x == ("__debug__" : Str)) = false := by decide) (h2 : (x == ("__classdict__" : Str)) = false := by decide) : GE X (.Name x pos) (tVar i) (uMixF i) :=
  ⟨pe_var hN hv h1 h2, fun F k ρ Φ σ H S Q q R j => q.elim (fun q => (gv (X := X) (pos := pos) i hN hv h1 h2).le F k ρ Φ σ H S Q q R j) fun q => le_frz ρ Φ σ H S Q q R j⟩
theorem gvMB (i : Nat) {x : Str} (hN : X.N[i]? = some x := by rfl) (hv : Vis X.env.scope x := by first | exact Or.inl rfl | exact Or.inr (Or.inl rfl) | exact Or.inr (Or.inr rfl)) (h1 : (x == ("__debug__" : Str)) = false := by decide) (h2 : (x == ("__classdict__" : Str)) = false := by decide) : GB X (.Name x pos) (tVar i) (uMixB i) :=
  ⟨pe_var hN hv h1 h2, fun F k ρ Φ σ H S Q q R j => q.elim (fun q => (gv (X := X) (pos := pos) i hN hv h1 h2).gb.le F k ρ Φ σ H S Q q R j) fun q => (gb_var (X := X) (pos := pos) hN hv h1 h2).le F k ρ Φ σ H S Q q R j⟩
theorem v_mF1 (h : ρ[i]? = some (.fz g)) (q : Φ ρ g) : uMixF i ρ Φ := .inl (v_var h q)
theorem v_mF2 (h : ρ[i]? = some (.ow true g)) (q : Φ (ρ.set i (.fz g)) g) : uMixF i ρ Φ := .inr (v_frz h q)
theorem v_mB1 (h : ρ[i]? = some (.fz g)) (q : Φ ρ g) : uMixB i ρ Φ := .inl (v_var h q)
theorem v_mB2 {f : Bool} (h : ρ[i]? = some (.ow f g)) (q : Φ ρ g) : uMixB i ρ Φ := .inr (v_bor h q)
end
end Zn
/-! x.extend(a tuple) -/
namespace Zn
open PySem PySem.Spec PyProof.Rows L2 TL
section
variable {X : Cx} {e : Expr} {t : TE} {u : UE} {pos : Pos}
def uExtT (i : Nat) (ue : UE) : UE := fun ρ Φ => ∃ f gs, ρ[i]? = some (.ow f (.lst gs)) ∧ ue ρ fun ρ1 y => ∃ f gs ys, ρ1[i]? = some (.ow f (.lst gs)) ∧ y = .tup ys ∧ gs.length + ys.length ≤ 100000 ∧ Φ (ρ1.set i (.ow f (.lst (gs ++ ys)))) .non
theorem k_extT (K : PySem.W.Frag) (i : Nat) {x : Str} {p1 p2 : Pos} (h : GE X e t u) (hN : X.N[i]? = some x := by rfl) (hv : Vis X.env.scope x := by first | exact Or.inl rfl | exact Or.inr (Or.inl rfl) | exact Or.inr (Or.inr rfl)) (hd : (x == ("__debug__" : Str)) = false := by decide) (hcd : (x == ("__classdict__" : Str)) = false := by decide)
    (hb : attributeBase (.Name x p1) "extend" X.env (eval (.Name x p1) X.env) = eval (.Name x p1) X.env := by rfl)
    (hw : ((backTo pos (starEach [e] X.env)).all (fun x => !x.1) && (backToKw pos (keywordEach [] X.env)).all (fun x => x.1.isSome) && decide (([e] : List Expr).length + ([] : List Keyword).length + (if ([] : List Keyword).isEmpty then 0 else 1) < 30)) = true := by rfl)
    (hl : (p2.endLine == pos.line) = true := by rfl) (hs : starEach [e] X.env = (false, eval e X.env) :: starEach [] X.env := by rfl) (hk : X.K = K := by rfl) :
    GE X (.Call (.Attribute (.Name x p1) "extend" p2) [e] [] pos) (tBM K "list" (rExtT K) (tVar i) (tCons t tNil)) (uExtT i u) := by
  subst hk
  exact ⟨pe_bm PySem.F.plainAttrs_list PySem.F.slot_list_extend PySem.F.type_list_extend mt_extT (pe_var hN hv hd hcd) (pa_cons h.pe pa_nil hs) hb hw hl hs rfl,
    fun F k ρ Φ σ H S Q ⟨f, gs, hg, q⟩ R j => by
      obtain ⟨a, w, ha, h1, h2, ⟨vs, rfl, h3⟩, _⟩ := R.own hg
      refine ⟨_, ha, .inl ⟨rfl, vs, sl_of h2⟩, h.le F k ρ _ σ H S _ q R fun ρ1 y v H1 S1 ⟨f', gs', ys, hg', ey, l, q1⟩ n1 R1 r1 => ?_⟩
      subst ey
      obtain ⟨p, us, rfl, b1, b2⟩ := r1
      obtain ⟨a', w', ha', k1, k2, ⟨ws, rfl, k3⟩, _⟩ := R1.own hg'
      rw [ha] at ha'
      cases ha'
      obtain ⟨R2, n2⟩ := R1.mut hg' ha (u' := .lst (ws ++ us)) (g' := .lst (gs' ++ ys)) ⟨_, rfl, k3.app b2⟩
      rw [k] at b1
      exact r_extT k2 b1.sq (len_ok (by rw [k3.len, b2.len]; exact l)) (j _ .non .non _ S1 q1 (n1.trans n2) R2 rfl)⟩
end
section
variable {i : Nat} {ua : UE} {ρ : RS} {Φ : RS → G → Prop}
theorem v_extT {f : Bool} {gs : List G} (h : ρ[i]? = some (.ow f (.lst gs))) (q : ua ρ fun ρ1 y => ∃ f gs ys, ρ1[i]? = some (.ow f (.lst gs)) ∧ y = .tup ys ∧ gs.length + ys.length ≤ 100000 ∧ Φ (ρ1.set i (.ow f (.lst (gs ++ ys)))) .non) : uExtT i ua ρ Φ := ⟨f, gs, h, q⟩
theorem v_extT2 {f : Bool} {gs ys : List G} {R : Bool → List G → List G → Prop} {o : Option SG} (h : o = some (.ow f (.lst gs))) (l : gs.length + ys.length ≤ 100000) (q : R f gs ys) : ∃ f' gs' ys', o = some (.ow f' (.lst gs')) ∧ G.tup ys = .tup ys' ∧ gs'.length + ys'.length ≤ 100000 ∧ R f' gs' ys' := ⟨f, gs, ys, h, rfl, l, q⟩
end
end Zn
/-! for x in l, where l is a list or a tuple -/
namespace Zn
open PySem PySem.Spec PyProof.Rows L2 TL
def iLT (K : PySem.W.Frag) (tl : TE) : TI := fun σ H R => tl σ H fun x H1 => ∃ a, x = .ref a ∧ (((∃ xs, SqL K H1 a xs) ∧ R (Itl K a) H1) ∨ ((∃ xs, SqT K H1 a xs) ∧ R (Itt K a) H1))
section
variable {X : Cx} {tg a : Expr} {ta : TE} {ua : UE}
theorem pi_LT {l : Expr} {tl : TE} (hl : PE X l tl) : PI X tg l (iLT X.K tl) := ⟨fun pins s σ H R I h => thn (hl.run pins s σ H _ I h) fun v s1 ⟨x, H1, I1, r1, p, e, q1⟩ => by
  subst e
  cases r1
  have fr := I1.fpOk (Nat.le_refl _) (I1.hok.fresh (Nat.le_refl _))
  have at_ : ∀ b ∈ [s1.heap.objs.size], b = s1.heap.objs.size := fun b hb => List.mem_singleton.mp hb
  rcases q1 with ⟨⟨xs, hq⟩, q⟩ | ⟨⟨xs, hq⟩, q⟩
  · obtain ⟨us, _, pl, _⟩ := I1.list hq
    exact wpAny_pyIter_list pl.isList ⟨_, [s1.heap.objs.size], _, _, H1, rfl, I1.kept (t' := s1.toks) fun _ _ e => Heap.get?_push_of_some _ e, turn_list p _, ⟨_, Heap.get?_push_size _ rfl, rfl, rfl⟩, fun b hb => by rw [at_ b hb]; exact fr, q⟩
  · obtain ⟨us, _, pt, _⟩ := I1.tuple hq
    exact wpAny_pyIter_tuple (t := p) (items := us.toArray) pt ⟨_, [s1.heap.objs.size], _, _, H1, rfl, I1.kept (t' := s1.toks) fun _ _ e => Heap.get?_push_of_some _ e, turn_tuple p _, ⟨_, Heap.get?_push_size _ rfl, rfl, rfl⟩, fun b hb => by rw [at_ b hb]; exact fr, q⟩⟩
def uItLT (ua : UE) : UA := fun ρ Φ => ua ρ fun ρ1 g => ∃ gs, sq g = some gs ∧ Φ ρ1 gs
theorem k_itLT (K : PySem.W.Frag) (ha : GE X a ta ua) (hk : X.K = K := by rfl) : GI X tg a (iLT K ta) (uItLT ua) := by
  subst hk
  exact ⟨pi_LT ha.pe, fun F h ρ Φ σ H S R q Rl k => ha.le F h ρ _ σ H S _ q Rl fun ρ1 g v H1 S1 ⟨gs, e, q1⟩ n1 R1 r1 => by
    cases g with
    | lst xs =>
      cases e
      obtain ⟨p, vs, rfl, hs, h1, h2⟩ := r1
      refine ⟨p, rfl, .inl ⟨⟨vs, sl_of h1⟩, k ρ1 _ _ H1 S1 q1 n1 R1 ⟨fun i H2 S2 hi n2 => ?_, fun H2 S2 n2 => ?_, fun i H2 S2 x H3 hi n2 y => ?_⟩⟩⟩
      · exact ⟨vs, vs[i]'(by rw [h2.len]; exact hi), sl_of (n2.x _ _ hs h1), List.getElem?_eq_getElem _⟩
      · exact ⟨vs, sl_of (n2.x _ _ hs h1), by rw [h2.len]; exact Nat.le_refl _⟩
      · obtain ⟨rfl, y⟩ := y
        obtain ⟨g, e, r⟩ := h2.get (y vs (sl_of (n2.x _ _ hs h1)))
        exact ⟨.refl _, g, e, r.nx n2⟩
    | tup xs =>
      cases e
      obtain ⟨p, vs, rfl, h1, h2⟩ := r1
      rw [h] at h1
      have st : ∀ {H2 S2}, Nxt S1 H1 S2 H2 → SqT X.K H2 p vs := fun n2 => by
        rcases h1 with h1 | h1
        · exact st_of (n2.t _ _ h1)
        · exact TupAt.sq (.inr h1)
      refine ⟨p, rfl, .inr ⟨⟨vs, h1.sq⟩, k ρ1 _ _ H1 S1 q1 n1 R1 ⟨fun i H2 S2 hi n2 => ?_, fun H2 S2 n2 => ?_, fun i H2 S2 x H3 hi n2 y => ?_⟩⟩⟩
      · exact ⟨vs, vs[i]'(by rw [h2.len]; exact hi), st n2, List.getElem?_eq_getElem _⟩
      · exact ⟨vs, st n2, by rw [h2.len]; exact Nat.le_refl _⟩
      · obtain ⟨rfl, y⟩ := y
        obtain ⟨g, e, r⟩ := h2.get (y vs (st n2))
        exact ⟨.refl _, g, e, r.nx n2⟩
    | _ => cases e⟩
theorem v_itLT {ρ : RS} {Θ : RS → List G → Prop} (q : ua ρ fun ρ1 g => ∃ gs, sq g = some gs ∧ Θ ρ1 gs) : uItLT ua ρ Θ := q
end
end Zn
/-! sorted(set(e)), any number of ints; xs.index(n) -/
namespace Zn
open PySem PySem.Spec PyProof.Rows L2 TL
section
variable {P : Program} {w : World} {A : Around} {E : Value → Shared → Prop} {s : Shared} {a : Addr}
theorem sorted_setA {S : Int → Bool} {n : Nat} {Q : Value → Shared → Prop} (R : SetR w s.heap a S n) (hh : A.handled = none)
    (hQ : ∀ s' p (out : Array Value) (c : Nat) (ns : List Int), (∀ b o, s.heap.get? b = some o → s'.heap.get? b = some o) → s'.gens = s.gens → s'.os = s.os → s.heap.objs.size ≤ p →
      s'.heap.get? p = some (seqObj "list" out c) → IntsAre out.toList ns → ns.length ≤ sizeLine → ns.Pairwise (· < ·) → (∀ k, k ∈ ns ↔ S k = true) → ns.length = n → Q (.ref p) s') :
    wpAny (model P w) A (call (.builtin "sorted") [.ref a]) Q E s := by
  obtain ⟨o, es, ep, t, ho, hex, hd, g, nd, hm, hb, hf, hn, hr, hl⟩ := R
  refine Calls.call_function_entry kind_sorted plain_sorted entry_sorted (args_sorted1 _) ?_
  unfold Builtin.«sorted»
  refine wpAny_bind (m := checkCount "sorted" 1 1 _) (wpAny_pure ?_)
  refine wpAny_bind (collect_set (A := A.in1) hh ⟨o, ho, hex.1, hd⟩ hf hb hr hl fun s1 vs k1 hz g1 o1 pm => ?_)
  have hvl : vs.length = n := by rw [pm.length_eq, List.length_map, Array.length_toList]; exact hn
  have hvz : vs.length ≤ sizeLine := by
    rw [pm.length_eq, List.length_map, Array.length_toList]
    exact fits_of_scanBound hb
  have hI : IntsAre vs (vs.map Builtin.Re.reRawOf) := L2.ints_of vs fun v hv => by
    obtain ⟨e, he, q⟩ := List.mem_map.mp (pm.mem_iff.mp hv)
    obtain ⟨k, tk, h1, _⟩ := g e he
    exact ⟨k, tk, by rw [← q]; exact h1⟩
  have pk : (vs.map Builtin.Re.reRawOf).Perm (es.toList.map keyOf) := by
    have q := pm.map Builtin.Re.reRawOf
    rw [List.map_map] at q
    exact q
  refine wpAny_bind (wpAny_newList ?_ hvz)
  have hoL : (s1.heap.push (seqObj "list" vs.toArray 0)).get? s1.heap.objs.size = some (seqObj "list" vs.toArray 0) := Heap.get?_push_size _ rfl
  refine wpAny_bind (wpAny_holding (wpAny_call_entry slot_list_sort ⟨_, hoL, rfl⟩ entry_list_sort (SrtO.list_sort_ord SrtO.swo_int hoL hvz (fun h2 => SrtO.ints_sortable hI h2) fun out a1 a2 => ⟨_, rfl, ?_⟩) (args_list_sort _)))
  obtain ⟨b1, b2, b3⟩ := SrtO.ints_out hI a1 a2
  obtain ⟨c, hc⟩ := sortedHeap_at (vs := vs) (out := out.toArray) hoL
  have pn : (out.map SrtO.iv).Perm (es.toList.map keyOf) := b2.trans pk
  refine wpAny_pure ⟨_, rfl, hQ _ s1.heap.objs.size out.toArray c (out.map SrtO.iv) (fun b u e => ?_) g1 o1 hz hc b1 ?_ (L2.lt_of_le_nodup _ b3 (pn.nodup_iff.mpr nd)) (fun k => by rw [pn.mem_iff, ← hm k]) ?_⟩
  · have q := k1 b u e
    have hlt := Heap.lt_size q
    show (sortedHeap (s1.heap.push (seqObj "list" vs.toArray 0)) s1.heap.objs.size vs out.toArray).get? b = some u
    rw [sortedHeap_old (Nat.ne_of_lt hlt) (by rw [size_push']; exact Nat.lt_succ_of_lt hlt)]
    exact Heap.get?_push_of_some _ q
  · rw [b2.length_eq, List.length_map]
    exact hvz
  · rw [pn.length_eq, List.length_map, Array.length_toList]; exact hn
end
def rSortedSetA (w : World) : List V → Hp → VK → Prop := fun vs H Q => ∃ (a : Addr) (S : Int → Bool) (n : Nat), vs = [V.ref a] ∧ H a = some (SetO w a S n) ∧
  ∀ (ns : List Int) (p : Addr), ns.Pairwise (· < ·) → (∀ k : Int, k ∈ ns ↔ S k = true) → ns.length = n → H p = none → Q (.ref p) (upd H p (.lst (ns.map V.int)))
theorem cr_sortedSetA {X : Cx} (hc : X.calm = true) : CallR X (.builtin "sorted") (rSortedSetA X.w) := by
  intro pins s σ H vs us Q I r h
  obtain ⟨a, S, n, rfl, ha, q⟩ := h
  have R := setO_get I ha
  rw [Vals.ref1 r]
  refine sorted_setA R (I.ok.hd hc) fun s' p out c ns k g o hp hg hi hz hs hm hl => ?_
  have hlen : (ns.map V.int).length ≤ sizeLine := by rw [List.length_map]; exact hz
  have hn : H p = none := I.hok.fresh hp
  have J : Inv X pins σ (upd H p (.lst (ns.map V.int))) { s with heap := s'.heap, gens := s'.gens, drawn := s'.drawn, toks := s'.toks } :=
    I.call (ch := []) (Un.laid k hp hn) (I.hok.laid k hp ⟨hlen, out.toList, c, vals_of_ints hi, hg⟩) (by rw [g]; exact I.bare) (fun _ z => nomatch z)
  have e : s' = { s with heap := s'.heap, gens := s'.gens, drawn := s'.drawn, toks := s'.toks } := by
    cases s'
    cases s
    cases o
    rfl
  rw [e]
  exact ⟨.ref p, _, J, rfl, q ns p hs hm hl hn⟩
def ucSsetA : G → (G → Prop) → Prop := fun g Φ => ∃ ns : List Int, g = .lst (ns.map G.int) ∧ ns.length ≤ 4000 ∧
  ∀ ks : List Int, ks.Pairwise (· < ·) → (∀ k : Int, k ∈ ks ↔ k ∈ ns) → Φ (.lst (ks.map G.int))
section
variable {X : Cx} {K : PySem.W.Frag} {w : World} {a e f o : Expr} {ta td ty tx : TE} {ua ud uy ux : UE} {pos : Pos}
theorem k_ssetA {p p2 pos2 : Pos} (hc : X.calm = true) (hg : Gl X "sorted") (hm : X.mg "sorted" = none) (hg2 : Gl X "set") (hm2 : X.mg "set" = none) (ha : GB X a ta ua)
    (he : starEach [a] X.env = (false, eval a X.env) :: starEach [] X.env := by rfl)
    (he2 : starEach [.Call (.Name "set" p2) [a] [] pos2] X.env = (false, eval (.Call (.Name "set" p2) [a] [] pos2) X.env) :: starEach [] X.env := by rfl) (hk : X.K = K := by rfl) (hw : X.w = w := by rfl) :
    GN X (.Call (.Name "sorted" p) [.Call (.Name "set" p2) [a] [] pos2] [] pos) (tCB (rSortedSetA w) (tCons (tCB (rSetLi K w) (tCons ta tNil)) tNil)) (u1 ucSsetA ua) := by
  subst hk
  subst hw
  refine ⟨pe_callB (cr_sortedSetA hc) hg hm (by decide +kernel) (pa_cons (pe_callTy (cr_setLi hc) hg2 hm2 boot_set (pa_cons ha.pe pa_nil he) (by decide) (by decide) he rfl) pa_nil he2) (by decide) (by decide) he2 rfl, fun F k ρ Φ σ H S Q q R j => ?_⟩
  refine ha.le F k ρ _ σ H S _ q R fun ρ1 g v H1 S1 ⟨ns, e, hl, q1⟩ n1 R1 r1 => ?_
  subst e
  obtain ⟨p, vs, rfl, h1, h2⟩ := r1.lst
  cases h2.ints
  refine ⟨p, ns, ns, rfl, sl_of h1, hl, fun _ h => h, fun P c hP hc' => ?_⟩
  refine ⟨P, _, c, rfl, upd_same, fun ks L hs hk' hl' hL => ?_⟩
  obtain ⟨R2, n2⟩ := R1.same (same_new (o := SetO X.w P (fun j => decide (j ∈ ns)) c) hP)
  obtain ⟨n3, R3, r3, fr⟩ := new_lst (g := .lst (ks.map G.int)) R2 hL ⟨_, rfl, RgL.of_ints⟩
  exact j ρ1 _ L _ _ _ (q1 ks hs fun k => by rw [hk' k]; exact ⟨of_decide_eq_true, decide_eq_true⟩) ((n1.trans n2).trans n3) R3 (.inr rfl) upd_same r3 fr
end
end Zn
/-! xs.index(e) -/
namespace Zn
open PySem PySem.Spec PyProof.Rows L2 TL
theorem type_list_index : typeOf (.builtin "list.index") = pure (.type "method_descriptor") := by show builtinType _ = _; rw [builtinType_eq_fast]; kernel_rfl
theorem u65 {k : Nat} {A : Around} (r : Room k A) : A.units + 65 < cLine := by have := r.un; omega
section
variable {X : Cx} {K : PySem.W.Frag} {a e : Expr} {ta te : TE} {ua ue : UE} {pos apos : Pos}
def uIdx (ua ue : UE) : UE := fun ρ Φ => ua ρ fun ρ1 g => ∃ gs, g = .lst gs ∧ ue ρ1 fun ρ2 y => ∃ (d : PyData) (ds : List PyData) (j : Nat) (z : PyData), pdL gs = some ds ∧ pd y = some d ∧
  SeqAt.shaped (.list ds) = true ∧ SeqAt.shaped d = true ∧ ds[j]? = some z ∧ PyData.eqv z d = true ∧ (∀ (m : Nat) (z' : PyData), m < j → ds[m]? = some z' → PyData.eqv z' d = false) ∧ Φ ρ2 (.int ((j : Nat) : Int))
theorem k_idx (hu : X.A.units + 65 < cLine) (ha : GE X a ta ua) (he : GE X e te ue)
    (hbase : attributeBase a "index" X.env (eval a X.env) = eval a X.env := by rfl)
    (hfew : ((backTo pos (starEach [e] X.env)).all (fun x => !x.1) && (backToKw pos (keywordEach [] X.env)).all (fun x => x.1.isSome) && decide (([e] : List Expr).length + ([] : List Keyword).length + (if ([] : List Keyword).isEmpty then 0 else 1) < 30)) = true := by rfl)
    (hline : (apos.endLine == pos.line) = true := by rfl) (hs : starEach [e] X.env = (false, eval e X.env) :: starEach [] X.env := by rfl) (hk : X.K = K := by rfl) :
    GE X (.Call (.Attribute a "index" apos) [e] [] pos) (tBM K "list" (rIndexD K) ta (tCons te tNil)) (uIdx ua ue) := by
  subst hk
  refine ⟨pe_bm PySem.F.plainAttrs_list PySem.F.slot_list_index type_list_index (mt_indexD hu) ha.pe (pa_cons he.pe pa_nil hs) hbase hfew hline hs, fun F h ρ Φ σ H S Q q R j => ha.le F h ρ _ σ H S _ q R fun ρ1 g v H1 S1 ⟨gs, eg, q1⟩ n1 R1 r1 => ?_⟩
  subst eg
  obtain ⟨p, vs, rfl, hp, h1, h2⟩ := r1
  refine ⟨.inl ⟨rfl, vs, sl_of h1⟩, he.le F h ρ1 _ σ H1 S1 _ q1 R1 fun ρ2 y vy H2 S2 ⟨d, ds, jj, z, e1, e2, s1, s2, e3, e4, e5, q2⟩ n2 R2 r2 => ?_⟩
  have r1' : Rg F.toWd S2 H2 (.lst gs) (.ref p) := ⟨p, vs, rfl, n2.nS h1 hp, n2.x _ _ hp h1, h2.nx n2⟩
  exact ⟨p, vy, d, ds, jj, z, rfl, rfl, h ▸ dp_g r1' (by simp only [pd, e1]; rfl), h ▸ dp_g r2 e2, s1, s2, e3, e4, e5, j ρ2 _ _ H2 S2 q2 (n1.trans n2) R2 rfl⟩
theorem v_idx {ρ : RS} {Φ : RS → G → Prop} (q : ua ρ fun ρ1 g => ∃ gs, g = .lst gs ∧ ue ρ1 fun ρ2 y => ∃ (d : PyData) (ds : List PyData) (j : Nat) (z : PyData), pdL gs = some ds ∧ pd y = some d ∧
  SeqAt.shaped (.list ds) = true ∧ SeqAt.shaped d = true ∧ ds[j]? = some z ∧ PyData.eqv z d = true ∧ (∀ (m : Nat) (z' : PyData), m < j → ds[m]? = some z' → PyData.eqv z' d = false) ∧ Φ ρ2 (.int ((j : Nat) : Int))) : uIdx ua ue ρ Φ := q
/-- ints -/
theorem v_idxI {ns : List Int} {n : Int} {j : Nat} {R : Nat → Prop} (h1 : ns[j]? = some n) (h2 : ∀ m, m < j → ns[m]? ≠ some n) (q : R j) : ∃ (d : PyData) (ds : List PyData) (j : Nat) (z : PyData), pdL (ns.map G.int) = some ds ∧ pd (.int n) = some d ∧
  SeqAt.shaped (.list ds) = true ∧ SeqAt.shaped d = true ∧ ds[j]? = some z ∧ PyData.eqv z d = true ∧ (∀ (m : Nat) (z' : PyData), m < j → ds[m]? = some z' → PyData.eqv z' d = false) ∧ R j := by
  have hp : ∀ ns : List Int, pdL (ns.map G.int) = some (ns.map PyData.int) := fun ns => by
    induction ns with
    | nil => rfl
    | cons x xs ih => simp [pdL, pd, ih]
  have hok : okG 1 (.lst (ns.map G.int)) = true := by simp [okG]
  obtain ⟨d, e1, s1, _⟩ := okG_sh hok (by decide)
  have e2 : pd (.lst (ns.map G.int)) = some (.list (ns.map PyData.int)) := by simp [pd, hp]
  rw [e2] at e1
  cases e1
  refine ⟨.int n, _, j, .int n, hp ns, rfl, s1, ?_, by rw [List.getElem?_map, h1]; rfl, by simp [PyData.eqv], fun m z' hm hz => ?_, q⟩
  · have hok2 : okG 1 (.int n) = true := by simp [okG]
    obtain ⟨d, e1, s1, _⟩ := okG_sh hok2 (by decide)
    cases (show some (PyData.int n) = some d from e1)
    exact s1
  · rw [List.getElem?_map] at hz
    obtain ⟨x, hx, rfl⟩ := Option.map_eq_some_iff.mp hz
    have : x ≠ n := fun e => h2 m hm (by rw [hx, e])
    simp [PyData.eqv, this]
end
end Zn
/-! defs that change one of their arguments -/
namespace Zn
open PySem PySem.Spec PyProof.Rows L2 TL
/-- the arguments ahead of the thing that is changed, the thing, those behind it; the promise tells the value and what the thing holds then -/
def spM (K : PySem.W.Frag) (uf : List G → G → List G → (G → G → Prop) → Prop) : Sp := fun vs H Q _ => ∃ (W : Wd) (S : AS) (as : List G) (g : G) (bs : List G) (Φ : G → G → Prop) (a : Addr) (u : HO) (va vb : List V), W.K = K ∧ uf as g bs Φ ∧ Okw W S H ∧
  vs = va ++ .ref a :: vb ∧ RgL W S H as va ∧ RgL W S H bs vb ∧ S a ∧ H a = some u ∧ RgO W S H g u ∧ (W.dr → a ≠ W.d) ∧
  ∀ v x H' g' u', Φ v g' → (∀ b o, ¬(W.dr ∧ b = W.d) → b ≠ a → H b = some o → H' b = some o) → (W.dr → Drw H' W.d W.c) → H' a = some u' → RgO W S H' g' u' → Rg W S H' v x → Q x H'
def startM (N : List Str) (as : List G) (g : G) (bs : List G) : RS := as.map SG.fz ++ SG.ow false g :: (bs.map SG.fz ++ List.replicate (N.length - (as.length + 1 + bs.length)) SG.un)
def endsM (j : Nat) (Φ : G → G → Prop) : Bs := { nx := fun ρ => ∃ g', ρ[j]? = some (.ow false g') ∧ Φ .non g', rt := fun ρ v => ∃ g', ρ[j]? = some (.ow false g') ∧ Φ v g' }
theorem rel_startM {W : Wd} {S : AS} {H : Hp} {as bs : List G} {g : G} {va vb : List V} {a : Addr} {u : HO} {N : List Str} (o : Okw W S H) (ra : RgL W S H as va) (rb : RgL W S H bs vb) (sa : S a) (ha : H a = some u) (r : RgO W S H g u) (hd : W.dr → a ≠ W.d) :
    Rel { toWd := W, ps := [a], H0 := H, S0 := S, pn := [] } S (startM N as g bs) (start N (va ++ .ref a :: vb)) H := by
  have la := ra.len
  have lb := rb.len
  have at1 : ∀ i s, (startM N as g bs)[i]? = some s → (∃ g' v, as[i]? = some g' ∧ s = .fz g' ∧ (start N (va ++ .ref a :: vb))[i]? = some (some v) ∧ Rg W S H g' v) ∨ (i = as.length ∧ s = .ow false g ∧ (start N (va ++ .ref a :: vb))[i]? = some (some (.ref a))) ∨
      (∃ g' v, s = .fz g' ∧ (start N (va ++ .ref a :: vb))[i]? = some (some v) ∧ Rg W S H g' v) ∨ (s = .un ∧ (start N (va ++ .ref a :: vb))[i]? = some none) := by
    intro i s hi
    unfold startM at hi
    unfold L2.start
    by_cases l : i < as.length
    · rw [List.getElem?_append_left (by rw [List.length_map]; exact l)] at hi
      obtain ⟨g', hg, rfl⟩ := get_map hi
      obtain ⟨v, hv, rv⟩ := ra.get' hg
      refine .inl ⟨g', v, hg, rfl, ?_, rv⟩
      rw [List.getElem?_append_left (by rw [List.length_map, List.length_append]; omega), List.getElem?_map, List.getElem?_append_left (by omega), hv]
      rfl
    · rw [List.getElem?_append_right (by rw [List.length_map]; omega), List.length_map] at hi
      obtain ⟨k, rfl⟩ : ∃ k, i = as.length + k := ⟨i - as.length, by omega⟩
      rw [Nat.add_sub_cancel_left] at hi
      rcases k with _ | k
      · cases hi
        refine .inr (.inl ⟨rfl, rfl, ?_⟩)
        rw [Nat.add_zero, List.getElem?_append_left (by rw [List.length_map, List.length_append, List.length_cons]; omega), List.getElem?_map, List.getElem?_append_right (by omega), la, Nat.sub_self]
        rfl
      · rw [List.getElem?_cons_succ] at hi
        by_cases l2 : k < bs.length
        · rw [List.getElem?_append_left (by rw [List.length_map]; exact l2)] at hi
          obtain ⟨g', hg, rfl⟩ := get_map hi
          obtain ⟨v, hv, rv⟩ := rb.get' hg
          refine .inr (.inr (.inl ⟨g', v, rfl, ?_, rv⟩))
          rw [List.getElem?_append_left (by rw [List.length_map, List.length_append, List.length_cons]; omega), List.getElem?_map, List.getElem?_append_right (by omega), la, show as.length + (k + 1) - as.length = k + 1 by omega, List.getElem?_cons_succ, hv]
          rfl
        · rw [List.getElem?_append_right (by rw [List.length_map]; omega)] at hi
          have e : s = .un := (List.mem_replicate.mp (List.mem_of_getElem? hi)).2
          have l3 := (List.getElem?_eq_some_iff.mp hi).1
          rw [List.length_replicate, List.length_map] at l3
          refine .inr (.inr (.inr ⟨e, ?_⟩))
          rw [List.getElem?_append_right (by rw [List.length_map, List.length_append, List.length_cons]; omega), List.getElem?_replicate, if_pos (by rw [List.length_map, List.length_append, List.length_cons]; omega)]
  refine ⟨⟨o.dom, fun k => ⟨(o.dr k).1, fun z => hd k (List.mem_singleton.mp z).symm⟩, fun b hb => by rw [List.mem_singleton.mp hb]; exact o.dom a sa⟩, o.dom, fun _ h => h, fun k => (o.dr k).2, fun _ _ _ _ h => h, fun _ _ h => h, ?_, fun b hb => by rw [List.mem_singleton.mp hb]; exact o.dom a sa, fun i s hi => ?_, fun i j f g1 f' g1' hij hi hj => ?_, fun p h => (nomatch h)⟩
  · unfold L2.start startM
    simp only [List.length_append, List.length_map, List.length_cons, List.length_replicate]
    omega
  · rcases at1 i s hi with ⟨g', v, _, rfl, e, r'⟩ | ⟨_, rfl, e⟩ | ⟨g', v, rfl, e, r'⟩ | ⟨rfl, e⟩
    · exact ⟨_, e, v, rfl, r'⟩
    · exact ⟨_, e, a, u, rfl, sa, ha, r, (fun z => by cases z), fun _ => List.mem_singleton.mpr rfl⟩
    · exact ⟨_, e, v, rfl, r'⟩
    · exact ⟨_, e, trivial⟩
  · exfalso
    rcases at1 i _ hi with ⟨_, _, _, z, _⟩ | ⟨ei, _, _⟩ | ⟨_, _, z, _⟩ | ⟨z, _⟩
    · cases z
    · rcases at1 j _ hj with ⟨_, _, _, z, _⟩ | ⟨ej, _, _⟩ | ⟨_, _, z, _⟩ | ⟨z, _⟩
      · cases z
      · exact hij (ei.trans ej.symm)
      · cases z
      · cases z
    · cases z
    · cases z
section
variable {P : Program} {w : World} {K : PySem.W.Frag} {mg : Str → Option Value} {base : Heap}
theorem g_okM {x : Str} {st : Stmt} {f : Addr} {fd : FuncData} {N ps : List Str} {k : Nat} {uf : List G → G → List G → (G → G → Prop) → Prop} (j : Nat) (F : Fun K x x st f fd) (sc : FnScope N ps (defScope st)) (hl : ∀ as g bs Φ, uf as g bs Φ → as.length = j ∧ as.length + 1 + bs.length = ps.length)
    (body : ∀ (cdv : Value) (A : Around) (outer : List Env) (s : Shared) (H : Hp) (E : XK), Room k (A.deeper (envOfC x (defScope st) s.heap.objs.size f cdv)) →
      ∃ t u, GSs (cxOf CX0 P w K mg base N x (defScope st) f cdv A outer s H E).nox (defBody st) t u ∧ ∀ as g bs Φ, uf as g bs Φ → u (endsM j Φ) (startM N as g bs)) : FnOk P w K mg base CX0 (k + 1) f fd ps (spM K uf) := by
  refine F.ok sc (fun vs H Q E ⟨W, S, as, g, bs, Φ, a, u, va, vb, _, h1, _, h2, h3, h4, _⟩ => by rw [h2, List.length_append, List.length_cons, h3.len, h4.len]; have := (hl as g bs Φ h1).2; omega) (fun cdv A outer s H vs Q E hr h => ?_)
  obtain ⟨W, S, as, g, bs, Φ, a, u, va, vb, hk, h1, h2, rfl, h3, h4, h5, h6, h7, h8, h9⟩ := h
  obtain ⟨t, ub, gg, q⟩ := body cdv A outer s H E hr
  refine ⟨t, gg.pe, ?_⟩
  have fin : ∀ {ρ' σ' H' S'} {v : G} {x : V}, (∃ g', ρ'[j]? = some (.ow false g') ∧ Φ v g') → Rel { toWd := W, ps := [a], H0 := H, S0 := S, pn := [] } S' ρ' σ' H' → Rg W S' H' v x → Q x H' := fun {ρ' σ' H' S' v x} ⟨g', hg, q'⟩ R' r' => by
    obtain ⟨a', u', _, _, e2, r2, _, e3, _⟩ := R'.own hg
    have e4 : a' = a := List.mem_singleton.mp (e3 rfl)
    subst e4
    have nx : Nxt S' H' S H' := Nxt.less R'.s0
    exact h9 v x H' g' u' q' (fun b o z hb e => R'.kx b o z (fun m => hb (List.mem_singleton.mp m)) e) (fun k => (R'.dr k).2) e2 (r2.nx nx) (r'.nx nx)
  refine gg.le { toWd := W, ps := [a], H0 := H, S0 := S, pn := [] } hk _ _ _ H S _ (q as g bs Φ h1) (rel_startM h2 h3 h4 h5 h6 h7 h8) ⟨?_, ?_, ?_, ?_⟩
  · exact fun ρ' σ' H' S' q' n' R' => fin (v := .non) q' R' rfl
  · exact fun ρ' σ' H' S' g v q' n' R' r' => fin q' R' r'
  · exact fun _ _ _ _ q' _ _ => q'.elim
  · exact fun _ _ _ _ q' _ _ => q'.elim
end
/-- arguments, one of them slot i's own thing -/
abbrev UM := RS → (RS → List G → List G → Prop) → Prop
def LAM (F : Fr) (i : Nat) (t : TA) (u : UM) : Prop := ∀ (ρ : RS) (Φ : RS → List G → List G → Prop) (σ : L2.St) (H : Hp) (S : AS) (Q : List V → Hp → Prop), u ρ Φ → Rel F S ρ σ H →
  (∀ ρ' as bs va vb a H' S', Φ ρ' as bs → Nxt S H S' H' → Rel F S' ρ' σ H' → RgL F.toWd S' H' as va → RgL F.toWd S' H' bs vb → σ[i]? = some (some (.ref a)) → Q (va ++ .ref a :: vb) H') → t σ H Q
structure GAM (X : Cx) (i : Nat) (e : List Expr) (t : TA) (u : UM) : Prop where
  pe : PA X e t
  le : ∀ F : Fr, F.K = X.K → LAM F i t u
section
variable {X : Cx} {e : Expr} {es : List Expr} {ta : TE} {ua : UE} {tr : TA} {ur : UA} {um : UM} {p pos : Pos}
def uMHere (i : Nat) (ur : UA) : UM := fun ρ Φ => ∃ f g, ρ[i]? = some (.ow f g) ∧ ur ρ fun ρ1 bs => Φ ρ1 [] bs
theorem gam_here (i : Nat) {x : Str} (hr : GA X es tr ur) (hN : X.N[i]? = some x := by rfl) (hv : Vis X.env.scope x := by first | exact Or.inl rfl | exact Or.inr (Or.inl rfl) | exact Or.inr (Or.inr rfl)) (hd : (x == ("__debug__" : Str)) = false := by decide) (hcd : (x == ("__classdict__" : Str)) = false := by decide)
    (hs : starEach (.Name x p :: es) X.env = (false, eval (.Name x p) X.env) :: starEach es X.env := by rfl) : GAM X i (.Name x p :: es) (tCons (tVar i) tr) (uMHere i ur) :=
  ⟨pa_cons (pe_var hN hv hd hcd) hr.pe hs, fun F h ρ Φ σ H S Q ⟨f, g, hg, q⟩ R k => by
    obtain ⟨a, u, ha, _⟩ := R.own hg
    exact ⟨_, ha, hr.le F h ρ _ σ H S _ q R fun ρ1 bs vb H1 S1 q1 n1 R1 r1 => k ρ1 [] bs [] vb a H1 S1 q1 n1 R1 rfl r1 ha⟩⟩
def uMCons (ua : UE) (um : UM) : UM := fun ρ Φ => ua ρ fun ρ1 g => um ρ1 fun ρ2 as bs => Φ ρ2 (g :: as) bs
theorem gam_cons {i : Nat} (ha : GE X e ta ua) (hr : GAM X i es tr um) (hs : starEach (e :: es) X.env = (false, eval e X.env) :: starEach es X.env := by rfl) : GAM X i (e :: es) (tCons ta tr) (uMCons ua um) :=
  ⟨pa_cons ha.pe hr.pe hs, fun F h ρ Φ σ H S Q q R k => ha.le F h ρ _ σ H S _ q R fun ρ1 g v H1 S1 q1 n1 R1 r1 =>
    hr.le F h ρ1 _ σ H1 S1 _ q1 R1 fun ρ2 as bs va vb a H2 S2 q2 n2 R2 ra rb hσ => k ρ2 (g :: as) bs (v :: va) vb a H2 S2 q2 (n1.trans n2) R2 ⟨v, va, rfl, r1.nx n2, ra⟩ rb hσ⟩
def uCalM (i : Nat) (uf : List G → G → List G → (G → G → Prop) → Prop) (um : UM) : UE := fun ρ Φ => um ρ fun ρ1 as bs => ∃ f g, ρ1[i]? = some (.ow f g) ∧ uf as g bs fun v g' => Φ (ρ1.set i (.ow f g')) v
theorem le_calM {F : Fr} {i : Nat} {uf} {t : TA} (h : LAM F i t um) : LE F (tCal (spM F.K uf) t) (uCalM i uf um) := fun ρ Φ σ H S Q q R k => h ρ _ σ H S _ q R fun ρ1 as bs va vb a H1 S1 ⟨f, g, hg, q1⟩ n1 R1 ra rb hσ => by
  obtain ⟨a', u, ha, s1, h1, r1, _, _, hne⟩ := R1.own hg
  rw [hσ] at ha
  cases ha
  refine ⟨F.toWd, S1, as, g, bs, _, a, u, va, vb, rfl, q1, R1.okw, rfl, ra, rb, s1, h1, r1, hne, fun v x H' g' u' q2 hx hdr ha' rO rv => ?_⟩
  obtain ⟨R2, n2⟩ := R1.step (H' := upd H' a u) (fun b o z e => by
    by_cases eb : b = a
    · rw [eb, upd_same, ← h1, ← eb, e]
    · rw [upd_ne eb]; exact hx b o z eb e) (fun k => (hdr k).upd (hne k).symm fun z => (R1.dr k).1 (z ▸ s1))
  have nx : Nxt S1 H' S1 (upd H' a u) := ⟨fun b o hb e => by rw [upd_ne (fun z : b = a => hb (by rw [z]; exact s1))]; exact e, fun b xs e => by
    rw [upd_ne (fun z : b = a => by
      rw [z, ha'] at e
      cases e
      exact rO.ntup)]
    exact e, fun _ h => .inl h⟩
  obtain ⟨R3, n3⟩ := R2.mut hg hσ (rO.nx nx)
  have eH : upd (upd H' a u) a u' = H' := by
    rw [upd_upd]
    funext b
    by_cases eb : b = a
    · rw [eb, upd_same, ha']
    · rw [upd_ne eb]
  rw [eH] at R3 n3
  exact k _ v x H' S1 q2 (n1.trans (n2.trans n3)) R3 rv
theorem k_calM (K : PySem.W.Frag) {i : Nat} {x : Str} {k : Nat} {uf} (C : Cal X.prog X.w X.K X.mg X.base x k (spM K uf)) (hr : Room k X.A) (hg : Gl X x) (ha : GAM X i (e :: es) tr um)
    (hdb : (x == ("__debug__" : Str)) = false := by decide) (he : starEach (e :: es) X.env = (false, eval e X.env) :: starEach es X.env := by rfl)
    (hpl : (backTo pos (starEach es X.env)).any (·.1) = false := by rfl) (hk : X.K = K := by rfl) : GE X (.Call (.Name x p) (e :: es) [] pos) (tCal (spM K uf) tr) (uCalM i uf um) := by
  subst hk
  exact ⟨pe_cal C hr hg ha.pe hdb he hpl, fun F h => h ▸ le_calM (ha.le F h)⟩
theorem v_calM {i : Nat} {uf} {ρ : RS} {Φ : RS → G → Prop} (q : um ρ fun ρ1 as bs => ∃ f g, ρ1[i]? = some (.ow f g) ∧ uf as g bs fun v g' => Φ (ρ1.set i (.ow f g')) v) : uCalM i uf um ρ Φ := q
theorem v_mhere {i : Nat} {f : Bool} {g : G} {ρ : RS} {Θ : RS → List G → List G → Prop} (h : ρ[i]? = some (.ow f g)) (q : ur ρ fun ρ1 bs => Θ ρ1 [] bs) : uMHere i ur ρ Θ := ⟨f, g, h, q⟩
theorem v_mcons {ρ : RS} {Θ : RS → List G → List G → Prop} (q : ua ρ fun ρ1 g => um ρ1 fun ρ2 as bs => Θ ρ2 (g :: as) bs) : uMCons ua um ρ Θ := q
theorem v_mown {f : Bool} {g : G} {R : Bool → G → Prop} {o : Option SG} (h : o = some (.ow f g)) (q : R f g) : ∃ f g, o = some (.ow f g) ∧ R f g := ⟨f, g, h, q⟩
end
end Zn
/-! dicts whose keys are ints and texts -/
namespace Zn
open PySem PySem.Spec PyProof.Rows L2 TL
abbrev Kv := List (L2.Key × G)
def dG (kvs : Kv) : G := .dK (kvs.map (·.1)) (kvs.map (·.2))
def getD (kvs : Kv) (k : L2.Key) : Option G := (kvs.find? fun kv => decide (kv.1 = k)).map (·.2)
def putD (kvs : Kv) (k : L2.Key) (g : G) : Kv :=
  if (kvs.any fun kv => decide (kv.1 = k)) = true then kvs.map (fun kv => if kv.1 = k then (kv.1, g) else kv) else kvs ++ [(k, g)]
theorem dG_nil : dG [] = .dK [] [] := rfl
def DR (W : Wd) (S : AS) (H : Hp) : Kv → List (L2.Key × V) → Prop
  | [], ws => ws = []
  | kv :: r, ws => ∃ v ws', ws = (kv.1, v) :: ws' ∧ Rg W S H kv.2 v ∧ DR W S H r ws'
section
variable {W : Wd} {S S' : AS} {H H' : Hp}
theorem DR.len : ∀ {kvs : Kv} {ws : List (L2.Key × V)}, DR W S H kvs ws → ws.length = kvs.length
  | [], _, h => by cases h; rfl
  | _ :: _, _, h => by obtain ⟨v, ws', rfl, _, h⟩ := h; rw [List.length_cons, List.length_cons, h.len]
theorem DR.fst : ∀ {kvs : Kv} {ws : List (L2.Key × V)}, DR W S H kvs ws → ws.map (·.1) = kvs.map (·.1)
  | [], _, h => by cases h; rfl
  | _ :: _, _, h => by obtain ⟨v, ws', rfl, _, h⟩ := h; rw [List.map_cons, List.map_cons, h.fst]
theorem DR.snd : ∀ {kvs : Kv} {ws : List (L2.Key × V)}, DR W S H kvs ws → RgL W S H (kvs.map (·.2)) (ws.map (·.2))
  | [], _, h => by cases h; rfl
  | _ :: _, _, h => by obtain ⟨v, ws', rfl, r, h⟩ := h; exact ⟨_, _, rfl, r, h.snd⟩
theorem DR.of : ∀ {kvs : Kv} {vs : List V}, RgL W S H (kvs.map (·.2)) vs → DR W S H kvs ((kvs.map (·.1)).zip vs)
  | [], _, _ => rfl
  | kv :: r, vs, h => by obtain ⟨v, ws, rfl, r1, h⟩ := h; exact ⟨v, _, rfl, r1, DR.of h⟩
theorem DR.zip : ∀ {kvs : Kv} {ws : List (L2.Key × V)}, DR W S H kvs ws → ws = (kvs.map (·.1)).zip (ws.map (·.2))
  | [], _, h => by cases h; rfl
  | _ :: _, _, h => by obtain ⟨v, ws', rfl, _, h⟩ := h; rw [List.map_cons, List.map_cons, List.zip_cons_cons, ← h.zip]
theorem dG_ro {kvs : Kv} {o : HO} (h : RgO W S H (dG kvs) o) : ∃ ws, o = .dK ws ∧ DR W S H kvs ws := by
  obtain ⟨vs, e, _, r⟩ := h
  exact ⟨_, e, DR.of r⟩
theorem dG_or {kvs : Kv} {ws : List (L2.Key × V)} (h : DR W S H kvs ws) : RgO W S H (dG kvs) (.dK ws) := ⟨ws.map (·.2), by rw [← h.zip], by rw [List.length_map, List.length_map], h.snd⟩
theorem DR.get {k : L2.Key} : ∀ {kvs : Kv} {ws : List (L2.Key × V)}, DR W S H kvs ws → (∃ g v, getD kvs k = some g ∧ valV ws k = some v ∧ Rg W S H g v) ∨ (getD kvs k = none ∧ valV ws k = none)
  | [], _, h => by cases h; exact .inr ⟨rfl, rfl⟩
  | kv :: r, _, h => by
    obtain ⟨v, ws', rfl, r1, h⟩ := h
    by_cases e : kv.1 = k
    · exact .inl ⟨kv.2, v, by simp [getD, List.find?_cons, e], valV_pos (p := (kv.1, v)) (r := ws') e, r1⟩
    · have e1 : getD (kv :: r) k = getD r k := by simp [getD, List.find?_cons, e]
      rw [e1, valV_neg (p := (kv.1, v)) (r := ws') e]
      exact DR.get h
theorem DR.map {k : L2.Key} {g : G} {v : V} (rv : Rg W S H g v) : ∀ {kvs : Kv} {ws : List (L2.Key × V)}, DR W S H kvs ws → DR W S H (kvs.map fun kv => if kv.1 = k then (kv.1, g) else kv) (ws.map fun kv => if kv.1 = k then (kv.1, v) else kv)
  | [], _, h => by cases h; rfl
  | kv :: r, _, h => by
    obtain ⟨x, ws', rfl, r1, h⟩ := h
    by_cases e : kv.1 = k
    · refine ⟨v, ws'.map fun kv => if kv.1 = k then (kv.1, v) else kv, ?_, ?_, DR.map rv h⟩
      · simp [e]
      · simp only [if_pos e]; exact rv
    · refine ⟨x, ws'.map fun kv => if kv.1 = k then (kv.1, v) else kv, ?_, ?_, DR.map rv h⟩
      · simp [e]
      · simp only [if_neg e]; exact r1
theorem DR.app : ∀ {kvs kvs' : Kv} {ws ws' : List (L2.Key × V)}, DR W S H kvs ws → DR W S H kvs' ws' → DR W S H (kvs ++ kvs') (ws ++ ws')
  | [], _, _, _, h, h' => by cases h; exact h'
  | kv :: r, _, _, _, h, h' => by obtain ⟨x, ws', rfl, r1, h⟩ := h; exact ⟨x, _, rfl, r1, h.app h'⟩
theorem DR.any {k : L2.Key} {kvs : Kv} {ws : List (L2.Key × V)} (h : DR W S H kvs ws) : (ws.any fun kv => decide (kv.1 = k)) = kvs.any fun kv => decide (kv.1 = k) := by
  have e1 : ∀ l : List (L2.Key × V), (l.any fun kv => decide (kv.1 = k)) = (l.map (·.1)).any fun x => decide (x = k) := fun l => by rw [List.any_map]; rfl
  have e2 : ∀ l : Kv, (l.any fun kv => decide (kv.1 = k)) = (l.map (·.1)).any fun x => decide (x = k) := fun l => by rw [List.any_map]; rfl
  rw [e1, e2, h.fst]
theorem DR.put {k : L2.Key} {g : G} {v : V} {kvs : Kv} {ws : List (L2.Key × V)} (h : DR W S H kvs ws) (rv : Rg W S H g v) : DR W S H (putD kvs k g) (putK ws k v) := by
  unfold putD putK
  rw [h.any]
  split
  · exact DR.map rv h
  · exact h.app ⟨v, [], rfl, rv, rfl⟩
/-- a dict that is looked at -/
theorem RgB.dict {kvs : Kv} {v : V} (h : RgB W S H (dG kvs) v) : ∃ p ws, v = .ref p ∧ Rd H p (.dK ws) ∧ DR W S H kvs ws := by
  rcases h with ⟨p, vs, e, _, h1, h2, h3⟩ | ⟨p, o, e, h1, h2⟩
  · exact ⟨p, _, e, h1, DR.of h3⟩
  · obtain ⟨ws, rfl, h3⟩ := dG_ro h2
    exact ⟨p, ws, e, .inl h1, h3⟩
end
theorem putD_len (kvs : Kv) (k : L2.Key) (g : G) : (putD kvs k g).length ≤ kvs.length + 1 := by
  unfold putD
  split
  · rw [List.length_map]; omega
  · rw [List.length_append]; exact Nat.le_refl _
theorem keyG_v {W : Wd} {S : AS} {H : Hp} {k : L2.Key} {v : V} (h : Rg W S H (keyG k) v) : v = kV k := rg_key h
section
variable {X : Cx} {K : PySem.W.Frag} {a e f o i : Expr} {ta td ty tx tv : TE} {ua ud uy ux uv : UE} {pos pos' : Pos}
/-- {} -/
def uDNew : UE := fun ρ Φ => Φ ρ (dG [])
theorem gn_dnew : GN X (.Dict [] [] pos) tDNewK uDNew := ⟨pe_dnewK, fun F _ ρ Φ σ H S Q q R j p hp => by
  obtain ⟨n, R1, r1, fr⟩ := new_lst (g := dG []) R hp ⟨[], rfl, rfl, rfl⟩
  exact j ρ _ p _ _ _ q n R1 (.inr rfl) upd_same r1 fr⟩
theorem v_dnew {ρ : RS} {Φ : RS → G → Prop} (q : Φ ρ (dG [])) : uDNew ρ Φ := q
/-- x[k] = v, x one's own dict -/
def uPutD (ix : Nat) (uy uv : UE) : US := fun B ρ => uv ρ fun ρ1 g => (∃ f g0, ρ1[ix]? = some (.ow f g0)) ∧ uy ρ1 fun ρ2 y => ∃ f kvs k, ρ2[ix]? = some (.ow f (dG kvs)) ∧ y = keyG k ∧ kvs.length < 100000 ∧ B.nx (ρ2.set ix (.ow f (dG (putD kvs k g))))
theorem gs_putD (hu : X.A.units + 1 < cLine) (ix : Nat) {x : Str} {p : Pos} (hi : GE X i ty uy) (hv : GE X e tv uv) (hN : X.N[ix]? = some x := by rfl) (hvs : Vis X.env.scope x := by first | exact Or.inl rfl | exact Or.inr (Or.inl rfl) | exact Or.inr (Or.inr rfl)) (hd : (x == ("__debug__" : Str)) = false := by decide) (hcd : (x == ("__classdict__" : Str)) = false := by decide)
    (hs : swapsWith e (some (.Subscript (.Name x p) i pos')) pos.line X.env = pure false := by rfl) : GS X (.Assign [.Subscript (.Name x p) i pos'] e pos) (sDPut (tVar ix) ty tv) (uPutD ix uy uv) :=
  ⟨ps_dput hu (pe_var hN hvs hd hcd) hi.pe hv.pe hs, fun F h ρ B σ H S D q R m => hv.le F h ρ _ σ H S _ q R fun ρ1 g v H1 S1 ⟨⟨f0, g0, h0⟩, q1⟩ n1 R1 r1 => by
    obtain ⟨a, u, ha, _⟩ := R1.own h0
    refine ⟨_, ha, hi.le F h ρ1 _ σ H1 S1 _ q1 R1 fun ρ2 y vy H2 S2 ⟨f, kvs, k, hg, ey, hl, q2⟩ n2 R2 r2 => ?_⟩
    subst ey
    cases keyG_v r2
    obtain ⟨a', u', ha', s1, h1, rO, _⟩ := R2.own hg
    rw [ha] at ha'
    cases ha'
    obtain ⟨ws, rfl, dr⟩ := dG_ro rO
    refine ⟨a, _, rfl, .k h1 (by have := dr.len; have := len_ok (n := 100000) (Nat.le_refl _); omega), ?_⟩
    obtain ⟨R3, n3⟩ := R2.mut hg ha (dG_or (dr.put (k := k) (r1.nx n2)))
    exact m.nx _ _ _ S2 q2 ((n1.trans n2).trans n3) R3⟩
theorem v_putD {ix : Nat} {B : Bs} {ρ : RS} (q : uv ρ fun ρ1 g => (∃ f g0, ρ1[ix]? = some (.ow f g0)) ∧ uy ρ1 fun ρ2 y => ∃ f kvs k, ρ2[ix]? = some (.ow f (dG kvs)) ∧ y = keyG k ∧ kvs.length < 100000 ∧ B.nx (ρ2.set ix (.ow f (dG (putD kvs k g))))) : uPutD ix uy uv B ρ := q
/-- x[k], of a dict that stands still; of one's own -/
def uDGet (ud uy : UE) : UE := fun ρ Φ => ud ρ fun ρ1 d => ∃ kvs, d = dG kvs ∧ uy ρ1 fun ρ2 y => ∃ k g, y = keyG k ∧ getD kvs k = some g ∧ Φ ρ2 g
theorem k_dget (hu : X.A.units + 1 < cLine) (ho : GE X o td ud) (hi : GE X i ty uy) (hs : NoSl i := by exact (fun _ _ => rfl)) : GE X (.Subscript o i pos) (tDGet td ty) (uDGet ud uy) :=
  ⟨pe_dget hu ho.pe hi.pe hs, fun F h ρ Φ σ H S Q q R j => ho.le F h ρ _ σ H S _ q R fun ρ1 d v H1 S1 ⟨kvs, ed, q1⟩ n1 R1 r1 => by
    subst ed
    obtain ⟨p, vs, rfl, k1, k2, k3, k4⟩ := r1
    refine hi.le F h ρ1 _ σ H1 S1 _ q1 R1 fun ρ2 y vy H2 S2 ⟨k, g, ey, eg, q2⟩ n2 R2 r2 => ?_
    subst ey
    cases keyG_v r2
    have k2' := n2.rd k2 k1
    rcases (DR.of (k4.nx n2)).get (k := k) with ⟨g', v, e1, e2, rv⟩ | ⟨e1, _⟩
    · rw [eg] at e1
      cases e1
      exact ⟨p, v, rfl, e2 ▸ .inl ⟨_, _, k2', rfl, rfl⟩, j ρ2 g v H2 S2 q2 (n1.trans n2) R2 rv⟩
    · rw [eg] at e1
      cases e1⟩
theorem v_dget {ρ : RS} {Φ : RS → G → Prop} (q : ud ρ fun ρ1 d => ∃ kvs, d = dG kvs ∧ uy ρ1 fun ρ2 y => ∃ k g, y = keyG k ∧ getD kvs k = some g ∧ Φ ρ2 g) : uDGet ud uy ρ Φ := q
def uDGetO (ix : Nat) (uy : UE) : UE := fun ρ Φ => (∃ f g0, ρ[ix]? = some (.ow f g0)) ∧ uy ρ fun ρ1 y => ∃ f kvs k g, ρ1[ix]? = some (.ow f (dG kvs)) ∧ y = keyG k ∧ getD kvs k = some g ∧ Φ ρ1 g
theorem k_dgetO (hu : X.A.units + 1 < cLine) (ix : Nat) {x : Str} {p : Pos} (hi : GE X i ty uy) (hs : NoSl i := by exact (fun _ _ => rfl)) (hN : X.N[ix]? = some x := by rfl) (hvs : Vis X.env.scope x := by first | exact Or.inl rfl | exact Or.inr (Or.inl rfl) | exact Or.inr (Or.inr rfl)) (hd : (x == ("__debug__" : Str)) = false := by decide) (hcd : (x == ("__classdict__" : Str)) = false := by decide) :
    GE X (.Subscript (.Name x p) i pos) (tDGet (tVar ix) ty) (uDGetO ix uy) :=
  ⟨pe_dget hu (pe_var hN hvs hd hcd) hi.pe hs, fun F h ρ Φ σ H S Q ⟨⟨f0, g0, h0⟩, q⟩ R j => by
    obtain ⟨a, u, ha, _⟩ := R.own h0
    refine ⟨_, ha, hi.le F h ρ _ σ H S _ q R fun ρ2 y vy H2 S2 ⟨f, kvs, k, g, hg, ey, eg, q2⟩ n2 R2 r2 => ?_⟩
    subst ey
    cases keyG_v r2
    obtain ⟨a', u', ha', s1, h1, rO, _⟩ := R2.own hg
    rw [ha] at ha'
    cases ha'
    obtain ⟨ws, rfl, dr⟩ := dG_ro rO
    rcases dr.get (k := k) with ⟨g', v, e1, e2, rv⟩ | ⟨e1, _⟩
    · rw [eg] at e1
      cases e1
      exact ⟨a, v, rfl, e2 ▸ .k h1, j ρ2 g v H2 S2 q2 n2 R2 rv⟩
    · rw [eg] at e1
      cases e1⟩
theorem v_dgetO {ix : Nat} {f0 : Bool} {g0 : G} {ρ : RS} {Φ : RS → G → Prop} (h : ρ[ix]? = some (.ow f0 g0)) (q : uy ρ fun ρ1 y => ∃ f kvs k g, ρ1[ix]? = some (.ow f (dG kvs)) ∧ y = keyG k ∧ getD kvs k = some g ∧ Φ ρ1 g) : uDGetO ix uy ρ Φ := ⟨⟨_, _, h⟩, q⟩
/-- k in x -/
def uDIn (h : Bool → Bool) (uy ud : UE) : UE := fun ρ Φ => uy ρ fun ρ1 y => ud ρ1 fun ρ2 d => ∃ kvs k, d = dG kvs ∧ y = keyG k ∧ Φ ρ2 (.bl (h (getD kvs k).isSome))
theorem le_din {F : Fr} {h : Bool → Bool} (hi : LE F ty uy) (ho : LB F td ud) : LE F (fun σ H Q => ty σ H fun y H1 => td σ H1 fun x H2 => ∃ a o, x = .ref a ∧ DGet H2 a y o ∧ Q (.bl (h o.isSome)) H2) (uDIn h uy ud) := fun ρ Φ σ H S Q q R j => by
  refine hi ρ _ σ H S _ q R fun ρ1 y vy H1 S1 q1 n1 R1 r1 => ho ρ1 _ σ H1 S1 _ q1 R1 fun ρ2 d v H2 S2 ⟨kvs, k, ed, ey, q2⟩ n2 R2 r2 => ?_
  subst ed
  subst ey
  cases keyG_v r1
  obtain ⟨p, ws, rfl, h1, dr⟩ := r2.dict
  refine ⟨p, _, rfl, .inl ⟨_, _, h1, rfl, rfl⟩, ?_⟩
  have e : (valV ws k).isSome = (getD kvs k).isSome := by
    rcases dr.get (k := k) with ⟨g', v, e1, e2, rv⟩ | ⟨e1, e2⟩
    · rw [e1, e2]; rfl
    · rw [e1, e2]; rfl
  rw [e]
  exact j ρ2 _ _ H2 S2 q2 (n1.trans n2) R2 rfl
theorem kt_din (hu : X.A.units + 1 < cLine) (hi : GE X i ty uy) (ho : GB X o td ud) (hm : behindInMarks .In o = false := by rfl) : GT X (.Compare i [.In] [o] pos) (tTest (tDIn ty td)) (uTest (uDIn (fun b => b) uy ud)) := ⟨pt_cmp (pc_din hu hi.pe ho.pe) hm, fun F h => le_test (le_din (h := fun b => b) (hi.le F h) (ho.le F h))⟩
theorem kt_dnotin (hu : X.A.units + 1 < cLine) (hi : GE X i ty uy) (ho : GB X o td ud) (hm : behindInMarks .NotIn o = false := by rfl) : GT X (.Compare i [.NotIn] [o] pos) (tTest (tDNotIn ty td)) (uTest (uDIn (fun b => !b) uy ud)) := ⟨pt_cmp (pc_dnotin hu hi.pe ho.pe) hm, fun F h => le_test (le_din (h := fun b => !b) (hi.le F h) (ho.le F h))⟩
theorem k_din (hu : X.A.units + 1 < cLine) (hi : GE X i ty uy) (ho : GB X o td ud) (hm : behindInMarks .In o = false := by rfl) : GE X (.Compare i [.In] [o] pos) (tDIn ty td) (uDIn (fun b => b) uy ud) := ⟨pe_cmp (pc_din hu hi.pe ho.pe) hm, fun F h => le_din (h := fun b => b) (hi.le F h) (ho.le F h)⟩
theorem k_dnotin (hu : X.A.units + 1 < cLine) (hi : GE X i ty uy) (ho : GB X o td ud) (hm : behindInMarks .NotIn o = false := by rfl) : GE X (.Compare i [.NotIn] [o] pos) (tDNotIn ty td) (uDIn (fun b => !b) uy ud) := ⟨pe_cmp (pc_dnotin hu hi.pe ho.pe) hm, fun F h => le_din (h := fun b => !b) (hi.le F h) (ho.le F h)⟩
theorem v_din {ρ : RS} {Φ : RS → G → Prop} {h : Bool → Bool} (q : uy ρ fun ρ1 y => ud ρ1 fun ρ2 d => ∃ kvs k, d = dG kvs ∧ y = keyG k ∧ Φ ρ2 (.bl (h (getD kvs k).isSome))) : uDIn h uy ud ρ Φ := q
/-- x.get(k, z), one's own dict -/
def uDGetZ (ix : Nat) (uy ux : UE) : UE := fun ρ Φ => (∃ f kvs, ρ[ix]? = some (.ow f (dG kvs))) ∧ uy ρ fun ρ1 y => ux ρ1 fun ρ2 z => ∃ f kvs k, ρ2[ix]? = some (.ow f (dG kvs)) ∧ y = keyG k ∧ Φ ρ2 ((getD kvs k).getD z)
theorem k_dgetZ {apos : Pos} (hu : X.A.units + 1 < cLine) (ix : Nat) {x : Str} {p : Pos} (he : GE X e ty uy) (hf : GE X f tx ux) (hN : X.N[ix]? = some x := by rfl) (hvs : Vis X.env.scope x := by first | exact Or.inl rfl | exact Or.inr (Or.inl rfl) | exact Or.inr (Or.inr rfl)) (hd : (x == ("__debug__" : Str)) = false := by decide) (hcd : (x == ("__classdict__" : Str)) = false := by decide)
    (hb : attributeBase (.Name x p) "get" X.env (eval (.Name x p) X.env) = eval (.Name x p) X.env := by rfl)
    (hw : ((backTo pos (starEach [e, f] X.env)).all (fun x => !x.1) && (backToKw pos (keywordEach [] X.env)).all (fun x => x.1.isSome) && decide (([e, f] : List Expr).length + ([] : List Keyword).length + (if ([] : List Keyword).isEmpty then 0 else 1) < 30)) = true := by rfl)
    (hl : (apos.endLine == pos.line) = true := by rfl) (hs : backTo pos (starEach [e, f] X.env) = [(false, eval e X.env), (false, eval f X.env)] := by rfl) :
    GE X (.Call (.Attribute (.Name x p) "get" apos) [e, f] [] pos) (tDGet2 (tVar ix) ty tx) (uDGetZ ix uy ux) :=
  ⟨pe_dget2 hu (pe_var hN hvs hd hcd) he.pe hf.pe ⟨hb, hw, hl, hs⟩, fun F h ρ Φ σ H S Q ⟨⟨f0, kvs0, h0⟩, q⟩ R j => by
    obtain ⟨a, u, ha, _, h00, rO0, _⟩ := R.own h0
    obtain ⟨ws0, rfl, _⟩ := dG_ro rO0
    refine ⟨_, ha, a, rfl, .inl ⟨_, .inl h00⟩, he.le F h ρ _ σ H S _ q R fun ρ1 y vy H1 S1 q1 n1 R1 r1 => hf.le F h ρ1 _ σ H1 S1 _ q1 R1 fun ρ2 z vz H2 S2 ⟨f, kvs, k, hg, ey, q2⟩ n2 R2 r2 => ?_⟩
    subst ey
    cases keyG_v r1
    obtain ⟨a', u', ha', s1, h1, rO, _⟩ := R2.own hg
    rw [ha] at ha'
    cases ha'
    obtain ⟨ws, rfl, dr⟩ := dG_ro rO
    refine ⟨_, .k h1, ?_⟩
    rcases dr.get (k := k) with ⟨g', v, e1, e2, rv⟩ | ⟨e1, e2⟩
    · rw [e1] at q2
      rw [e2]
      exact j ρ2 g' v H2 S2 q2 (n1.trans n2) R2 rv
    · rw [e1] at q2
      rw [e2]
      exact j ρ2 z vz H2 S2 q2 (n1.trans n2) R2 r2⟩
theorem v_dgetZ {ix : Nat} {f0 : Bool} {kvs0 : Kv} {ρ : RS} {Φ : RS → G → Prop} (h : ρ[ix]? = some (.ow f0 (dG kvs0))) (q : uy ρ fun ρ1 y => ux ρ1 fun ρ2 z => ∃ f kvs k, ρ2[ix]? = some (.ow f (dG kvs)) ∧ y = keyG k ∧ Φ ρ2 ((getD kvs k).getD z)) : uDGetZ ix uy ux ρ Φ := ⟨⟨_, _, h⟩, q⟩
end
end Zn
/-! dict(x), sorted(x) of a dict; for k, v in x.items() -/
namespace Zn
open PySem PySem.Spec PyProof.Rows L2 TL
def ucDict : G → (G → Prop) → Prop := fun g Φ => ∃ kvs, g = dG kvs ∧ Φ (dG kvs)
def ucSortD : G → (G → Prop) → Prop := fun g Φ => ∃ (kvs : Kv) (ns : List Int), g = dG kvs ∧ kvs.map (·.1) = ns.map Sum.inl ∧ ns.length < 64 ∧ ∀ ns' : List Int, ns'.Perm ns → ns'.Pairwise (· ≤ ·) → Φ (.lst (ns'.map G.int))
section
variable {X : Cx} {K : PySem.W.Frag} {a : Expr} {ta : TE} {ua : UE} {pos : Pos}
theorem gc_dict : GCN X (.type "dict") (fun xs H Q => ∃ (a : Addr) (kvs : List (Key × V)), xs = [.ref a] ∧ Rd H a (.dK kvs) ∧ ∀ p, H p = none → Q (.ref p) (upd H p (.dK kvs))) ucDict := ⟨call_dictD, fun W S H g v Φ Q hk r ⟨kvs, e, q⟩ k => by
  subst e
  obtain ⟨p, ws, rfl, h1, dr⟩ := r.dict
  exact ⟨p, ws, rfl, h1, fun l hl => k _ _ l q hl (dG_or dr)⟩⟩
theorem gc_sortD (hc : X.calm = true) : GCN X (.builtin "sorted") (fun xs H Q => ∃ (a : Addr) (kvs : List (Key × V)) (ks : List Int), xs = [.ref a] ∧ Rd H a (.dK kvs) ∧ kvs.map (·.1) = ks.map Sum.inl ∧ ks.length < 64 ∧
    ∀ (ys : List Int) (p : Addr), ys.Perm ks → ys.Pairwise (· ≤ ·) → H p = none → Q (.ref p) (upd H p (.lst (ys.map V.int)))) ucSortD := ⟨call_sortedDI hc, fun W S H g v Φ Q hk r ⟨kvs, ns, e, e2, l, q⟩ k => by
  subst e
  obtain ⟨p, ws, rfl, h1, dr⟩ := r.dict
  exact ⟨p, ws, ns, rfl, h1, by rw [dr.fst, e2], l, fun ys l' h3 h4 hl => k _ _ l' (q ys h3 h4) hl ⟨_, rfl, .of_ints⟩⟩⟩
theorem k_dict {p : Pos} (hg : Gl X "dict") (hm : X.mg "dict" = none) (ha : GB X a ta ua) (he : starEach [a] X.env = (false, eval a X.env) :: starEach [] X.env := by rfl) : GN X (.Call (.Name "dict" p) [a] [] pos) (tCB (fun xs H Q => ∃ (a : Addr) (kvs : List (Key × V)), xs = [.ref a] ∧ Rd H a (.dK kvs) ∧ ∀ p, H p = none → Q (.ref p) (upd H p (.dK kvs))) (tCons ta tNil)) (u1 ucDict ua) :=
  gn_callTy1 gc_dict hg hm (by decide +kernel) ha (by decide) (by decide) he
theorem k_sortD {p : Pos} (hc : X.calm = true) (hg : Gl X "sorted") (hm : X.mg "sorted" = none) (ha : GB X a ta ua) (he : starEach [a] X.env = (false, eval a X.env) :: starEach [] X.env := by rfl) : GN X (.Call (.Name "sorted" p) [a] [] pos) (tCB (fun xs H Q => ∃ (a : Addr) (kvs : List (Key × V)) (ks : List Int), xs = [.ref a] ∧ Rd H a (.dK kvs) ∧ kvs.map (·.1) = ks.map Sum.inl ∧ ks.length < 64 ∧
    ∀ (ys : List Int) (p : Addr), ys.Perm ks → ys.Pairwise (· ≤ ·) → H p = none → Q (.ref p) (upd H p (.lst (ys.map V.int)))) (tCons ta tNil)) (u1 ucSortD ua) :=
  gn_call1 (gc_sortD hc) hg hm (by decide +kernel) ha (by decide) (by decide) he
end
/-! a dict locked while it is walked -/
section
variable {W : Wd} {S : AS} {H : Hp} {d : Addr} {od : Obj} {ws : List (L2.Key × V)}
theorem rd_lock (hd : H d = some (.dK ws)) {p : Addr} {u : HO} (hu : (∃ kvs, u = .dK kvs) ∨ ∃ kvs, u = .dT kvs) (h : Rd H p u) : Rd (upd H d (.frz od (.dK ws))) p u := by
  by_cases e : p = d
  · subst e
    rcases h with h | ⟨q, h⟩
    · rw [hd] at h
      cases h
      exact .inr ⟨od, upd_same⟩
    · rw [hd] at h
      cases h
  · rcases h with h | ⟨q, h⟩
    · exact .inl (by rw [upd_ne e]; exact h)
    · exact .inr ⟨q, by rw [upd_ne e]; exact h⟩
theorem rd_unlock (hd : H d = some (.frz od (.dK ws))) {p : Addr} {u : HO} (hu : (∃ kvs, u = .dK kvs) ∨ ∃ kvs, u = .dT kvs) (h : Rd H p u) : Rd (upd H d (.dK ws)) p u := by
  by_cases e : p = d
  · subst e
    rcases h with h | ⟨q, h⟩
    · rw [hd] at h
      cases h
      rcases hu with ⟨_, z⟩ | ⟨_, z⟩ <;> cases z
    · rw [hd] at h
      cases h
      exact .inl upd_same
  · rcases h with h | ⟨q, h⟩
    · exact .inl (by rw [upd_ne e]; exact h)
    · exact .inr ⟨q, by rw [upd_ne e]; exact h⟩
end
/-- a change of heaps that keeps all that values tell -/
structure Alk (H H' : Hp) : Prop where
  l : ∀ p xs, H p = some (.lst xs) → H' p = some (.lst xs)
  t : ∀ p xs, H p = some (.tup xs) → H' p = some (.tup xs)
  r : ∀ p u, ((∃ kvs, u = .dK kvs) ∨ ∃ kvs, u = .dT kvs) → Rd H p u → Rd H' p u
  e : ∀ p φ, H p = some (.ext φ) → H' p = some (.ext φ)
  i : ∀ p C dx fs, H p = some (.ins C dx fs) → H' p = some (.ins C dx fs)
section
variable {W : Wd} {S : AS} {H H' : Hp}
mutual
theorem Rg.alk (n : Alk H H') : ∀ {g : G} {v : V}, Rg W S H g v → Rg W S H' g v
  | .non, _, h => h
  | .bl _, _, h => h
  | .int _, _, h => h
  | .str _, _, h => h
  | .drw, _, h => h
  | .raw _, _, h => h
  | .tup gs, v, h => by
    obtain ⟨p, vs, e, ht, hs⟩ := h
    refine ⟨p, vs, e, ?_, RgL.alk n hs⟩
    rcases ht with ht | ht
    · exact .inl (n.t _ _ ht)
    · exact .inr ht
  | .lst gs, v, h => by
    obtain ⟨p, vs, e, k, ht, hs⟩ := h
    exact ⟨p, vs, e, k, n.l _ _ ht, RgL.alk n hs⟩
  | .dK ks gs, v, h => by
    obtain ⟨p, vs, e, k, ht, l, hs⟩ := h
    exact ⟨p, vs, e, k, n.r _ _ (.inl ⟨_, rfl⟩) ht, l, RgL.alk n hs⟩
  | .dT ks gs, v, h => by
    obtain ⟨p, vs, e, k, ht, l, hs⟩ := h
    exact ⟨p, vs, e, k, n.r _ _ (.inr ⟨_, rfl⟩) ht, l, RgL.alk n hs⟩
  | .dN w ks gs, v, h => by
    obtain ⟨p, q, xs, e, k, ht, e1, e2, h1, h2⟩ := h
    exact ⟨p, q, xs, e, k, n.e _ _ ht, e1, e2, RgL.alk n h1, RgL.alk n h2⟩
  | .obj C, v, h => by
    obtain ⟨p, dx, e, k, ht⟩ := h
    exact ⟨p, dx, e, k, n.i _ _ _ _ ht⟩
  | .ins C dx ks gs, v, h => by
    obtain ⟨p, vs, e, k, ht, l, hs⟩ := h
    exact ⟨p, vs, e, k, n.i _ _ _ _ ht, l, RgL.alk n hs⟩
theorem RgL.alk (n : Alk H H') : ∀ {gs : List G} {vs : List V}, RgL W S H gs vs → RgL W S H' gs vs
  | [], _, h => h
  | g :: gs, vs, h => by
    obtain ⟨v, ws, e, h1, h2⟩ := h
    exact ⟨v, ws, e, Rg.alk n h1, RgL.alk n h2⟩
end
theorem RgO.alk (n : Alk H H') {g : G} {o : HO} (h : RgO W S H g o) : RgO W S H' g o := by
  cases g with
  | lst gs => obtain ⟨vs, e, h⟩ := h; exact ⟨vs, e, h.alk n⟩
  | dK ks gs => obtain ⟨vs, e, l, h⟩ := h; exact ⟨vs, e, l, h.alk n⟩
  | dT ks gs => obtain ⟨vs, e, l, h⟩ := h; exact ⟨vs, e, l, h.alk n⟩
  | dN w ks gs => obtain ⟨q, xs, e, e1, e2, h1, h2⟩ := h; exact ⟨q, xs, e, e1, e2, h1.alk n, h2.alk n⟩
  | ins C dx ks gs => obtain ⟨vs, e, l, h⟩ := h; exact ⟨vs, e, l, h.alk n⟩
  | _ => exact h.elim
theorem alk_lock {d : Addr} {od : Obj} {ws : List (L2.Key × V)} (hd : H d = some (.dK ws)) : Alk H (upd H d (.frz od (.dK ws))) :=
  ⟨fun p xs h => by rw [upd_ne (fun z => by rw [z, hd] at h; cases h)]; exact h, fun p xs h => by rw [upd_ne (fun z => by rw [z, hd] at h; cases h)]; exact h, fun p u hu h => rd_lock hd hu h, fun p φ h => by rw [upd_ne (fun z => by rw [z, hd] at h; cases h)]; exact h, fun p C dx fs h => by rw [upd_ne (fun z => by rw [z, hd] at h; cases h)]; exact h⟩
theorem alk_unlock {d : Addr} {od : Obj} {ws : List (L2.Key × V)} (hd : H d = some (.frz od (.dK ws))) : Alk H (upd H d (.dK ws)) :=
  ⟨fun p xs h => by rw [upd_ne (fun z => by rw [z, hd] at h; cases h)]; exact h, fun p xs h => by rw [upd_ne (fun z => by rw [z, hd] at h; cases h)]; exact h, fun p u hu h => rd_unlock hd hu h, fun p φ h => by rw [upd_ne (fun z => by rw [z, hd] at h; cases h)]; exact h, fun p C dx fs h => by rw [upd_ne (fun z => by rw [z, hd] at h; cases h)]; exact h⟩
end
/-- the frame while d is locked -/
def Fr.lk (F : Fr) (d : Addr) (o : HO) : Fr := { F with H0 := fun b => if b = d then (F.H0 d).map fun _ => o else F.H0 b }
section
variable {F : Fr} {S : AS} {ρ : List SG} {σ : L2.St} {H : Hp} {d : Addr} {od : Obj} {ws : List (L2.Key × V)}
theorem lk_none {o : HO} {b : Addr} : (F.lk d o).H0 b = none ↔ F.H0 b = none := by
  show (if b = d then (F.H0 d).map fun _ => o else F.H0 b) = none ↔ _
  by_cases e : b = d
  · subst e
    rw [if_pos rfl]
    cases F.H0 b <;> simp
  · rw [if_neg e]
theorem Rel.lock (R : Rel F S ρ σ H) (hd : H d = some (.dK ws)) (hs : ¬ S d) : Rel (F.lk d (.frz od (.dK ws))) S ρ σ (upd H d (.frz od (.dK ws))) := by
  have al := alk_lock (od := od) hd
  have hS : ∀ a, S a → a ≠ d := fun a ha z => hs (z ▸ ha)
  have same : ∀ {a : Addr} {o : HO}, S a → H a = some o → upd H d (.frz od (.dK ws)) a = some o := fun {a o} ha e => by rw [upd_ne (hS a ha)]; exact e
  have hne : ∀ a, H a ≠ none → upd H d (.frz od (.dK ws)) a ≠ none := fun a h => by
    by_cases e : a = d
    · rw [e, upd_same]; intro z; cases z
    · rw [upd_ne e]; exact h
  refine ⟨⟨fun a h z => R.ok.s0 a h (lk_none.mp z), R.ok.d, fun a h z => R.ok.p a h (lk_none.mp z)⟩, fun a ha => hne a (R.dom a ha), R.s0, fun k => ⟨(R.dr k).1, (R.dr k).2.upd (hS _ (R.s0 _ (R.ok.d k).1)) fun z => ?_⟩, fun b o k1 k2 e => ?_, fun b xs e => ?_, R.len, fun a ha => hne a (R.pp a ha), fun i s hi => ?_, R.dj, fun q hq => ?_⟩
  · obtain ⟨ns, e⟩ := (R.dr k).2.cl
    rw [z, hd] at e
    cases e
  · have e : (if b = d then (F.H0 d).map fun _ => (HO.frz od (.dK ws)) else F.H0 b) = some o := e
    by_cases eb : b = d
    · subst eb
      rw [if_pos rfl] at e
      cases h0 : F.H0 b with
      | none => rw [h0] at e; cases e
      | some o0 =>
        rw [h0] at e
        cases e
        exact upd_same
    · rw [if_neg eb] at e
      rw [upd_ne eb]
      exact R.kx b o k1 k2 e
  · have e : (if b = d then (F.H0 d).map fun _ => (HO.frz od (.dK ws)) else F.H0 b) = some (.tup xs) := e
    by_cases eb : b = d
    · subst eb
      rw [if_pos rfl] at e
      cases h0 : F.H0 b with
      | none => rw [h0] at e; cases e
      | some o0 => rw [h0] at e; cases e
    · rw [if_neg eb] at e
      rw [upd_ne eb]
      exact R.kt b xs e
  · obtain ⟨o, e, r⟩ := R.sl i s hi
    refine ⟨o, e, ?_⟩
    cases s with
    | un => trivial
    | fz g => obtain ⟨v, e, r⟩ := r; exact ⟨v, e, r.alk al⟩
    | ow f g =>
      obtain ⟨a, u, e', k1, k2, k3, k4, k5⟩ := r
      exact ⟨a, u, e', k1, same k1 k2, k3.alk al, fun z => lk_none.mpr (k4 z), k5⟩
  · obtain ⟨q1, q2, q3, q4, q5⟩ := R.pin q hq
    exact ⟨same q2 q1, q2, q3, q4, lk_none.mpr q5⟩
theorem Rel.unlock {S' : AS} {ρ' : List SG} {σ' : L2.St} {H' : Hp} (R : Rel F S ρ σ H) (hd : H d = some (.dK ws)) (hs : ¬ S d) (n : Nxt S (upd H d (.frz od (.dK ws))) S' H') (R' : Rel (F.lk d (.frz od (.dK ws))) S' ρ' σ' H') :
    H' d = some (.frz od (.dK ws)) ∧ ¬ S' d ∧ Rel F S' ρ' σ' (upd H' d (.dK ws)) ∧ Nxt S H S' (upd H' d (.dK ws)) ∧ Alk H' (upd H' d (.dK ws)) := by
  have hd' : H' d = some (.frz od (.dK ws)) := n.x d _ hs upd_same
  have hs' : ¬ S' d := n.nS upd_same hs
  have al := alk_unlock hd'
  have hS : ∀ a, S' a → a ≠ d := fun a ha z => hs' (z ▸ ha)
  have same : ∀ {a : Addr} {o : HO}, S' a → H' a = some o → upd H' d (.dK ws) a = some o := fun {a o} ha e => by rw [upd_ne (hS a ha)]; exact e
  have hne : ∀ a, H' a ≠ none → upd H' d (.dK ws) a ≠ none := fun a h => by
    by_cases e : a = d
    · rw [e, upd_same]; intro z; cases z
    · rw [upd_ne e]; exact h
  have h0e : ∀ b, b ≠ d → (F.lk d (.frz od (.dK ws))).H0 b = F.H0 b := fun b e => by
    show (if b = d then _ else F.H0 b) = _
    rw [if_neg e]
  refine ⟨hd', hs', ⟨⟨fun a h z => R'.ok.s0 a h (lk_none.mpr z), R'.ok.d, fun a h z => R'.ok.p a h (lk_none.mpr z)⟩, fun a ha => hne a (R'.dom a ha), R'.s0, fun k => ⟨(R'.dr k).1, (R'.dr k).2.upd (hS _ (R'.s0 _ (R'.ok.d k).1)) fun z => ?_⟩, fun b o k1 k2 e => ?_, fun b xs e => ?_, R'.len, fun a ha => hne a (R'.pp a ha), fun i s hi => ?_, R'.dj, fun q hq => ?_⟩, ⟨fun b o k e => ?_, fun b xs e => ?_, fun a k => ?_⟩, al⟩
  · obtain ⟨ns, e⟩ := (R'.dr k).2.cl
    have e : H' F.c = _ := e
    have z : F.c = d := z
    rw [z, hd'] at e
    cases e
  · by_cases eb : b = d
    · subst eb
      rw [upd_same]
      have := R.kx b o k1 k2 e
      rw [hd] at this
      exact this
    · rw [upd_ne eb]
      exact R'.kx b o k1 k2 (by rw [h0e b eb]; exact e)
  · by_cases eb : b = d
    · subst eb
      have := R.kt b xs e
      rw [hd] at this
      cases this
    · rw [upd_ne eb]
      exact R'.kt b xs (by rw [h0e b eb]; exact e)
  · obtain ⟨o, e, r⟩ := R'.sl i s hi
    refine ⟨o, e, ?_⟩
    cases s with
    | un => trivial
    | fz g => obtain ⟨v, e, r⟩ := r; exact ⟨v, e, Rg.alk (W := F.toWd) al r⟩
    | ow f g =>
      obtain ⟨a, u, e', k1, k2, k3, k4, k5⟩ := r
      exact ⟨a, u, e', k1, same k1 k2, RgO.alk (W := F.toWd) al k3, fun z => lk_none.mp (k4 z), k5⟩
  · obtain ⟨q1, q2, q3, q4, q5⟩ := R'.pin q hq
    exact ⟨same q2 q1, q2, q3, q4, lk_none.mp q5⟩
  · by_cases eb : b = d
    · subst eb
      rw [upd_same, ← hd, e]
    · rw [upd_ne eb]
      exact n.x b o k (by rw [upd_ne eb]; exact e)
  · have eb : b ≠ d := fun z => by rw [z, hd] at e; cases e
    rw [upd_ne eb]
    exact n.t b xs (by rw [upd_ne eb]; exact e)
  · rcases n.s a k with z | z
    · exact .inl z
    · have ea : a ≠ d := fun z' => by rw [z', upd_same] at z; cases z
      rw [upd_ne ea] at z
      exact .inr z
end
end Zn
/-! for k, v in x.items() of a dict that stands still; a comprehension over it -/
namespace Zn
open PySem PySem.Spec PyProof.Rows L2 TL
def tEiS (t1 t2 : TS) : TS := fun D σ H => t1 D σ H ∨ t2 D σ H
theorem ps_ei {X : Cx} {st : Stmt} {t1 t2 : TS} (h1 : PS X st t1) (h2 : PS X st t2) : PS X st (tEiS t1 t2) :=
  ⟨fun pins s σ H D I h => h.elim (h1.run pins s σ H D I) (h2.run pins s σ H D I)⟩
def itemsG (kvs : Kv) : List G := kvs.map fun kv => .tup [keyG kv.1, kv.2]
theorem itemsG_len {kvs : Kv} : (itemsG kvs).length = kvs.length := List.length_map ..
theorem itemsG_get {kvs : Kv} {i : Nat} {g : G} (h : (itemsG kvs)[i]? = some g) : ∃ kv, kvs[i]? = some kv ∧ g = .tup [keyG kv.1, kv.2] := by
  obtain ⟨kv, h, e⟩ := get_map h
  exact ⟨kv, h, e.symm⟩
theorem rg_keyG {W : Wd} {S : AS} {H : Hp} (k : L2.Key) : Rg W S H (keyG k) (kV k) := by cases k <;> exact rfl
theorem DR.at {W : Wd} {S : AS} {H : Hp} {i : Nat} {k : L2.Key} {v : V} : ∀ {kvs : Kv} {ws : List (L2.Key × V)}, DR W S H kvs ws → ws[i]? = some (k, v) → ∃ g, kvs[i]? = some (k, g) ∧ Rg W S H g v
  | [], _, h, e => by cases h; simp at e
  | kv :: r, _, h, e => by
    obtain ⟨x, ws', rfl, r1, h⟩ := h
    cases i with
    | zero =>
      simp at e
      obtain ⟨e1, e2⟩ := e
      subst e1
      subst e2
      exact ⟨kv.2, rfl, r1⟩
    | succ i => rw [List.getElem?_cons_succ] at e ⊢; exact DR.at h (by simpa using e) (i := i)
theorem DR.nx {W : Wd} {S S' : AS} {H H' : Hp} (n : Nxt S H S' H') : ∀ {kvs : Kv} {ws : List (L2.Key × V)}, DR W S H kvs ws → DR W S' H' kvs ws
  | [], _, h => h
  | _ :: _, _, h => by obtain ⟨x, ws', e, r1, h⟩ := h; exact ⟨x, ws', e, r1.nx n, h.nx n⟩
theorem DR.alk {W : Wd} {S : AS} {H H' : Hp} (n : Alk H H') : ∀ {kvs : Kv} {ws : List (L2.Key × V)}, DR W S H kvs ws → DR W S H' kvs ws
  | [], _, h => h
  | _ :: _, _, h => by obtain ⟨x, ws', e, r1, h⟩ := h; exact ⟨x, ws', e, r1.alk n, h.alk n⟩
def uItems (i : Nat) : UA := fun ρ Φ => ∃ kvs, ρ[i]? = some (.fz (dG kvs)) ∧ Φ ρ (itemsG kvs)
theorem isIt_items {F : Fr} {S : AS} {H : Hp} {d : Addr} {od : Obj} {kvs : Kv} {ws : List (L2.Key × V)} (hs : ¬ S d) (hd : H d = some (.frz od (.dK ws))) (dr : DR F.toWd S H kvs ws) : IsIt F S H (Iti d od ws) (itemsG kvs) := by
  have hl := dr.len
  refine ⟨fun i H1 S1 hi n => ⟨n.x _ _ hs hd, by rw [itemsG_len] at hi; omega⟩, fun H1 S1 n => ⟨n.x _ _ hs hd, by rw [itemsG_len]; omega⟩, fun i H1 S1 x H2 hi n y => ?_⟩
  obtain ⟨T, k, v, e1, rfl, hT, rfl⟩ := y
  obtain ⟨g, eg, rv⟩ := (dr.nx n).at e1
  exact ⟨same_new hT, _, by unfold itemsG; rw [List.getElem?_map, eg]; rfl, rg_tup hT (gs := [keyG k, g]) ⟨_, _, rfl, rg_keyG k, _, _, rfl, rv, rfl⟩⟩
theorem lockAt {F : Fr} {ρ : RS} {σ : L2.St} {H : Hp} {S : AS} {i : Nat} {d : Addr} {od : Obj} {kvs : Kv} {ws : List (L2.Key × V)} (hi : ρ[i]? = some (.fz (dG kvs))) (hσ : σ[i]? = some (some (.ref d))) (hs : ¬ S d) (hd : H d = some (.frz od (.dK ws))) (dr : DR F.toWd S H kvs ws) :
    LIat F ρ σ H S (iItems (tVar i)) (uItems i) := fun Φ R ⟨kvs', hi', q⟩ Rl k => by
  rw [hi] at hi'
  obtain e := SG.fz.inj (Option.some.inj hi')
  have ek : kvs = kvs' := by
    obtain ⟨e1, e2⟩ := G.dK.inj e
    clear hi hi' q dr e
    induction kvs generalizing kvs' with
    | nil => cases kvs' with
      | nil => rfl
      | cons a l => cases e1
    | cons a l ih =>
      cases kvs' with
      | nil => cases e1
      | cons b m =>
        rw [List.map_cons, List.map_cons] at e1 e2
        obtain ⟨a1, a2⟩ := List.cons.inj e1
        obtain ⟨b1, b2⟩ := List.cons.inj e2
        rw [ih m a2 b2, Prod.ext a1 b1]
  subst ek
  exact ⟨_, hσ, d, od, ws, rfl, hd, k ρ _ _ H S q (.refl _ _) Rl (isIt_items hs hd dr)⟩
theorem le_forItems {F : Fr} {i : Nat} {is : List Nat} {g : TG} {ug : UG} {tb : TS} {ub : US} (hg : ∀ F' : Fr, F'.K = F.K → LG F' is g ug) (hb : ∀ F' : Fr, F'.K = F.K → LS F' tb ub) :
    LS F (tEiS (tLock (tFor (iItems (tVar i)) g tb)) (tFor (iItems (tVar i)) g tb)) (uFor (uItems i) ug ub) := fun ρ B σ H S E q R m => by
  obtain ⟨kvs, hi, q'⟩ := id q
  obtain ⟨o, e, v, rfl, p, vs, rfl, hs, h1, h2, h3⟩ := R.sl i _ hi
  have dr := DR.of h3
  rcases h1 with h1 | ⟨od, h1⟩
  · refine .inl ⟨p, _, h1, trivial, fun od => ?_⟩
    refine le_forAt (F := F.lk p _) (lockAt (F := F.lk p _) hi e hs upd_same (DR.alk (W := F.toWd) (alk_lock h1) dr)) (hg _ rfl) (hb _ rfl) q (R.lock h1 hs) ⟨fun ρ' σ' H' S' q' n' R' => ?_, fun ρ' σ' H' S' g v q' n' R' r' => ?_, fun ρ' σ' H' S' q' n' R' => ?_, fun ρ' σ' H' S' q' n' R' => ?_⟩
    · obtain ⟨a1, _, a2, a3, a4⟩ := R.unlock h1 hs n' R'
      exact ⟨a1, m.nx _ _ _ _ q' a3 a2⟩
    · obtain ⟨a1, _, a2, a3, a4⟩ := R.unlock h1 hs n' R'
      exact ⟨a1, m.rt _ _ _ _ g v q' a3 a2 (Rg.alk (W := F.toWd) a4 r')⟩
    · obtain ⟨a1, _, a2, a3, a4⟩ := R.unlock h1 hs n' R'
      exact ⟨a1, m.bk _ _ _ _ q' a3 a2⟩
    · obtain ⟨a1, _, a2, a3, a4⟩ := R.unlock h1 hs n' R'
      exact ⟨a1, m.ct _ _ _ _ q' a3 a2⟩
  · exact .inr (le_forAt (lockAt hi e hs h1 dr) (hg F rfl) (hb F rfl) q R m)
theorem ln_lcItems {K : PySem.W.Frag} {F : Fr} {i : Nat} {is : List Nat} {g : TG} {ug : UG} {tt : TT} {utt : UT} {te : TE} {ue : UE} {vs : List Nat} (hv : ∀ i ∈ is, i ∈ vs) (h2 : ∀ F : Fr, F.K = K → LG F is g ug) (h3 : ∀ F : Fr, F.K = K → LT F tt utt) (h4 : ∀ F : Fr, F.K = K → LE F te ue) (k : F.K = K) :
    LN F (tEi (tLockE (tLc (iItems (tVar i)) g tt te vs)) (tLc (iItems (tVar i)) g tt te vs)) (uLc (uItems i) ug utt ue vs) := fun ρ Φ σ H S Q q R j => by
  obtain ⟨kvs, hi, q'⟩ := id q
  obtain ⟨o, e, v, rfl, p, ws, rfl, hs, h1, _, h3'⟩ := R.sl i _ hi
  have dr := DR.of h3'
  rcases h1 with h1 | ⟨od, h1⟩
  · refine .inl ⟨p, _, h1, trivial, fun od => ?_⟩
    refine le_lcAt (F := F.lk p _) hv (lockAt (F := F.lk p _) hi e hs upd_same (DR.alk (W := F.toWd) (alk_lock h1) dr)) h2 h3 h4 k q (R.lock h1 hs) fun ρ' g' p' o' H' S' q' n' R' s' hp' ro' fr' => ?_
    obtain ⟨a1, a5, a2, a3, a4⟩ := R.unlock h1 hs n' R'
    refine ⟨a1, j ρ' g' p' o' _ S' q' a3 a2 s' ?_ (RgO.alk (W := F.toWd) a4 ro') ⟨lk_none.mp fr'.1, fr'.2.1, fr'.2.2⟩⟩
    rw [upd_ne (fun z : p' = p => a5 (by rw [← z]; exact s'))]
    exact hp'
  · exact .inr (le_lcAt hv (lockAt hi e hs h1 dr) h2 h3 h4 k q R j)
section
variable {X : Cx} {x : Str} {p apos cpos pos : Pos} {elts : List Expr} {kk : Nat} {tpos : Pos} {is : List Nat}
theorem gs_forItems (i : Nat) {body : List Stmt} {g : TG} {ug : UG} {tb : TS} {ub : US} (hp : PassesOwn (model X.prog X.w) X.A X.env X.xe) (hc : X.calm = true) (hg : GG X is (.Tuple elts kk tpos) g ug) (hb : GSs X body tb ub) (hN : X.N[i]? = some x := by rfl) (hv : Vis X.env.scope x := by first | exact Or.inl rfl | exact Or.inr (Or.inl rfl) | exact Or.inr (Or.inr rfl)) (hd : (x == ("__debug__" : Str)) = false := by decide) (hcd : (x == ("__classdict__" : Str)) = false := by decide)
    (hbase : attributeBase (.Name x p) "items" X.env (eval (.Name x p) X.env) = eval (.Name x p) X.env := by rfl) (hline : (apos.endLine == cpos.line) = true := by rfl)
    (hs : ∀ y, foldedSetIterable (.Call (.Attribute (.Name x p) "items" apos) [] [] cpos) X.env y = pure y := by intro _; rfl) :
    GS X (.For (.Tuple elts kk tpos) (.Call (.Attribute (.Name x p) "items" apos) [] [] cpos) body [] pos) (tEiS (tLock (tFor (iItems (tVar i)) g tb)) (tFor (iItems (tVar i)) g tb)) (uFor (uItems i) ug ub) := by
  have h : PS X (.For (.Tuple elts kk tpos) (.Call (.Attribute (.Name x p) "items" apos) [] [] cpos) body [] pos) (tFor (iItems (tVar i)) g tb) := ps_for hp hc (pi_items (pe_var hN hv hd hcd) hbase hline) hg.pe hb.pe hs
  exact ⟨ps_ei (ps_lock h) h, fun F k => le_forItems (fun F' e => hg.le F' (e.trans k)) (fun F' e => hb.le F' (e.trans k))⟩
theorem gn_lcItems (i : Nat) {elt : Expr} {ifs : List Expr} {scope : Scope} {own : List (Str × Nat)} {g : TG} {ug : UG} {tt : TT} {utt : UT} {te : TE} {ue : UE} (hc : X.calm = true) (hN : X.N.Nodup) (ok : BlkOk X.N X.env.scope scope own)
    (hg : ∀ (s : Shared) (H : Hp) (C : Addr) (cl : List (Str × Addr)) (fp : List Addr), GG (X.blk s H scope (compEnvC scope cl C X.env) fp) is (.Tuple elts kk tpos) g ug) (ht : ∀ (s : Shared) (H : Hp) (C : Addr) (cl : List (Str × Addr)) (fp : List Addr), GTs (X.blk s H scope (compEnvC scope cl C X.env) fp) ifs tt utt)
    (he : ∀ (s : Shared) (H : Hp) (C : Addr) (cl : List (Str × Addr)) (fp : List Addr), GE (X.blk s H scope (compEnvC scope cl C X.env) fp) elt te ue) (hvv : ∀ i ∈ is, i ∈ own.map (·.2)) (hNx : X.N[i]? = some x := by rfl) (hv : Vis X.env.scope x := by first | exact Or.inl rfl | exact Or.inr (Or.inl rfl) | exact Or.inr (Or.inr rfl)) (hd : (x == ("__debug__" : Str)) = false := by decide) (hcd : (x == ("__classdict__" : Str)) = false := by decide)
    (hbase : attributeBase (.Name x p) "items" X.env (eval (.Name x p) X.env) = eval (.Name x p) X.env := by rfl) (hline : (apos.endLine == cpos.line) = true := by rfl)
    (hs : ∀ y, foldedSetIterable (.Call (.Attribute (.Name x p) "items" apos) [] [] cpos) X.env y = pure y := by intro _; rfl) :
    GN X (.ListComp elt [⟨.Tuple elts kk tpos, .Call (.Attribute (.Name x p) "items" apos) [] [] cpos, ifs, 0⟩] scope pos) (tEi (tLockE (tLc (iItems (tVar i)) g tt te (own.map (·.2)))) (tLc (iItems (tVar i)) g tt te (own.map (·.2)))) (uLc (uItems i) ug utt ue (own.map (·.2))) := by
  have h : PE X (.ListComp elt [⟨.Tuple elts kk tpos, .Call (.Attribute (.Name x p) "items" apos) [] [] cpos, ifs, 0⟩] scope pos) (tLc (iItems (tVar i)) g tt te (own.map (·.2))) :=
    pe_lc hc hN (pi_items (pe_var hNx hv hd hcd) hbase hline) ok (fun s H C cl fp => (hg s H C cl fp).pe) (fun s H C cl fp => (ht s H C cl fp).pe) (fun s H C cl fp => (he s H C cl fp).pe) hs
  exact ⟨pe_ei (pe_lock h) h, fun F k => ln_lcItems (K := X.K) hvv (fun F k => (hg X.s_0 X.H_0 0 [] []).le F k) (fun F k => (ht X.s_0 X.H_0 0 [] []).le F k) (fun F k => (he X.s_0 X.H_0 0 [] []).le F k) k⟩
end
theorem v_items {i : Nat} {kvs : Kv} {ρ : RS} {Φ : RS → List G → Prop} (h : ρ[i]? = some (.fz (dG kvs))) (q : Φ ρ (itemsG kvs)) : uItems i ρ Φ := ⟨kvs, h, q⟩
end Zn
/-! sorted of a list of data; list(range(a, b, -1)); x.index(e), x one's own -/
namespace Zn
open PySem PySem.Spec PyProof.Rows L2 TL
abbrev Tr := G × V × PyData
def rSortedDat (K : PySem.W.Frag) : List V → Hp → VK → Prop := fun vs H Q => ∃ (a : Addr) (bs : List Tr), vs = [V.ref a] ∧ SqL K H a (bs.map (·.2.1)) ∧ (∀ b ∈ bs, Dp K H b.2.1 b.2.2) ∧ PySem.W.AllAlike (bs.map (·.2.2)) ∧ PySem.W.Sortable (bs.map (·.2.2)) ∧ (∀ b ∈ bs, b.2.2.depth ≤ 60) ∧
  ∀ p, H p = none → Q (.ref p) (upd H p (.lst ((bs.mergeSort (PySem.W.dataLe false (·.2.2))).map (·.2.1))))
theorem eachIs_of {α β : Type} {R : α → β → Prop} : ∀ {as : List α} {bs : List β}, as.length = bs.length → (∀ (i : Nat) a b, as[i]? = some a → bs[i]? = some b → R a b) → PySem.W.EachIs R as bs
  | [], [], _, _ => .nil
  | a :: as, b :: bs, l, h => .cons (h 0 a b rfl rfl) (eachIs_of (by simpa using l) fun i x y hx hy => h (i + 1) x y (by simpa using hx) (by simpa using hy))
  | [], _ :: _, l, _ => by simp at l
  | _ :: _, [], l, _ => by simp at l
theorem eachIs_vals : ∀ {us : List Value} {bs : List Tr}, PySem.W.EachIs (fun u b => RelV b.2.1 u) us bs → Vals (bs.map (·.2.1)) us
  | _, _, .nil => .nil
  | _, _, .cons h t => .cons h (eachIs_vals t)
theorem cr_sortedDat {X : Cx} (hu : X.A.units + 64 < cLine) : CallR X (.builtin "sorted") (rSortedDat X.K) := by
  intro pins s σ H vs us Q I r h
  obtain ⟨a, bs, rfl, hs, hd, hal, hk, hdep, q⟩ := h
  obtain ⟨its, rv, hl, hz⟩ := I.list hs
  rw [Vals.ref1 r]
  have e1 : PySem.W.EachIs (fun u (b : Tr) => RelV b.2.1 u) its bs := eachIs_of (by rw [← rv.length, List.length_map]) fun i u b hu' hb => by
    obtain ⟨u', e, ru⟩ := rv.get (i := i) (x := b.2.1) (by rw [List.getElem?_map, hb]; rfl)
    rw [hu'] at e
    cases e
    exact ru
  have e2 : PySem.W.EachIs (fun u (b : Tr) => ∃ as, Reads s.heap u b.2.2 as) its bs := eachIs_of (by rw [← rv.length, List.length_map]) fun i u b hu' hb => by
    obtain ⟨u', e, ru⟩ := rv.get (i := i) (x := b.2.1) (by rw [List.getElem?_map, hb]; rfl)
    rw [hu'] at e
    cases e
    exact Dp.reads I _ _ _ (hd b (List.mem_of_getElem? hb)) ru
  have hbz : bs.length ≤ sizeLine := by rw [List.length_map] at hz; exact hz
  refine PySem.W.sorted_data (enc := fun b : Tr => b.2.2) hl.isList e1 e2 hal hk hbz (fun b hb => by have := hdep b hb; omega) fun out ho eo => ?_
  obtain ⟨ep, he'⟩ := PyProof.Rows.sortedAll_at s.heap its out.toArray
  refine ⟨.ref _, upd H (s.heap.objs.size + 1) (.lst ((bs.mergeSort (PySem.W.dataLe false (·.2.2))).map (·.2.1))), I.laid (t' := s.toks) (fun _ _ => PyProof.Rows.sortedAll_old) (Nat.le_succ _) ⟨?_, out, ep, eachIs_vals eo, he'⟩, rfl, q _ (I.hok.fresh (Nat.le_succ _))⟩
  rw [List.length_map, List.length_mergeSort]
  exact hbz
/-- in order, as far as their data tell -/
def InOrd (x y : G) : Prop := ∀ dx dy, pd x = some dx → pd y = some dy → PySem.W.dataLt dy dx = false
def ucSortDat : G → (G → Prop) → Prop := fun g Φ => ∃ (gs : List G) (ds : List PyData), g = .lst gs ∧ pdL gs = some ds ∧ PySem.W.AllAlike ds ∧ PySem.W.Sortable ds ∧ (∀ d ∈ ds, d.depth ≤ 60) ∧ ∀ gs' : List G, gs'.Perm gs → gs'.Pairwise InOrd → Φ (.lst gs')
theorem pdL_get : ∀ {gs : List G} {ds : List PyData}, pdL gs = some ds → gs.length = ds.length ∧ ∀ (i : Nat) g d, gs[i]? = some g → ds[i]? = some d → pd g = some d
  | [], ds, h => by
    simp only [pdL] at h
    cases h
    exact ⟨rfl, fun i g d hg => by simp at hg⟩
  | g :: gs, ds, h => by
    simp only [pdL] at h
    cases e : pd g with
    | none => rw [e] at h; cases h
    | some d0 =>
      rw [e] at h
      cases e2 : pdL gs with
      | none => rw [e2] at h; cases h
      | some ds0 =>
        rw [e2] at h
        cases h
        obtain ⟨h1, h2⟩ := pdL_get e2
        refine ⟨by rw [List.length_cons, List.length_cons, h1], fun i g' d' hg hd => ?_⟩
        cases i with
        | zero => cases hg; cases hd; exact e
        | succ i => exact h2 i g' d' (by simpa using hg) (by simpa using hd)
theorem zip3_at {gs : List G} {vs : List V} {ds : List PyData} {b : Tr} (h : b ∈ gs.zip (vs.zip ds)) : ∃ i : Nat, gs[i]? = some b.1 ∧ vs[i]? = some b.2.1 ∧ ds[i]? = some b.2.2 := by
  obtain ⟨i, hi⟩ := List.getElem?_of_mem h
  obtain ⟨h1, h2⟩ := List.getElem?_zip_eq_some.mp hi
  obtain ⟨h3, h4⟩ := List.getElem?_zip_eq_some.mp h2
  exact ⟨i, h1, h3, h4⟩
theorem rgL_of {W : Wd} {S : AS} {H : Hp} : ∀ {bs : List Tr}, (∀ b ∈ bs, Rg W S H b.1 b.2.1) → RgL W S H (bs.map (·.1)) (bs.map (·.2.1))
  | [], _ => rfl
  | b :: bs, h => ⟨b.2.1, _, rfl, h b List.mem_cons_self, rgL_of fun x hx => h x (List.mem_cons_of_mem _ hx)⟩
theorem gc_sortDat {X : Cx} (hu : X.A.units + 64 < cLine) : GCN X (.builtin "sorted") (rSortedDat X.K) ucSortDat := ⟨cr_sortedDat hu, fun W S H g v Φ Q hk r ⟨gs, ds, eg, ep, al, so, dp, q⟩ k => by
  subst eg
  obtain ⟨p, vs, rfl, h1, h2⟩ := r.lst
  obtain ⟨l1, at_⟩ := pdL_get ep
  have l2 := h2.len
  have lz : (vs.zip ds).length = gs.length := by rw [List.length_zip]; omega
  have e1 : (gs.zip (vs.zip ds)).map (·.1) = gs := List.map_fst_zip (by omega)
  have e2 : (gs.zip (vs.zip ds)).map (·.2) = vs.zip ds := List.map_snd_zip (by omega)
  have e3 : (gs.zip (vs.zip ds)).map (·.2.1) = vs := by
    have := congrArg (List.map (·.1)) e2
    rw [List.map_map, List.map_fst_zip (by omega)] at this
    exact this
  have e4 : (gs.zip (vs.zip ds)).map (·.2.2) = ds := by
    have := congrArg (List.map (·.2)) e2
    rw [List.map_map, List.map_snd_zip (by omega)] at this
    exact this
  have rg : ∀ b ∈ gs.zip (vs.zip ds), Rg W S H b.1 b.2.1 ∧ pd b.1 = some b.2.2 := fun b hb => by
    obtain ⟨i, a1, a2, a3⟩ := zip3_at hb
    obtain ⟨g', b1, b2⟩ := h2.get a2
    rw [a1] at b1
    cases b1
    exact ⟨b2, at_ i _ _ a1 a3⟩
  refine ⟨p, gs.zip (vs.zip ds), rfl, by rw [e3]; exact sl_of h1, fun b hb => hk ▸ dp_g (rg b hb).1 (rg b hb).2, by rw [e4]; exact al, by rw [e4]; exact so, fun b hb => dp _ (by rw [← e4]; exact List.mem_map.mpr ⟨b, hb, rfl⟩), fun l hl => ?_⟩
  have pm := List.mergeSort_perm (gs.zip (vs.zip ds)) (PySem.W.dataLe false (·.2.2))
  have pw : ((gs.zip (vs.zip ds)).mergeSort (PySem.W.dataLe false (·.2.2))).Pairwise fun x y => PySem.W.dataLe false (fun b : Tr => b.2.2) x y = true := PySem.W.sort_pairwise (PySem.W.sortLe_total _ false _) _
  refine k (.lst (((gs.zip (vs.zip ds)).mergeSort (PySem.W.dataLe false (·.2.2))).map (·.1))) _ l (q _ ?_ ?_) hl ⟨_, rfl, rgL_of fun b hb => (rg b (pm.mem_iff.mp hb)).1⟩
  · have := pm.map (·.1)
    rw [e1] at this
    exact this
  · rw [List.pairwise_map]
    refine pw.imp_of_mem fun {x y} hx hy h dx dy ex ey => ?_
    rw [(rg x (pm.mem_iff.mp hx)).2] at ex
    rw [(rg y (pm.mem_iff.mp hy)).2] at ey
    cases ex
    cases ey
    have h : (!PySem.W.dataLt y.2.2 x.2.2) = true := h
    simpa using h⟩
section
variable {X : Cx} {K : PySem.W.Frag} {a b e : Expr} {ta tb te : TE} {ua ub ue : UE} {pos apos : Pos}
theorem k_sortDat {p : Pos} (hu : X.A.units + 64 < cLine) (hg : Gl X "sorted") (hm : X.mg "sorted" = none) (ha : GB X a ta ua) (he : starEach [a] X.env = (false, eval a X.env) :: starEach [] X.env := by rfl) (hk : X.K = K := by rfl) : GN X (.Call (.Name "sorted" p) [a] [] pos) (tCB (rSortedDat K) (tCons ta tNil)) (u1 ucSortDat ua) := by
  subst hk
  exact gn_call1 (gc_sortDat hu) hg hm (by decide +kernel) ha (by decide) (by decide) he
/-- i, i - 1, .. above j -/
def rgD (i : Int) (n : Nat) : List G := (List.range n).map fun k => G.int (i - (k : Nat))
theorem rgD_len {i : Int} {n : Nat} : (rgD i n).length = n := by unfold rgD; rw [List.length_map, List.length_range]
def rgDV (i : Int) (n : Nat) : List V := (List.range n).map fun k => V.int (i - (k : Nat))
theorem vals_rgD {i : Int} {n : Nat} {acc : Array Value} (h : ItemsOf (fun k v => ∃ t, v = .int (i + k * (-1)) t) acc n) : Vals (rgDV i n) acc.toList := by
  have e : acc.toList.length = n := by rw [Array.length_toList]; exact h.1
  unfold rgDV
  rw [← e]
  refine vals_of_get acc.toList _ fun j u hj => ?_
  obtain ⟨t, rfl⟩ := h.2 j u (by rw [← hj, Array.getElem?_toList])
  exact ⟨t, by rw [show i + (j : Int) * -1 = i - (j : Int) by omega]⟩
theorem rgDV_rg {W : Wd} {S : AS} {H : Hp} {i : Int} {n : Nat} : RgL W S H (rgD i n) (rgDV i n) := by
  unfold rgD rgDV
  generalize List.range n = l
  induction l with
  | nil => rfl
  | cons x l ih => exact ⟨_, _, rfl, rfl, ih⟩
def tLstRgD (tr : TA) : TE := fun σ H Q => tr σ H fun vs H2 => ∃ i j : Int, vs = [.int i, .int j, .int (-1)] ∧ (-(2 ^ 62) ≤ i ∧ i < 2 ^ 62 ∧ -(2 ^ 62) ≤ j ∧ j < 2 ^ 62 ∧ (i - j).toNat ≤ 2 ^ 24) ∧ ∀ q, H2 q = none → Q (.ref q) (upd H2 q (.lst (rgDV i (i - j).toNat)))
theorem pe_listRgD {c : Expr} {tr : TA} {p p2 pos2 : Pos} (hc : X.calm = true) (hg : Gl X "list") (hm : X.mg "list" = none) (hg2 : Gl X "range") (hm2 : X.mg "range" = none) (ha : PA X [a, b, c] tr)
    (hs : starEach [a, b, c] X.env = (false, eval a X.env) :: starEach [b, c] X.env := by rfl) (hpl : (backTo pos2 (starEach [b, c] X.env)).any (·.1) = false := by rfl)
    (na : starEach [.Call (.Name "range" p2) [a, b, c] [] pos2] X.env = (false, eval (.Call (.Name "range" p2) [a, b, c] [] pos2) X.env) :: starEach [] X.env := by rfl) :
    PE X (.Call (.Name "list" p) [.Call (.Name "range" p2) [a, b, c] [] pos2] [] pos) (tLstRgD tr) := by
  refine ⟨fun pins s σ H Q I h => ?_⟩
  have rg : wpAny (model X.prog X.w) X.A (eval (.Call (.Name "range" p2) [a, b, c] [] pos2) X.env) (fun x s' => ∃ r i j t u v H', x = .ref r ∧ IsRange s'.heap r i j (-1) t u v ∧ Inv X pins σ H' s' ∧ (-(2 ^ 62) ≤ i ∧ i < 2 ^ 62 ∧ -(2 ^ 62) ≤ j ∧ j < 2 ^ 62 ∧ (i - j).toNat ≤ 2 ^ 24) ∧ ∀ q, H' q = none → Q (.ref q) (upd H' q (.lst (rgDV i (i - j).toNat)))) X.xe s := by
    refine Call_ (ld_blt I hg2 hm2 boot_range (PyProof.Rows.callWith_type1 (thn (ha.run pos2 pins s σ H _ I h) fun us s1 ⟨vs, H1, I1, r1, q1⟩ => ?_) hs hpl))
    obtain ⟨i, j, e, ok, q⟩ := q1
    subst e
    cases r1 with
    | cons r rr =>
      cases rr with
      | cons r' rr =>
        cases rr with
        | cons r'' rr =>
          cases rr
          obtain ⟨t, rfl⟩ := r
          obtain ⟨t', rfl⟩ := r'
          obtain ⟨t'', rfl⟩ := r''
          exact call_range_3 (by decide) ⟨_, i, j, _, _, _, H1, rfl, IsRange.new .., I1.kept (t' := s1.toks) fun b o e => Heap.get?_push_of_some _ e, ok, q⟩ (.inl (PyProof.noPylong_small (by decide)))
  refine Call_ (ld_blt I hg hm boot_list (PyProof.Rows.callWith_type1 (args_cons (thn rg fun x s1 ⟨r, i, j, t, u, v, H1, ex, hr, I1, ok, q⟩ => args_nil ?_) na) na))
  subst ex
  obtain ⟨b1, b2, b3, b4, b5⟩ := ok
  obtain ⟨_, _, c2, c3⟩ := RgC.neg b1 b2 b3 b4
  refine call_list_range (n := (i - j).toNat) (I1.ok.hd hc) hr c2 c3 b5 fun h' tk acc c' hk e' hi => ?_
  refine ⟨.ref s1.heap.objs.size, upd H1 s1.heap.objs.size (.lst (rgDV i (i - j).toNat)), I1.laid hk (Nat.le_refl _) (show ObjOk X.prog X.w _ _ _ (.lst (rgDV i (i - j).toNat)) from ⟨?_, acc.toList, c', vals_rgD hi, ?_⟩), rfl, q _ (I1.hok.fresh (Nat.le_refl _))⟩
  · unfold rgDV
    rw [List.length_map, List.length_range, sizeLine_eq]
    omega
  · rw [Array.toArray_toList]; exact e'
def uRgLD (ur : UA) : UE := fun ρ Φ => ur ρ fun ρ1 gs => ∃ i j : Int, gs = [.int i, .int j, .int (-1)] ∧ (-(2 ^ 62) ≤ i ∧ i < 2 ^ 62 ∧ -(2 ^ 62) ≤ j ∧ j < 2 ^ 62 ∧ (i - j).toNat ≤ 2 ^ 24) ∧ Φ ρ1 (.lst (rgD i (i - j).toNat))
theorem gn_lstRgD {c : Expr} {tr : TA} {ur : UA} {p p2 pos2 : Pos} (hc : X.calm = true) (hg : Gl X "list") (hm : X.mg "list" = none) (hg2 : Gl X "range") (hm2 : X.mg "range" = none) (ha : GA X [a, b, c] tr ur)
    (hs : starEach [a, b, c] X.env = (false, eval a X.env) :: starEach [b, c] X.env := by rfl) (hpl : (backTo pos2 (starEach [b, c] X.env)).any (·.1) = false := by rfl)
    (na : starEach [.Call (.Name "range" p2) [a, b, c] [] pos2] X.env = (false, eval (.Call (.Name "range" p2) [a, b, c] [] pos2) X.env) :: starEach [] X.env := by rfl) :
    GN X (.Call (.Name "list" p) [.Call (.Name "range" p2) [a, b, c] [] pos2] [] pos) (tLstRgD tr) (uRgLD ur) :=
  ⟨pe_listRgD hc hg hm hg2 hm2 ha.pe hs hpl na, fun F k ρ Φ σ H S Q q R j => ha.le F k ρ _ σ H S _ q R fun ρ1 gs vs H1 S1 ⟨x, y, e, ok, q1⟩ n1 R1 r1 => by
    subst e
    obtain ⟨v1, w1, rfl, e1, r1⟩ := r1
    obtain ⟨v2, w2, rfl, e2, r1⟩ := r1
    obtain ⟨v3, w3, rfl, e3, r1⟩ := r1
    cases r1
    cases (show v1 = .int x from e1)
    cases (show v2 = .int y from e2)
    cases (show v3 = .int (-1) from e3)
    refine ⟨x, y, rfl, ok, fun p hp => ?_⟩
    obtain ⟨n3, R3, r3, fr⟩ := new_lst (g := .lst (rgD x (x - y).toNat)) (o := .lst (rgDV x (x - y).toNat)) R1 hp ⟨_, rfl, rgDV_rg⟩
    exact j ρ1 _ p _ _ _ q1 (n1.trans n3) R3 (.inr rfl) upd_same r3 fr⟩
theorem v_rgLD {ur : UA} {ρ : RS} {Φ : RS → G → Prop} (q : ur ρ fun ρ1 gs => ∃ i j : Int, gs = [.int i, .int j, .int (-1)] ∧ (-(2 ^ 62) ≤ i ∧ i < 2 ^ 62 ∧ -(2 ^ 62) ≤ j ∧ j < 2 ^ 62 ∧ (i - j).toNat ≤ 2 ^ 24) ∧ Φ ρ1 (.lst (rgD i (i - j).toNat))) : uRgLD ur ρ Φ := q
/-- x.index(e), x one's own list -/
def uIdxO (i : Nat) (ue : UE) : UE := fun ρ Φ => (∃ f g, ρ[i]? = some (.ow f (.lst g))) ∧ ue ρ fun ρ2 y => ∃ (f : Bool) (gs : List G) (d : PyData) (ds : List PyData) (j : Nat) (z : PyData), ρ2[i]? = some (.ow f (.lst gs)) ∧ pdL gs = some ds ∧ pd y = some d ∧
  SeqAt.shaped (.list ds) = true ∧ SeqAt.shaped d = true ∧ ds[j]? = some z ∧ PyData.eqv z d = true ∧ (∀ (m : Nat) (z' : PyData), m < j → ds[m]? = some z' → PyData.eqv z' d = false) ∧ Φ ρ2 (.int ((j : Nat) : Int))
theorem dp_all {W : Wd} {S : AS} {H : Hp} {vs : List V} : ∀ {gs : List G} {ds : List PyData} {vs : List V}, RgL W S H gs vs → pdL gs = some ds → DpAll W.K H vs ds
  | [], ds, vs, h, e => by
    cases h
    simp only [pdL] at e
    cases e
    exact .nil
  | g :: gs, ds, vs, h, e => by
    obtain ⟨v, ws, rfl, r, h⟩ := h
    simp only [pdL] at e
    cases e1 : pd g with
    | none => rw [e1] at e; cases e
    | some d0 =>
      rw [e1] at e
      cases e2 : pdL gs with
      | none => rw [e2] at e; cases e
      | some ds0 =>
        rw [e2] at e
        cases e
        exact .cons (dp_g r e1) (dp_all (vs := ws) h e2)
theorem k_idxO (hu : X.A.units + 65 < cLine) (i : Nat) {x : Str} {p : Pos} (he : GE X e te ue) (hN : X.N[i]? = some x := by rfl) (hv : Vis X.env.scope x := by first | exact Or.inl rfl | exact Or.inr (Or.inl rfl) | exact Or.inr (Or.inr rfl)) (hd : (x == ("__debug__" : Str)) = false := by decide) (hcd : (x == ("__classdict__" : Str)) = false := by decide)
    (hbase : attributeBase (.Name x p) "index" X.env (eval (.Name x p) X.env) = eval (.Name x p) X.env := by rfl)
    (hfew : ((backTo pos (starEach [e] X.env)).all (fun x => !x.1) && (backToKw pos (keywordEach [] X.env)).all (fun x => x.1.isSome) && decide (([e] : List Expr).length + ([] : List Keyword).length + (if ([] : List Keyword).isEmpty then 0 else 1) < 30)) = true := by rfl)
    (hline : (apos.endLine == pos.line) = true := by rfl) (hs : starEach [e] X.env = (false, eval e X.env) :: starEach [] X.env := by rfl) (hk : X.K = K := by rfl) :
    GE X (.Call (.Attribute (.Name x p) "index" apos) [e] [] pos) (tBM K "list" (rIndexD K) (tVar i) (tCons te tNil)) (uIdxO i ue) := by
  subst hk
  refine ⟨pe_bm PySem.F.plainAttrs_list PySem.F.slot_list_index type_list_index (mt_indexD hu) (pe_var hN hv hd hcd) (pa_cons he.pe pa_nil hs) hbase hfew hline hs, fun F h ρ Φ σ H S Q ⟨⟨f0, g0, h0⟩, q⟩ R j => ?_⟩
  obtain ⟨a, u, ha, _, h00, ⟨vs0, rfl, _⟩, _⟩ := R.own h0
  refine ⟨_, ha, .inl ⟨rfl, vs0, sl_of h00⟩, he.le F h ρ _ σ H S _ q R fun ρ2 y vy H2 S2 ⟨f, gs, d, ds, jj, z, hg, e1, e2, s1, s2, e3, e4, e5, q2⟩ n2 R2 r2 => ?_⟩
  obtain ⟨a', u', ha', _, h1, ⟨vs, rfl, h2⟩, _⟩ := R2.own hg
  rw [ha] at ha'
  cases ha'
  exact ⟨a, vy, d, ds, jj, z, rfl, rfl, .lst (sl_of h1) (h ▸ dp_all (vs := vs) h2 e1), h ▸ dp_g r2 e2, s1, s2, e3, e4, e5, j ρ2 _ _ H2 S2 q2 n2 R2 rfl⟩
theorem v_idxO {i : Nat} {f : Bool} {gs : List G} {ρ : RS} {Φ : RS → G → Prop} (h : ρ[i]? = some (.ow f (.lst gs))) (q : ue ρ fun ρ2 y => ∃ (f : Bool) (gs : List G) (d : PyData) (ds : List PyData) (j : Nat) (z : PyData), ρ2[i]? = some (.ow f (.lst gs)) ∧ pdL gs = some ds ∧ pd y = some d ∧
  SeqAt.shaped (.list ds) = true ∧ SeqAt.shaped d = true ∧ ds[j]? = some z ∧ PyData.eqv z d = true ∧ (∀ (m : Nat) (z' : PyData), m < j → ds[m]? = some z' → PyData.eqv z' d = false) ∧ Φ ρ2 (.int ((j : Nat) : Int))) : uIdxO i ue ρ Φ := ⟨⟨f, gs, h⟩, q⟩
end
end Zn
/-! short words for dicts and for defs that change an argument -/
namespace Zn
open PySem PySem.Spec PyProof.Rows L2 TL
theorem v_andO {f : Bool} {g : G} {P : Prop} {o : Option SG} (h : o = some (.ow f g)) (q : P) : (∃ f g, o = some (.ow f g)) ∧ P := ⟨⟨f, g, h⟩, q⟩
theorem v_andD {f : Bool} {kvs : Kv} {P : Prop} {o : Option SG} (h : o = some (.ow f (dG kvs))) (q : P) : (∃ f kvs, o = some (.ow f (dG kvs))) ∧ P := ⟨⟨f, kvs, h⟩, q⟩
theorem v_putI {f : Bool} {kvs : Kv} {n : Int} {o : Option SG} {R : Bool → Kv → L2.Key → Prop} (h : o = some (.ow f (dG kvs))) (l : kvs.length < 100000) (q : R f kvs (.inl n)) : ∃ f kvs k, o = some (.ow f (dG kvs)) ∧ G.int n = keyG k ∧ kvs.length < 100000 ∧ R f kvs k := ⟨f, kvs, .inl n, h, rfl, l, q⟩
theorem v_putS {f : Bool} {kvs : Kv} {n : Str} {o : Option SG} {R : Bool → Kv → L2.Key → Prop} (h : o = some (.ow f (dG kvs))) (l : kvs.length < 100000) (q : R f kvs (.inr n)) : ∃ f kvs k, o = some (.ow f (dG kvs)) ∧ G.str n = keyG k ∧ kvs.length < 100000 ∧ R f kvs k := ⟨f, kvs, .inr n, h, rfl, l, q⟩
theorem v_dgI {f : Bool} {kvs : Kv} {n : Int} {o : Option SG} {R : G → Prop} (g : G) (h : o = some (.ow f (dG kvs))) (e : getD kvs (.inl n) = some g) (q : R g) : ∃ f kvs k g, o = some (.ow f (dG kvs)) ∧ G.int n = keyG k ∧ getD kvs k = some g ∧ R g := ⟨f, kvs, .inl n, g, h, rfl, e, q⟩
theorem v_dgS {f : Bool} {kvs : Kv} {n : Str} {o : Option SG} {R : G → Prop} (g : G) (h : o = some (.ow f (dG kvs))) (e : getD kvs (.inr n) = some g) (q : R g) : ∃ f kvs k g, o = some (.ow f (dG kvs)) ∧ G.str n = keyG k ∧ getD kvs k = some g ∧ R g := ⟨f, kvs, .inr n, g, h, rfl, e, q⟩
theorem v_dkv {kvs : Kv} {R : Kv → Prop} (q : R kvs) : ∃ kvs', dG kvs = dG kvs' ∧ R kvs' := ⟨kvs, rfl, q⟩
theorem v_dfI {n : Int} {kvs : Kv} {R : G → Prop} (g : G) (e : getD kvs (.inl n) = some g) (q : R g) : ∃ k g, G.int n = keyG k ∧ getD kvs k = some g ∧ R g := ⟨.inl n, g, rfl, e, q⟩
theorem v_dfS {n : Str} {kvs : Kv} {R : G → Prop} (g : G) (e : getD kvs (.inr n) = some g) (q : R g) : ∃ k g, G.str n = keyG k ∧ getD kvs k = some g ∧ R g := ⟨.inr n, g, rfl, e, q⟩
theorem v_dinI {n : Int} {kvs : Kv} {R : Kv → L2.Key → Prop} (q : R kvs (.inl n)) : ∃ kvs' k, dG kvs = dG kvs' ∧ G.int n = keyG k ∧ R kvs' k := ⟨kvs, .inl n, rfl, rfl, q⟩
theorem v_dinS {n : Str} {kvs : Kv} {R : Kv → L2.Key → Prop} (q : R kvs (.inr n)) : ∃ kvs' k, dG kvs = dG kvs' ∧ G.str n = keyG k ∧ R kvs' k := ⟨kvs, .inr n, rfl, rfl, q⟩
theorem v_dzI {f : Bool} {kvs : Kv} {n : Int} {o : Option SG} {R : Kv → L2.Key → Prop} (h : o = some (.ow f (dG kvs))) (q : R kvs (.inl n)) : ∃ f kvs k, o = some (.ow f (dG kvs)) ∧ G.int n = keyG k ∧ R kvs k := ⟨f, kvs, .inl n, h, rfl, q⟩
theorem v_dzS {f : Bool} {kvs : Kv} {n : Str} {o : Option SG} {R : Kv → L2.Key → Prop} (h : o = some (.ow f (dG kvs))) (q : R kvs (.inr n)) : ∃ f kvs k, o = some (.ow f (dG kvs)) ∧ G.str n = keyG k ∧ R kvs k := ⟨f, kvs, .inr n, h, rfl, q⟩
theorem v_iteTg {A C : Prop} {i : Decidable (true = true)} (q : A) : @ite Prop (true = true) i A C := by rw [if_pos rfl]; exact q
theorem v_iteFg {A C : Prop} {i : Decidable (false = true)} (q : C) : @ite Prop (false = true) i A C := by rw [if_neg Bool.false_ne_true]; exact q
theorem v_iteNTg {A C : Prop} {i : Decidable ((!true) = true)} (q : C) : @ite Prop ((!true) = true) i A C := by rw [if_neg (show ¬ ((!true) = true) from Bool.false_ne_true)]; exact q
theorem v_iteNFg {A C : Prop} {i : Decidable ((!false) = true)} (q : A) : @ite Prop ((!false) = true) i A C := by rw [if_pos (show (!false) = true from rfl)]; exact q
theorem v_iteg {c : Bool} {A C : Prop} {i : Decidable (c = true)} (h1 : c = true → A) (h2 : c = false → C) : @ite Prop (c = true) i A C := by
  cases c with
  | true => rw [if_pos rfl]; exact h1 rfl
  | false => rw [if_neg Bool.false_ne_true]; exact h2 rfl
theorem v_ucDict {kvs : Kv} {R : G → Prop} (q : R (dG kvs)) : ucDict (dG kvs) R := ⟨kvs, rfl, q⟩
end Zn
/-! {k: v, ..} -/
namespace Zn
open PySem PySem.Spec PyProof.Rows L2 TL
abbrev UPs := RS → (RS → List (G × G) → Prop) → Prop
def LPs (F : Fr) (trs : List (TE × TE)) (u : UPs) : Prop := ∀ (ρ : RS) (Φ : RS → List (G × G) → Prop) (σ : L2.St) (H : Hp) (S : AS) (Q : List (V × V) → Hp → Prop), u ρ Φ → Rel F S ρ σ H →
  (∀ ρ' gs vs H' S', Φ ρ' gs → Nxt S H S' H' → Rel F S' ρ' σ H' → RgL F.toWd S' H' (gs.map (·.1)) (vs.map (·.1)) → RgL F.toWd S' H' (gs.map (·.2)) (vs.map (·.2)) → Q vs H') → tPairs trs σ H Q
structure GPs (X : Cx) (pos : Pos) (keys : List (Option Expr)) (values : List Expr) (trs : List (TE × TE)) (u : UPs) : Prop where
  pe : PPs X pos keys values trs
  le : ∀ F : Fr, F.K = X.K → LPs F trs u
section
variable {X : Cx} {pos : Pos} {k v : Expr} {tk tv : TE} {uk uv : UE} {ks : List (Option Expr)} {vs : List Expr} {trs : List (TE × TE)} {up : UPs}
def uPsNil : UPs := fun ρ Φ => Φ ρ []
def uPsCons (uk uv : UE) (up : UPs) : UPs := fun ρ Φ => uk ρ fun ρ1 a => uv ρ1 fun ρ2 b => up ρ2 fun ρ3 r => Φ ρ3 ((a, b) :: r)
theorem gps_nil : GPs X pos [] [] [] uPsNil := ⟨pps_nil, fun F _ ρ Φ σ H S Q q R k => k ρ [] [] H S q (.refl _ _) R rfl rfl⟩
theorem gps_cons (hk : GE X k tk uk) (hv : GE X v tv uv) (hr : GPs X pos ks vs trs up) : GPs X pos (some k :: ks) (v :: vs) ((tk, tv) :: trs) (uPsCons uk uv up) :=
  ⟨pps_cons hk.pe hv.pe hr.pe, fun F h ρ Φ σ H S Q q R j => hk.le F h ρ _ σ H S _ q R fun ρ1 a x H1 S1 q1 n1 R1 r1 => hv.le F h ρ1 _ σ H1 S1 _ q1 R1 fun ρ2 b y H2 S2 q2 n2 R2 r2 =>
    hr.le F h ρ2 _ σ H2 S2 _ q2 R2 fun ρ3 gs ws H3 S3 q3 n3 R3 r3 r4 => j ρ3 _ _ H3 S3 q3 ((n1.trans n2).trans n3) R3 ⟨x, _, rfl, (r1.nx n2).nx n3, r3⟩ ⟨y, _, rfl, r2.nx n3, r4⟩⟩
def mergeD (kvs more : Kv) : Kv := more.foldl (fun acc kv => putD acc kv.1 kv.2) kvs
theorem DR.merge {W : Wd} {S : AS} {H : Hp} : ∀ {more : Kv} {ms : List (L2.Key × V)} {kvs : Kv} {ws : List (L2.Key × V)}, DR W S H kvs ws → DR W S H more ms → DR W S H (mergeD kvs more) (mergeK ws ms)
  | [], _, _, _, h, e => by cases e; exact h
  | kv :: r, _, _, _, h, e => by
    obtain ⟨x, ms', rfl, r1, e⟩ := e
    exact DR.merge (more := r) (ws := putK _ kv.1 x) (kvs := putD _ kv.1 kv.2) (h.put (k := kv.1) r1) e
def uDisp (up : UPs) : UE := fun ρ Φ => up ρ fun ρ1 gps => ∃ kvs : Kv, gps = kvs.map (fun kv => (keyG kv.1, kv.2)) ∧ kvs.length ≤ 15 ∧ Φ ρ1 (dG (mergeD [] kvs))
theorem dr_of_pairs {W : Wd} {S : AS} {H : Hp} : ∀ {kvs : Kv} {ps : List (V × V)}, RgL W S H ((kvs.map fun kv => (keyG kv.1, kv.2)).map (·.1)) (ps.map (·.1)) → RgL W S H ((kvs.map fun kv => (keyG kv.1, kv.2)).map (·.2)) (ps.map (·.2)) →
    ∃ ws : List (L2.Key × V), ps = ws.map (fun kv => (kV kv.1, kv.2)) ∧ DR W S H kvs ws
  | [], ps, h1, _ => by
    cases ps with
    | nil => exact ⟨[], rfl, rfl⟩
    | cons a l => cases h1
  | kv :: r, ps, h1, h2 => by
    cases ps with
    | nil => obtain ⟨_, _, e, _⟩ := h1; cases e
    | cons a l =>
      obtain ⟨v1, w1, e1, r1, h1⟩ := h1
      obtain ⟨v2, w2, e2, r2, h2⟩ := h2
      cases e1
      cases e2
      obtain ⟨ws, rfl, dr⟩ := dr_of_pairs h1 h2
      refine ⟨(kv.1, a.2) :: ws, ?_, a.2, ws, rfl, r2, dr⟩
      have : a.1 = kV kv.1 := keyG_v r1
      rw [List.map_cons, ← this]
theorem gn_disp {keys : List (Option Expr)} {values : List Expr} (h : GPs X pos keys values trs up) (hall : keys.all (·.isSome) = true := by rfl) (hl : keys.length = values.length := by rfl) (h0 : keys ≠ [] := by exact (fun z => nomatch z)) (h15 : keys.length ≤ 15 := by decide) : GN X (.Dict keys values pos) (tDisp trs) (uDisp up) :=
  ⟨pe_disp h.pe hall hl h0 h15, fun F k ρ Φ σ H S Q q R j p hp => by
    obtain ⟨R2, n2⟩ := R.grow (o := .dK []) hp
    have fr := R.new hp
    have R2 := R2.addPin upd_same (.inr rfl) fr
    have nq : ∀ q ∈ F.pn, q.1 ≠ p := fr.2.2
    refine h.le (F.pnw (p, .dK [])) k ρ _ σ _ _ _ q R2 fun ρ1 gps ps H3 S3 ⟨kvs, e, l15, q1⟩ n3 R3 r1 r2 => ?_
    subst e
    obtain ⟨ws, rfl, dr⟩ := dr_of_pairs r1 r2
    obtain ⟨p1, p2, p3, p4, p5⟩ := R3.pin (p, .dK []) List.mem_cons_self
    refine ⟨p1, ws, rfl, by rw [dr.len]; exact l15, ?_⟩
    obtain ⟨R4, n4⟩ := R3.repin (o' := .dK (mergeK [] ws)) (fun _ z => by cases z) nq
    exact j ρ1 _ p _ _ S3 q1 ((n2.trans n3).trans n4) R4.unpin p2 upd_same ((dG_or (DR.merge (kvs := []) (ws := []) rfl dr)).nx n4) ⟨p5, p4, nq⟩⟩
theorem v_disp {ρ : RS} {Φ : RS → G → Prop} (q : up ρ fun ρ1 gps => ∃ kvs : Kv, gps = kvs.map (fun kv => (keyG kv.1, kv.2)) ∧ kvs.length ≤ 15 ∧ Φ ρ1 (dG (mergeD [] kvs))) : uDisp up ρ Φ := q
theorem v_psnil {ρ : RS} {Φ : RS → List (G × G) → Prop} (q : Φ ρ []) : uPsNil ρ Φ := q
theorem v_pscons {ρ : RS} {Φ : RS → List (G × G) → Prop} (q : uk ρ fun ρ1 a => uv ρ1 fun ρ2 b => up ρ2 fun ρ3 r => Φ ρ3 ((a, b) :: r)) : uPsCons uk uv up ρ Φ := q
end
theorem v_disp1 {n : Int} {g : G} {R : Kv → Prop} (q : R [(.inl n, g)]) : ∃ kvs : Kv, [(G.int n, g)] = kvs.map (fun kv => (keyG kv.1, kv.2)) ∧ kvs.length ≤ 15 ∧ R kvs := ⟨[(.inl n, g)], rfl, by simp, q⟩
theorem merge1 (k : L2.Key) (g : G) : mergeD [] [(k, g)] = [(k, g)] := rfl
end Zn
/-! x in xs, data of any depth -/
namespace Zn
open PySem PySem.Spec PyProof.Rows L2 TL
def u2InD (h : Bool → Bool) : G → G → (G → Prop) → Prop := fun x y Φ => ∃ (d : PyData) (gs : List G) (ds : List PyData), pd x = some d ∧ y = .lst gs ∧ pdL gs = some ds ∧ SeqAt.shaped d = true ∧ SeqAt.shaped (.list ds) = true ∧ Φ (.bl (h (ds.any fun z => PyData.eqv z d)))
section
variable {X : Cx} {K : PySem.W.Frag} {a b : Expr} {ta tb : TE} {ua ub : UE} {pos : Pos}
theorem go_inD (hu : X.A.units + 65 < cLine) : GOpB X (compareOp .In) (rInD X.K) (u2InD (fun b => b)) := ⟨op_inD hu, fun W S H g1 g2 v1 v2 Φ Q hk _ r1 r2 ⟨d, gs, ds, e1, e2, e3, s1, s2, q⟩ k => by
  subst e2
  obtain ⟨p, vs, rfl, h1, h2⟩ := r2.lst
  exact ⟨d, ds, hk ▸ dp_g r1 e1, .lst (sl_of h1) (hk ▸ dp_all (vs := vs) h2 e3), s1, s2, k _ _ H q (.refl _) rfl⟩⟩
theorem go_notInD (hu : X.A.units + 65 < cLine) : GOpB X (compareOp .NotIn) (rNotInD X.K) (u2InD (fun b => !b)) := ⟨op_notInD hu, fun W S H g1 g2 v1 v2 Φ Q hk _ r1 r2 ⟨d, gs, ds, e1, e2, e3, s1, s2, q⟩ k => by
  subst e2
  obtain ⟨p, vs, rfl, h1, h2⟩ := r2.lst
  exact ⟨d, ds, hk ▸ dp_g r1 e1, .lst (sl_of h1) (hk ▸ dp_all (vs := vs) h2 e3), s1, s2, k _ _ H q (.refl _) rfl⟩⟩
theorem k_inD (hu : X.A.units + 65 < cLine) (ha : GE X a ta ua) (hb : GB X b tb ub) (hm : behindInMarks .In b = false := by rfl) (hk : X.K = K := by rfl) : GE X (.Compare a [.In] [b] pos) (tOp (rInD K) ta tb) (uOp (u2InD (fun b => b)) ua ub) := by
  subst hk
  exact ge_cmpB (go_inD hu) ha hb hm
theorem k_notInD (hu : X.A.units + 65 < cLine) (ha : GE X a ta ua) (hb : GB X b tb ub) (hm : behindInMarks .NotIn b = false := by rfl) (hk : X.K = K := by rfl) : GE X (.Compare a [.NotIn] [b] pos) (tOp (rNotInD K) ta tb) (uOp (u2InD (fun b => !b)) ua ub) := by
  subst hk
  exact ge_cmpB (go_notInD hu) ha hb hm
theorem kt_inD (hu : X.A.units + 65 < cLine) (ha : GE X a ta ua) (hb : GB X b tb ub) (hm : behindInMarks .In b = false := by rfl) (hk : X.K = K := by rfl) : GT X (.Compare a [.In] [b] pos) (tTest (tOp (rInD K) ta tb)) (uTest (uOp (u2InD (fun b => b)) ua ub)) := by
  subst hk
  exact gt_cmpB (go_inD hu) ha hb hm
theorem kt_notInD (hu : X.A.units + 65 < cLine) (ha : GE X a ta ua) (hb : GB X b tb ub) (hm : behindInMarks .NotIn b = false := by rfl) (hk : X.K = K := by rfl) : GT X (.Compare a [.NotIn] [b] pos) (tTest (tOp (rNotInD K) ta tb)) (uTest (uOp (u2InD (fun b => !b)) ua ub)) := by
  subst hk
  exact gt_cmpB (go_notInD hu) ha hb hm
end
/-- items of one kind: α told as G, equal data exactly where they are equal -/
structure Enc (α : Type) [DecidableEq α] (f : α → G) (P : α → Prop) : Prop where
  pd : ∀ a, P a → ∃ d, pd (f a) = some d ∧ SeqAt.shaped d = true ∧ d.depth ≤ 60
  eqv : ∀ a b d e, Zn.pd (f a) = some d → Zn.pd (f b) = some e → PyData.eqv d e = decide (a = b)
section
variable {α : Type} [DecidableEq α] {f : α → G} {P : α → Prop}
theorem Enc.list (E : Enc α f P) : ∀ l : List α, (∀ a ∈ l, P a) → ∃ ds, pdL (l.map f) = some ds ∧ PyData.canLayAll0 ds = true ∧ PyData.depthAll ds ≤ 61 ∧ ds.length = l.length ∧ ∀ (i : Nat) (a : α) (d : PyData), l[i]? = some a → ds[i]? = some d → Zn.pd (f a) = some d
  | [], _ => ⟨[], rfl, by simp [PyData.canLayAll0], by simp [PyData.depthAll], rfl, fun i a d h => by simp at h⟩
  | a :: l, hp => by
    obtain ⟨d, e1, s1, t1⟩ := E.pd a (hp a List.mem_cons_self)
    obtain ⟨ds, e2, s2, t2, hl, at_⟩ := E.list l fun x hx => hp x (List.mem_cons_of_mem _ hx)
    have c1 := SeqAt.canLay_of_shaped s1
    refine ⟨d :: ds, by rw [List.map_cons]; simp only [pdL, e1, e2]; rfl, by simp [PyData.canLayAll0, c1, s2], by simp only [PyData.depthAll]; omega, by rw [List.length_cons, List.length_cons, hl], fun i b d' hb hd => ?_⟩
    cases i with
    | zero => cases hb; cases hd; exact e1
    | succ i => exact at_ i b d' (by simpa using hb) (by simpa using hd)
theorem Enc.shaped (E : Enc α f P) (l : List α) (hp : ∀ a ∈ l, P a) {ds : List PyData} (h : pdL (l.map f) = some ds) : SeqAt.shaped (.list ds) = true := by
  obtain ⟨ds', e, c, t, _⟩ := E.list l hp
  rw [h] at e
  cases e
  show (PyData.canLay0 (.list ds) && decide (PyData.depth (.list ds) ≤ 64)) = true
  rw [Bool.and_eq_true]
  refine ⟨by simp only [PyData.canLay0]; exact c, decide_eq_true ?_⟩
  simp only [PyData.depth]
  omega
theorem Enc.mem (E : Enc α f P) (l : List α) (hp : ∀ a ∈ l, P a) (a : α) {ds : List PyData} {d : PyData} (h : pdL (l.map f) = some ds) (hd : Zn.pd (f a) = some d) : (ds.any fun z => PyData.eqv z d) = decide (a ∈ l) := by
  obtain ⟨ds', e, _, _, hl, at_⟩ := E.list l hp
  rw [h] at e
  cases e
  rw [Bool.eq_iff_iff, List.any_eq_true, decide_eq_true_iff]
  constructor
  · rintro ⟨z, hz, q⟩
    obtain ⟨i, hi⟩ := List.getElem?_of_mem hz
    have hi' : i < l.length := by rw [← hl]; exact getL hi
    have hb := List.getElem?_eq_getElem hi'
    have := E.eqv _ _ _ _ (at_ i _ z hb hi) hd
    rw [q] at this
    have e : l[i] = a := of_decide_eq_true this.symm
    rw [← e]
    exact List.getElem_mem _
  · intro ha
    obtain ⟨i, hi⟩ := List.getElem?_of_mem ha
    have hi' : i < ds.length := by rw [hl]; exact getL hi
    refine ⟨ds[i], List.getElem_mem _, ?_⟩
    rw [E.eqv _ _ _ _ (at_ i _ _ hi (List.getElem?_eq_getElem hi')) hd]
    exact decide_eq_true rfl
theorem v_inE (E : Enc α f P) {h : Bool → Bool} {l : List α} {a : α} {Q : G → Prop} (hp : ∀ a ∈ l, P a) (ha : P a) (q : Q (.bl (h (decide (a ∈ l))))) : u2InD h (f a) (.lst (l.map f)) Q := by
  obtain ⟨d, e1, s1, t1⟩ := E.pd a ha
  obtain ⟨ds, e2, _⟩ := E.list l hp
  refine ⟨d, _, ds, e1, rfl, e2, s1, E.shaped l hp e2, ?_⟩
  rw [E.mem l hp a e2 e1]
  exact q
/-- the first place of an item -/
theorem v_idxE (E : Enc α f P) {l : List α} {a : α} {j : Nat} {R : Nat → Prop} (hp : ∀ a ∈ l, P a) (h1 : l[j]? = some a) (h2 : ∀ m, m < j → l[m]? ≠ some a) (q : R j) : ∃ (d : PyData) (ds : List PyData) (j : Nat) (z : PyData), pdL (l.map f) = some ds ∧ Zn.pd (f a) = some d ∧
  SeqAt.shaped (.list ds) = true ∧ SeqAt.shaped d = true ∧ ds[j]? = some z ∧ PyData.eqv z d = true ∧ (∀ (m : Nat) (z' : PyData), m < j → ds[m]? = some z' → PyData.eqv z' d = false) ∧ R j := by
  obtain ⟨d, e1, s1, t1⟩ := E.pd a (hp a (List.mem_of_getElem? h1))
  obtain ⟨ds, e2, _, _, hl, at_⟩ := E.list l hp
  have hj : j < ds.length := by rw [hl]; exact getL h1
  refine ⟨d, ds, j, ds[j], e2, e1, E.shaped l hp e2, s1, List.getElem?_eq_getElem hj, ?_, fun m z' hm hz => ?_, q⟩
  · rw [E.eqv _ _ _ _ (at_ j _ _ h1 (List.getElem?_eq_getElem hj)) e1]
    exact decide_eq_true rfl
  · have hm' : m < l.length := by rw [← hl]; exact getL hz
    rw [E.eqv _ _ _ _ (at_ m _ _ (List.getElem?_eq_getElem hm') hz) e1]
    exact decide_eq_false fun e => h2 m hm (by rw [List.getElem?_eq_getElem hm', e])
theorem v_idxOE (E : Enc α f P) {l : List α} {a : α} {j : Nat} {fb : Bool} {o : Option SG} {R : Nat → Prop} (ho : o = some (.ow fb (.lst (l.map f)))) (hp : ∀ a ∈ l, P a) (h1 : l[j]? = some a) (h2 : ∀ m, m < j → l[m]? ≠ some a) (q : R j) : ∃ (f1 : Bool) (gs : List G) (d : PyData) (ds : List PyData) (j : Nat) (z : PyData), o = some (.ow f1 (.lst gs)) ∧ pdL gs = some ds ∧ Zn.pd (f a) = some d ∧
  SeqAt.shaped (.list ds) = true ∧ SeqAt.shaped d = true ∧ ds[j]? = some z ∧ PyData.eqv z d = true ∧ (∀ (m : Nat) (z' : PyData), m < j → ds[m]? = some z' → PyData.eqv z' d = false) ∧ R j := by
  obtain ⟨d, ds, j', z, a1, a2, a3, a4, a5, a6, a7, a8⟩ := v_idxE E hp h1 h2 q
  exact ⟨fb, _, d, ds, j', z, ho, a1, a2, a3, a4, a5, a6, a7, a8⟩
theorem v_eqE (E : Enc α f P) {a b : α} {Q : G → Prop} (ha : P a) (hb : P b) (q : Q (.bl (decide (a = b)))) : u2EqD false (f a) (f b) Q := by
  obtain ⟨d, e1, s1, _⟩ := E.pd a ha
  obtain ⟨e, e2, s2, _⟩ := E.pd b hb
  refine ⟨d, e, e1, e2, s1, s2, ?_⟩
  rw [E.eqv _ _ _ _ e1 e2]
  exact q
theorem v_neE (E : Enc α f P) {a b : α} {Q : G → Prop} (ha : P a) (hb : P b) (q : Q (.bl (!decide (a = b)))) : u2EqD true (f a) (f b) Q := by
  obtain ⟨d, e1, s1, _⟩ := E.pd a ha
  obtain ⟨e, e2, s2, _⟩ := E.pd b hb
  refine ⟨d, e, e1, e2, s1, s2, ?_⟩
  rw [E.eqv _ _ _ _ e1 e2]
  exact q
end
end Zn
/-! for x in range(i, j, -1) -/
namespace Zn
open PySem PySem.Spec PyProof.Rows L2 TL
theorem rgD_get {i : Int} {n k : Nat} {g : G} (h : (rgD i n)[k]? = some g) : k < n ∧ g = .int (i - (k : Nat)) := by
  have hi := getL h
  rw [rgD_len] at hi
  unfold rgD at h
  rw [List.getElem?_map, List.getElem?_range hi] at h
  exact ⟨hi, (Option.some.inj h).symm⟩
theorem isIt_rgD {F : Fr} {S : AS} {H : Hp} {lo : Int} {n : Nat} : IsIt F S H (Itc lo (-1) n) (rgD lo n) := ⟨fun i _ _ hi _ => by rw [rgD_len] at hi; exact hi, fun _ _ _ => by rw [rgD_len]; exact Nat.le_refl _, fun i H1 S1 x H2 hi _ ⟨e1, e2⟩ => by
  subst e1
  subst e2
  rw [rgD_len] at hi
  refine ⟨.refl _, .int (lo - (i : Nat)), ?_, ?_⟩
  · unfold rgD
    rw [List.getElem?_map, List.getElem?_range hi]
    rfl
  · show V.int (lo + (i : Nat) * (-1)) = V.int (lo - (i : Nat))
    rw [show lo + ((i : Nat) : Int) * (-1) = lo - (i : Nat) by omega]⟩
section
variable {X : Cx} {tg a b c : Expr}
def uRg3 (ur : UA) : UA := fun ρ Φ => ur ρ fun ρ1 gs => ∃ i j : Int, gs = [.int i, .int j, .int (-1)] ∧ (-(2 ^ 62) ≤ i ∧ i < 2 ^ 62 ∧ -(2 ^ 62) ≤ j ∧ j < 2 ^ 62) ∧ Φ ρ1 (rgD i (i - j).toNat)
theorem gi_range3 {p pos : Pos} {tr : TA} {ur : UA} (hg : Gl X "range") (hm : X.mg "range" = none) (ha : GA X [a, b, c] tr ur) (hs : starEach [a, b, c] X.env = (false, eval a X.env) :: starEach [b, c] X.env := by rfl) (hpl : (backTo pos (starEach [b, c] X.env)).any (·.1) = false := by rfl) : GI X tg (.Call (.Name "range" p) [a, b, c] [] pos) (iRng3 tr) (uRg3 ur) :=
  ⟨pi_range3 hg hm ha.pe hs hpl, fun F h ρ Φ σ H S R q Rl k => ha.le F h ρ _ σ H S _ q Rl fun ρ1 gs vs H1 S1 ⟨i, j, e, ⟨b1, b2, b3, b4⟩, q1⟩ n1 R1 r1 => by
    subst e
    obtain ⟨v1, w1, rfl, e1, r1⟩ := r1
    obtain ⟨v2, w2, rfl, e2, r1⟩ := r1
    obtain ⟨v3, w3, rfl, e3, r1⟩ := r1
    cases r1
    cases (show v1 = .int i from e1)
    cases (show v2 = .int j from e2)
    cases (show v3 = .int (-1) from e3)
    exact ⟨i, j, -1, _, rfl, RgC.neg b1 b2 b3 b4, k ρ1 _ _ H1 S1 q1 n1 R1 isIt_rgD⟩⟩
theorem v_rg3 {ur : UA} {ρ : RS} {Φ : RS → List G → Prop} (q : ur ρ fun ρ1 gs => ∃ i j : Int, gs = [.int i, .int j, .int (-1)] ∧ (-(2 ^ 62) ≤ i ∧ i < 2 ^ 62 ∧ -(2 ^ 62) ≤ j ∧ j < 2 ^ 62) ∧ Φ ρ1 (rgD i (i - j).toNat)) : uRg3 ur ρ Φ := q
theorem v_rg3b {a b : Int} {R : Int → Int → Prop} (h : -(2 ^ 62) ≤ a ∧ a < 2 ^ 62 ∧ -(2 ^ 62) ≤ b ∧ b < 2 ^ 62) (q : R a b) : ∃ i j : Int, [G.int a, G.int b, G.int (-1)] = [.int i, .int j, .int (-1)] ∧ (-(2 ^ 62) ≤ i ∧ i < 2 ^ 62 ∧ -(2 ^ 62) ≤ j ∧ j < 2 ^ 62) ∧ R i j := ⟨a, b, rfl, h, q⟩
end
end Zn
/-! results that are the caller's own -/
namespace Zn
open PySem PySem.Spec PyProof.Rows L2 TL
/-- the value is a new thing of the caller's own -/
def spN (K : PySem.W.Frag) (uf : List G → (G → Prop) → Prop) : Sp := fun vs H Q _ => ∃ (W : Wd) (S : AS) (gs : List G) (Φ : G → Prop), W.K = K ∧ uf gs Φ ∧ Okw W S H ∧ RgL W S H gs vs ∧
  ∀ g p o H', Φ g → Aft W H H' → H p = none → H' p = some o → RgO W (fun a => S a ∨ a = p) H' g o → Q (.ref p) H'
/-- the value is a tuple whose first item is a new thing of the caller's own -/
def spNT (K : PySem.W.Frag) (uf : List G → (G → List G → Prop) → Prop) : Sp := fun vs H Q _ => ∃ (W : Wd) (S : AS) (gs : List G) (Φ : G → List G → Prop), W.K = K ∧ uf gs Φ ∧ Okw W S H ∧ RgL W S H gs vs ∧
  ∀ g hs p o q ws H', Φ g hs → Aft W H H' → H p = none → H' p = some o → RgO W (fun a => S a ∨ a = p) H' g o → TupAt W.K H' q (.ref p :: ws) → RgL W (fun a => S a ∨ a = p) H' hs ws → Q (.ref q) H'
section
variable {F : Fr} {S : AS} {ρ : RS} {σ : L2.St} {H H' : Hp} {p : Addr} {o : HO}
theorem Rel.stepN (R : Rel F S ρ σ H) (h1 : ∀ b o, ¬ (F.dr ∧ b = F.d) → H b = some o → H' b = some o) (h2 : F.dr → Drw H' F.d F.c) (hp : H p = none) (ho : H' p = some o) : Rel F (fun a => S a ∨ a = p) ρ σ H' ∧ Nxt S H (fun a => S a ∨ a = p) H' := by
  have ht : ∀ b xs, H b = some (.tup xs) → H' b = some (.tup xs) := fun b xs e => h1 b _ (fun ⟨k, z⟩ => by
    obtain ⟨l, hl⟩ := (R.dr k).2.get
    rw [z, hl] at e
    cases e) e
  have n : Nxt S H (fun a => S a ∨ a = p) H' := ⟨fun b o k e => h1 b o (fun ⟨dr, z⟩ => k (by rw [z]; exact R.s0 _ (R.ok.d dr).1)) e, ht, fun a h => h.imp id fun e => by rw [e]; exact hp⟩
  refine ⟨⟨R.ok, fun a ha => ?_, fun a h => .inl (R.s0 a h), fun k => ⟨fun z => ?_, h2 k⟩, fun b o k1 k2 e => h1 b o k1 (R.kx b o k1 k2 e), fun b xs e => ht b xs (R.kt b xs e), R.len, fun a ha => ?_, fun j s hj => ?_, R.dj, fun q hq => ?_⟩, n⟩
  · rcases ha with ha | rfl
    · by_cases k : F.dr ∧ a = F.d
      · obtain ⟨l, hl⟩ := (h2 k.1).get
        rw [k.2, hl]
        intro z; cases z
      · obtain ⟨o, e⟩ := some_of (R.dom a ha)
        rw [h1 a o k e]
        intro z; cases z
    · rw [ho]
      intro z; cases z
  · rcases z with z | z
    · exact (R.dr k).1 z
    · obtain ⟨ns, e⟩ := (R.dr k).2.cl
      rw [z, hp] at e
      cases e
  · obtain ⟨o, e⟩ := some_of (R.pp a ha)
    rw [h1 a o (fun ⟨dr, z⟩ => (R.ok.d dr).2 (z ▸ ha)) e]
    intro z; cases z
  · obtain ⟨o, e, r⟩ := R.sl j s hj
    refine ⟨o, e, ?_⟩
    cases s with
    | un => trivial
    | fz g => obtain ⟨v, e, r⟩ := r; exact ⟨v, e, r.nx n⟩
    | ow f g =>
      obtain ⟨a, u, e', k1, k2, k3, k4, k5⟩ := r
      obtain ⟨a', u', e2, _, _, _, _, _, k6⟩ := R.own hj
      rw [e, e'] at e2
      cases e2
      exact ⟨a, u, e', .inl k1, h1 a u (fun ⟨dr, z⟩ => k6 dr z) k2, k3.nx n, k4, k5⟩
  · obtain ⟨q1, q2, q3, q4, q5⟩ := R.pin q hq
    exact ⟨h1 _ _ (fun ⟨dr, z⟩ => q3 dr z) q1, .inl q2, q3, q4, q5⟩
end
/-! ### at the end of a def -/
def EnN (Ψ : G → Prop) (F : Fr) (S : AS) (H : Hp) (E : Ends) : Prop := ∀ ρ' σ' H' S' g p o, Ψ g → Nxt S H S' H' → Rel F S' ρ' σ' H' → S' p → F.H0 p = none → H' p = some o → RgO F.toWd S' H' g o → E.rt (.ref p) H'
def EnT (Ψ : G → List G → Prop) (F : Fr) (S : AS) (H : Hp) (E : Ends) : Prop := ∀ ρ' σ' H' S' g hs p o q ws, Ψ g hs → Nxt S H S' H' → Rel F S' ρ' σ' H' → S' p → F.H0 p = none → H' p = some o → RgO F.toWd S' H' g o → TupAt F.K H' q (.ref p :: ws) → RgL F.toWd S' H' hs ws → E.rt (.ref q) H'
structure GSn (X : Cx) (e : List Stmt) (t : TS) (u : (G → Prop) → RS → Prop) : Prop where
  pe : PSs X e t
  le : ∀ F : Fr, F.K = X.K → ∀ ρ Ψ σ H S E, u Ψ ρ → Rel F S ρ σ H → EnN Ψ F S H E → t E σ H
structure GSt (X : Cx) (e : List Stmt) (t : TS) (u : (G → List G → Prop) → RS → Prop) : Prop where
  pe : PSs X e t
  le : ∀ F : Fr, F.K = X.K → ∀ ρ Ψ σ H S E, u Ψ ρ → Rel F S ρ σ H → EnT Ψ F S H E → t E σ H
def nxOnly (R : RS → Prop) : Bs := { nx := R, rt := fun _ _ => False }
section
variable {X : Cx} {st : Stmt} {rest : List Stmt} {t1 t2 : TS} {w1 : US} {pos : Pos}
def uSeqN (w1 : US) (w2 : (G → Prop) → RS → Prop) : (G → Prop) → RS → Prop := fun Ψ ρ => w1 (nxOnly (w2 Ψ)) ρ
theorem gsn_cons {w2 : (G → Prop) → RS → Prop} (h1 : GS X st t1 w1) (h2 : GSn X rest t2 w2) : GSn X (st :: rest) (tSeq t1 t2) (uSeqN w1 w2) :=
  ⟨pss_cons h1.pe h2.pe, fun F k ρ Ψ σ H S E q R m => h1.le F k ρ _ σ H S _ q R ⟨fun ρ' σ' H' S' q' n' R' => h2.le F k ρ' Ψ σ' H' S' E q' R' fun a b c d e f g i n => m a b c d e f g i (n'.trans n), fun _ _ _ _ _ _ z => z.elim, fun _ _ _ _ z => z.elim, fun _ _ _ _ z => z.elim⟩⟩
def uSeqT (w1 : US) (w2 : (G → List G → Prop) → RS → Prop) : (G → List G → Prop) → RS → Prop := fun Ψ ρ => w1 (nxOnly (w2 Ψ)) ρ
theorem gst_cons {w2 : (G → List G → Prop) → RS → Prop} (h1 : GS X st t1 w1) (h2 : GSt X rest t2 w2) : GSt X (st :: rest) (tSeq t1 t2) (uSeqT w1 w2) :=
  ⟨pss_cons h1.pe h2.pe, fun F k ρ Ψ σ H S E q R m => h1.le F k ρ _ σ H S _ q R ⟨fun ρ' σ' H' S' q' n' R' => h2.le F k ρ' Ψ σ' H' S' E q' R' fun a b c d e f g h x y i n => m a b c d e f g h x y i (n'.trans n), fun _ _ _ _ _ _ z => z.elim, fun _ _ _ _ z => z.elim, fun _ _ _ _ z => z.elim⟩⟩
def uRetN (i : Nat) : (G → Prop) → RS → Prop := fun Ψ ρ => ∃ g, ρ[i]? = some (.ow true g) ∧ Ψ g
theorem gsn_ret (i : Nat) {x : Str} {p : Pos} (hN : X.N[i]? = some x := by rfl) (hv : Vis X.env.scope x := by first | exact Or.inl rfl | exact Or.inr (Or.inl rfl) | exact Or.inr (Or.inr rfl)) (hd : (x == ("__debug__" : Str)) = false := by decide) (hcd : (x == ("__classdict__" : Str)) = false := by decide) : GSn X [.Return (some (.Name x p)) pos] (tRet (tVar i)) (uRetN i) :=
  ⟨pss_one (ps_ret (pe_var hN hv hd hcd)), fun F k ρ Ψ σ H S E ⟨g, hg, q⟩ R m => by
    obtain ⟨a, u, ha, s1, h1, r1, h0, _, _⟩ := R.own hg
    exact ⟨_, ha, m ρ σ H S g a u q (.refl _ _) R s1 (h0 rfl) h1 r1⟩⟩
def uRetT (i : Nat) (ur : UA) : (G → List G → Prop) → RS → Prop := fun Ψ ρ => (∃ g, ρ[i]? = some (.ow true g)) ∧ ur ρ fun ρ1 hs => ∃ g, ρ1[i]? = some (.ow true g) ∧ hs.length ≤ 1000 ∧ Ψ g hs
theorem gst_ret (i : Nat) {x : Str} {p : Pos} {es : List Expr} {tr : TA} {ur : UA} {k1 : Nat} {pt : Pos} (hr : GA X es tr ur) (hN : X.N[i]? = some x := by rfl) (hv : Vis X.env.scope x := by first | exact Or.inl rfl | exact Or.inr (Or.inl rfl) | exact Or.inr (Or.inr rfl)) (hd : (x == ("__debug__" : Str)) = false := by decide) (hcd : (x == ("__classdict__" : Str)) = false := by decide)
    (hs : starEach (.Name x p :: es) X.env = (false, eval (.Name x p) X.env) :: starEach es X.env := by rfl) : GSt X [.Return (some (.Tuple (.Name x p :: es) k1 pt)) pos] (tRet (tTup (tCons (tVar i) tr))) (uRetT i ur) :=
  ⟨pss_one (ps_ret (pe_tup (pa_cons (pe_var hN hv hd hcd) hr.pe hs))), fun F k ρ Ψ σ H S E ⟨⟨g0, hg0⟩, q⟩ R m => by
    obtain ⟨a, u, ha, _⟩ := R.own hg0
    refine ⟨_, ha, hr.le F k ρ _ σ H S _ q R fun ρ1 hs vs H1 S1 ⟨g, hg, l, q1⟩ n1 R1 r1 => ⟨len_ok (by rw [List.length_cons, r1.len]; omega), fun q hq => ?_⟩⟩
    obtain ⟨a', u', ha', s1, h1, r2, h0, _, _⟩ := R1.own hg
    rw [ha] at ha'
    cases ha'
    obtain ⟨R2, n2⟩ := R1.same (same_new (o := .tup (.ref a :: vs)) hq)
    exact m ρ1 σ _ S1 g hs a u' q vs q1 (n1.trans n2) R2 s1 (h0 rfl) (same_new hq _ _ h1) (r2.nx n2) (.inl upd_same) (r1.nx n2)⟩
end
section
variable {P : Program} {w : World} {K : PySem.W.Frag} {mg : Str → Option Value} {base : Heap}
theorem g_okN {x : Str} {st : Stmt} {f : Addr} {fd : FuncData} {N ps : List Str} {k : Nat} {uf : List G → (G → Prop) → Prop} (F : Fun K x x st f fd) (sc : FnScope N ps (defScope st)) (hl : ∀ gs Φ, uf gs Φ → gs.length = ps.length)
    (body : ∀ (cdv : Value) (A : Around) (outer : List Env) (s : Shared) (H : Hp) (E : XK), Room k (A.deeper (envOfC x (defScope st) s.heap.objs.size f cdv)) →
      ∃ t u, GSn (cxOf CX0 P w K mg base N x (defScope st) f cdv A outer s H E).nox (defBody st) t u ∧ ∀ gs Φ, uf gs Φ → u Φ (startR N gs)) : FnOk P w K mg base CX0 (k + 1) f fd ps (spN K uf) := by
  refine F.ok sc (fun vs H Q E ⟨W, S, gs, Φ, _, h1, _, h2, _⟩ => by rw [h2.len]; exact hl gs Φ h1) (fun cdv A outer s H vs Q E hr h => ?_)
  obtain ⟨W, S, gs, Φ, hk, h1, h2, h3, h4⟩ := h
  obtain ⟨t, u, g, q⟩ := body cdv A outer s H E hr
  refine ⟨t, g.pe, ?_⟩
  refine g.le { toWd := W, ps := [], H0 := H, S0 := S, pn := [] } hk _ Φ _ H S _ (q gs Φ h1) (rel_start h2 h3) fun ρ' σ' H' S' g p o q' n' R' sp h0 ho ro => ?_
  exact h4 g p o H' q' ⟨fun b o z e => R'.kx b o z (by simp) e, fun k => (R'.dr k).2⟩ h0 ho (ro.nx (Nxt.less fun a ha => ha.elim (R'.s0 a) fun e => by rw [e]; exact sp))
theorem g_okT {x : Str} {st : Stmt} {f : Addr} {fd : FuncData} {N ps : List Str} {k : Nat} {uf : List G → (G → List G → Prop) → Prop} (F : Fun K x x st f fd) (sc : FnScope N ps (defScope st)) (hl : ∀ gs Φ, uf gs Φ → gs.length = ps.length)
    (body : ∀ (cdv : Value) (A : Around) (outer : List Env) (s : Shared) (H : Hp) (E : XK), Room k (A.deeper (envOfC x (defScope st) s.heap.objs.size f cdv)) →
      ∃ t u, GSt (cxOf CX0 P w K mg base N x (defScope st) f cdv A outer s H E).nox (defBody st) t u ∧ ∀ gs Φ, uf gs Φ → u Φ (startR N gs)) : FnOk P w K mg base CX0 (k + 1) f fd ps (spNT K uf) := by
  refine F.ok sc (fun vs H Q E ⟨W, S, gs, Φ, _, h1, _, h2, _⟩ => by rw [h2.len]; exact hl gs Φ h1) (fun cdv A outer s H vs Q E hr h => ?_)
  obtain ⟨W, S, gs, Φ, hk, h1, h2, h3, h4⟩ := h
  obtain ⟨t, u, g, q⟩ := body cdv A outer s H E hr
  refine ⟨t, g.pe, ?_⟩
  refine g.le { toWd := W, ps := [], H0 := H, S0 := S, pn := [] } hk _ Φ _ H S _ (q gs Φ h1) (rel_start h2 h3) fun ρ' σ' H' S' g hs p o qa ws q' n' R' sp h0 ho ro ht rl => ?_
  have nx : Nxt S' H' (fun a => S a ∨ a = p) H' := Nxt.less fun a ha => ha.elim (R'.s0 a) fun e => by rw [e]; exact sp
  exact h4 g hs p o qa ws H' q' ⟨fun b o z e => R'.kx b o z (by simp) e, fun k => (R'.dr k).2⟩ h0 ho (ro.nx nx) ht (rl.nx nx)
end
/-! ### calls -/
section
variable {X : Cx} {K : PySem.W.Frag} {e : Expr} {es : List Expr} {tr : TA} {ur : UA} {p pos : Pos}
theorem le_calN {F : Fr} {uf} (h : LA F tr ur) : LN F (tCal (spN F.K uf) tr) (uCal uf ur) := fun ρ Φ σ H S Q q R k => h ρ _ σ H S _ q R fun ρ1 gs vs H1 S1 q1 n1 R1 r1 =>
  ⟨F.toWd, S1, gs, _, rfl, q1, R1.okw, r1, fun g a o H' q2 af hp ho ro => by
    obtain ⟨R2, n2⟩ := R1.stepN af.x af.dr hp ho
    exact k ρ1 g a o H' _ q2 (n1.trans n2) R2 (.inr rfl) ho ro (R1.new hp)⟩
theorem k_calN (K : PySem.W.Frag) {x : Str} {k : Nat} {uf} (C : Cal X.prog X.w X.K X.mg X.base x k (spN K uf)) (hr : Room k X.A) (hg : Gl X x) (ha : GA X (e :: es) tr ur)
    (hdb : (x == ("__debug__" : Str)) = false := by decide) (he : starEach (e :: es) X.env = (false, eval e X.env) :: starEach es X.env := by rfl)
    (hpl : (backTo pos (starEach es X.env)).any (·.1) = false := by rfl) (hk : X.K = K := by rfl) : GN X (.Call (.Name x p) (e :: es) [] pos) (tCal (spN K uf) tr) (uCal uf ur) := by
  subst hk
  exact ⟨pe_cal C hr hg ha.pe hdb he hpl, fun F h => h ▸ le_calN (ha.le F h)⟩
/-- items that are no things of the heap that could change -/
def FlatO (g : G) : Prop := ∀ (W : Wd) (S S' : AS) (H : Hp) (o : HO), RgO W S H g o → RgO W S' H g o
theorem flatO_lst {gs : List G} (h : ∀ g ∈ gs, Flat g) : FlatO (.lst gs) := fun W S S' H o ⟨vs, e, r⟩ => ⟨vs, e, flat_L h r⟩
def uCalBN (uf : List G → (G → Prop) → Prop) (ua : UA) : UE := fun ρ Φ => ua ρ fun ρ1 gs => uf gs fun g => FlatO g ∧ Φ ρ1 g
theorem k_calBN (K : PySem.W.Frag) {x : Str} {k : Nat} {uf} (C : Cal X.prog X.w X.K X.mg X.base x k (spN K uf)) (hr : Room k X.A) (hg : Gl X x) (ha : GAB X (e :: es) tr ur)
    (hdb : (x == ("__debug__" : Str)) = false := by decide) (he : starEach (e :: es) X.env = (false, eval e X.env) :: starEach es X.env := by rfl)
    (hpl : (backTo pos (starEach es X.env)).any (·.1) = false := by rfl) (hk : X.K = K := by rfl) : GN X (.Call (.Name x p) (e :: es) [] pos) (tCal (spN K uf) tr) (uCalBN uf ur) := by
  subst hk
  exact ⟨pe_cal C hr hg ha.pe hdb he hpl, fun F h ρ Φ σ H S Q q R k => ha.le F h ρ _ σ H S _ q R fun ρ1 gs vs H1 S1 q1 n1 R1 r1 =>
    ⟨F.toWd, dS F.toWd, gs, _, h, q1, R1.okwD, r1, fun g a o H' ⟨fl, q2⟩ af hp ho ro => by
      obtain ⟨R2, n2⟩ := R1.stepN af.x af.dr hp ho
      exact k ρ1 g a o H' _ q2 (n1.trans n2) R2 (.inr rfl) ho (fl _ _ _ _ _ ro) (R1.new hp)⟩⟩
theorem v_calBN {uf} {ρ : RS} {Φ : RS → G → Prop} (q : ur ρ fun ρ1 gs => uf gs fun g => FlatO g ∧ Φ ρ1 g) : uCalBN uf ur ρ Φ := q
/-- a, b, c = f(..): a is one's own -/
def uAsgT (i n : Nat) (uf : List G → (G → List G → Prop) → Prop) (ur : UA) (us : UGs) : US := fun B ρ => ur ρ fun ρ1 gs => uf gs fun g hs => hs.length + 1 = n ∧ us hs (ρ1.set i (.ow true g)) B.nx
theorem gs_asgT (i n : Nat) {x y : Str} {k : Nat} {uf} {js : List Nat} {tgs : TGs} {us : UGs} {ts : List Expr} {k2 : Nat} {p1 p2 pa : Pos} (C : Cal X.prog X.w X.K X.mg X.base x k (spNT K uf)) (hr : Room k X.A) (hg : Gl X x) (ha : GA X (e :: es) tr ur)
    (hc : X.calm = true) (nd : X.N.Nodup) (hi : X.N[i]? = some y) (hx : Loc X.env.scope y) (ht : GGs X js ts tgs us)
    (hf : X.fn y = true ∨ X.env.scope.names.lookup y = some .local := by first | exact .inl rfl | exact .inr rfl | assumption)
    (hm : (assignEach (.Name y p1 :: ts) X.env).map (·.2) = assign (.Name y p1) X.env :: (assignEach ts X.env).map (·.2) := by rfl)
    (hn : (assignEach (.Name y p1 :: ts) X.env).length = n := by rfl) (hst : (assignEach (.Name y p1 :: ts) X.env).findIdx? (·.1) = none := by rfl)
    (hs : swapsWithSole [.Tuple (.Name y p1 :: ts) k2 p2] (.Call (.Name x p) (e :: es) [] pos) pa.line X.env = pure false := by rfl) (hw : swappedStores [.Tuple (.Name y p1 :: ts) k2 p2] (.Call (.Name x p) (e :: es) [] pos) X.env = pure none := by rfl)
    (h1 : (assignEach [.Tuple (.Name y p1 :: ts) k2 p2] X.env).map (·.2) = [assign (.Tuple (.Name y p1 :: ts) k2 p2) X.env] := by rfl)
    (hdb : (x == ("__debug__" : Str)) = false := by decide) (he : starEach (e :: es) X.env = (false, eval e X.env) :: starEach es X.env := by rfl)
    (hpl : (backTo pos (starEach es X.env)).any (·.1) = false := by rfl) (hk : X.K = K := by rfl) :
    GS X (.Assign [.Tuple (.Name y p1 :: ts) k2 p2] (.Call (.Name x p) (e :: es) [] pos) pa) (tAsg (tCal (spNT K uf) tr) (gTup K n (gCons (gName i) tgs))) (uAsgT i n uf ur us) := by
  subst hk
  exact ⟨ps_asg (pe_cal C hr hg ha.pe hdb he hpl) (pg_tup hc (pgs_cons (pg_name nd hi hx hf) ht.pe hm) hn hst) hs hw h1, fun F h ρ B σ H S E q R m => ha.le F h ρ _ σ H S _ q R fun ρ1 gs vs H1 S1 q1 n1 R1 r1 =>
    ⟨F.toWd, S1, gs, _, h, q1, R1.okw, r1, fun g hs a o qa ws H' ⟨hl, q2⟩ af hp ho ro ht' rl => by
      obtain ⟨R2, n2⟩ := R1.stepN af.x af.dr hp ho
      refine ⟨qa, .ref a :: ws, rfl, h ▸ ht'.sq, by rw [List.length_cons, rl.len]; exact hl, .ref a, ws, rfl, ?_⟩
      have R3 := R2.setN (i := i) (.inr rfl) ho ro (R1.new hp)
      exact ht.le F h hs ws _ _ _ H' _ _ q2 R3 rl fun ρ2 σ2 H2 S2 q3 n3 R4 _ => m.nx _ _ _ _ q3 ((n1.trans n2).trans n3) R4⟩⟩
end
theorem v_seqN {w1 : US} {w2 : (G → Prop) → RS → Prop} {Ψ : G → Prop} {ρ : RS} (q : w1 (nxOnly (w2 Ψ)) ρ) : uSeqN w1 w2 Ψ ρ := q
theorem v_seqT {w1 : US} {w2 : (G → List G → Prop) → RS → Prop} {Ψ : G → List G → Prop} {ρ : RS} (q : w1 (nxOnly (w2 Ψ)) ρ) : uSeqT w1 w2 Ψ ρ := q
theorem v_retN {i : Nat} {Ψ : G → Prop} {ρ : RS} {g : G} (h : ρ[i]? = some (.ow true g)) (q : Ψ g) : uRetN i Ψ ρ := ⟨g, h, q⟩
theorem v_retT {i : Nat} {ur : UA} {Ψ : G → List G → Prop} {ρ : RS} {g : G} (h : ρ[i]? = some (.ow true g)) (q : ur ρ fun ρ1 hs => ∃ g, ρ1[i]? = some (.ow true g) ∧ hs.length ≤ 1000 ∧ Ψ g hs) : uRetT i ur Ψ ρ := ⟨⟨g, h⟩, q⟩
theorem v_retT2 {g : G} {n : Nat} {R : G → Prop} {o : Option SG} (h : o = some (.ow true g)) (l : n ≤ 1000) (q : R g) : ∃ g, o = some (.ow true g) ∧ n ≤ 1000 ∧ R g := ⟨g, h, l, q⟩
theorem v_asgT {i n : Nat} {uf} {ur : UA} {us : UGs} {B : Bs} {ρ : RS} (q : ur ρ fun ρ1 gs => uf gs fun g hs => hs.length + 1 = n ∧ us hs (ρ1.set i (.ow true g)) B.nx) : uAsgT i n uf ur us B ρ := q
end Zn
/-! dicts whose keys are tuples within tuples -/
namespace Zn
open PySem PySem.Spec PyProof.Rows L2 TL
section
variable {X : Cx} {pins : List (Addr × Obj)} {σ : L2.St} {H : Hp} {s : Shared} {W : Wd} {S : AS}
mutual
theorem ni_g (I : Inv X pins σ H s) (hK : W.K = X.K) : ∀ {g : G} {v : V} {u : Value}, Rg W S H g v → okK g = true → RelV v u → NestedIs s.heap (nk g) u
  | .non, v, u, h, _, r => by
    cases (show v = .non from h)
    cases r
    exact .none
  | .bl b, v, u, h, _, r => by
    cases (show v = .bl b from h)
    cases r
    exact .bool rfl
  | .int i, v, u, h, _, r => by
    cases (show v = .int i from h)
    obtain ⟨t, rfl⟩ := r
    exact .int i t
  | .str x, v, u, h, _, r => by
    cases (show v = .str x from h)
    obtain ⟨t, rfl⟩ := r
    exact .text x t
  | .tup gs, v, u, h, k, r => by
    obtain ⟨p, vs, rfl, ht, hs⟩ := h
    obtain ⟨its, rv, ⟨o, ho, hc, n, hd⟩, _⟩ := I.tuple (hK ▸ ht.sq)
    cases r
    exact .tup ho hc hd (niL_g I hK hs (by simpa [okK] using k) rv)
  | .drw, _, _, _, k, _ => by simp [okK] at k
  | .raw _, _, _, _, k, _ => by simp [okK] at k
  | .lst _, _, _, _, k, _ => by simp [okK] at k
  | .dK _ _, _, _, _, k, _ => by simp [okK] at k
  | .dT _ _, _, _, _, k, _ => by simp [okK] at k
  | .dN _ _ _, _, _, _, k, _ => by simp [okK] at k
  | .obj _, _, _, _, k, _ => by simp [okK] at k
  | .ins _ _ _ _, _, _, _, k, _ => by simp [okK] at k
theorem niL_g (I : Inv X pins σ H s) (hK : W.K = X.K) : ∀ {gs : List G} {vs : List V} {us : List Value}, RgL W S H gs vs → okKL gs = true → Vals vs us → NestedAll s.heap (nkL gs) us
  | [], vs, us, h, _, r => by
    cases h
    cases r
    exact .nil
  | g :: gs, vs, us, h, k, r => by
    obtain ⟨v, ws, rfl, h1, h2⟩ := h
    simp only [okKL, Bool.and_eq_true] at k
    cases r with
    | cons r1 r2 => exact .cons (ni_g I hK h1 k.1 r1) (niL_g I hK h2 k.2 r2)
end
/-- rows of keys and values -/
def DNR (W : Wd) (S : AS) (H : Hp) (kvs : List (G × G)) (xs : List NX) : Prop := Paired (fun (kv : G × G) (x : NX) => x.1 = nk kv.1 ∧ okK kv.1 = true ∧ x.1.depth ≤ 8 ∧ Rg W S H kv.1 (.ref x.2.1) ∧ Rg W S H kv.2 x.2.2) kvs xs
def dNG (w : World) (kvs : List (G × G)) : G := .dN w (kvs.map fun k => k.1) (kvs.map fun k => k.2)
theorem dnr_of : ∀ {kvs : List (G × G)} {xs : List NX}, xs.map (fun x => x.1) = nkL (kvs.map fun k => k.1) → OkKs (kvs.map fun k => k.1) → RgL W S H (kvs.map fun k => k.1) (xs.map fun x => V.ref x.2.1) → RgL W S H (kvs.map fun k => k.2) (xs.map fun x => x.2.2) → DNR W S H kvs xs
  | [], xs, e, _, _, _ => by
    cases xs with
    | nil => exact .nil
    | cons x xs => simp [nkL] at e
  | kv :: kvs, xs, e, ok, h1, h2 => by
    cases xs with
    | nil => simp [nkL] at e
    | cons x xs =>
      simp only [List.map_cons, nkL] at e ok h1 h2
      injection e with e1 e2
      obtain ⟨ok1, ok2⟩ := ok
      simp only [okKL, Bool.and_eq_true] at ok1
      obtain ⟨v, ws, ev, r1, r1'⟩ := h1
      obtain ⟨v', ws', ev', r2, r2'⟩ := h2
      injection ev with a1 a2
      injection ev' with b1 b2
      subst a1; subst a2; subst b1; subst b2
      refine .cons ⟨e1, ok1.1, e1 ▸ ok2 _ (by simp [nkL]), r1, r2⟩ (dnr_of e2 ⟨ok1.2, fun k hk => ok2 k (by simp [nkL, hk])⟩ r1' r2')
theorem dnr_to : ∀ {kvs : List (G × G)} {xs : List NX}, DNR W S H kvs xs → xs.map (fun x => x.1) = nkL (kvs.map fun k => k.1) ∧ OkKs (kvs.map fun k => k.1) ∧ RgL W S H (kvs.map fun k => k.1) (xs.map fun x => V.ref x.2.1) ∧ RgL W S H (kvs.map fun k => k.2) (xs.map fun x => x.2.2)
  | _, _, .nil => ⟨rfl, ⟨rfl, fun _ h => by simp [nkL] at h⟩, rfl, rfl⟩
  | _, _, .cons ⟨e, k, dp, r1, r2⟩ t => by
    obtain ⟨e', ⟨k1, k2⟩, r1', r2'⟩ := dnr_to t
    refine ⟨by simp only [List.map_cons, nkL]; rw [e, e'], ⟨by simp only [List.map_cons, okKL]; rw [k, k1]; rfl, fun z hz => ?_⟩, ⟨_, _, rfl, r1, r1'⟩, ⟨_, _, rfl, r2, r2'⟩⟩
    simp only [List.map_cons, nkL, List.mem_cons] at hz
    rcases hz with rfl | hz
    · exact e ▸ dp
    · exact k2 z hz
theorem DNR.len {kvs : List (G × G)} {xs : List NX} (h : DNR W S H kvs xs) : xs.length = kvs.length := by
  unfold DNR at h
  induction h with
  | nil => rfl
  | cons _ _ ih => simp [ih]
theorem DNR.imp {W' : Wd} {S' : AS} {H' : Hp} {kvs : List (G × G)} {xs : List NX} (h : DNR W S H kvs xs) (f : ∀ g v, Rg W S H g v → Rg W' S' H' g v) : DNR W' S' H' kvs xs :=
  Paired.mapP h fun _ _ ⟨a, b, c, d, e⟩ => ⟨a, b, c, f _ _ d, f _ _ e⟩
/-- d[k] = v, told of rows -/
def putX (xs : List NX) (k : NestedKey) (a : Addr) (z : V) : List NX := if (xs.any fun x => decide (x.1 = k)) = true then xs.map (fun x => if x.1 = k then (x.1, x.2.1, z) else x) else xs ++ [(k, a, z)]
def putN (kvs : List (G × G)) (k g : G) : List (G × G) := if (kvs.any fun kv => decide (nk kv.1 = nk k)) = true then kvs.map (fun kv => if nk kv.1 = nk k then (kv.1, g) else kv) else kvs ++ [(k, g)]
theorem DNR.any {kvs : List (G × G)} {xs : List NX} (h : DNR W S H kvs xs) (k : NestedKey) : (xs.any fun x => decide (x.1 = k)) = kvs.any fun kv => decide (nk kv.1 = k) := by
  unfold DNR at h
  induction h with
  | nil => rfl
  | cons r _ ih => simp only [List.any_cons, ih, r.1]
theorem DNR.put {kvs : List (G × G)} {xs : List NX} {y g : G} {a : Addr} {z : V} (h : DNR W S H kvs xs) (hk : okK y = true) (hd : (nk y).depth ≤ 8) (ry : Rg W S H y (.ref a)) (rz : Rg W S H g z) : DNR W S H (putN kvs y g) (putX xs (nk y) a z) := by
  have ea := h.any (nk y)
  unfold putN putX
  rw [ea]
  split
  · rename_i z0
    clear ea z0
    unfold DNR at h ⊢
    induction h with
    | nil => exact .nil
    | cons r t ih =>
      obtain ⟨e, k1, k2, r1, r2⟩ := r
      simp only [List.map_cons]
      refine .cons ?_ ih
      rw [e]
      split
      · exact ⟨rfl, k1, e ▸ k2, r1, rz⟩
      · exact ⟨e, k1, k2, r1, r2⟩
  · exact Paired.snoc h ⟨rfl, hk, hd, ry, rz⟩
theorem nxy_any : ∀ {xs : List NX} {ys : List NY} (k : NestedKey), NxY xs ys → (atKey ys k).isSome = xs.any fun x => decide (x.1 = k) := fun {xs ys} k h => by
  unfold NxY at h
  induction h with
  | nil => rfl
  | @cons x y l l' q _ ih =>
    rw [List.any_cons, q.1]
    by_cases c : y.1 = k
    · simp [atKey, c]
    · simpa [atKey, c] using ih
theorem nxy_put : ∀ {xs : List NX} {ys : List NY} {k : NestedKey} {a : Addr} {z : V} {u : Value}, NxY xs ys → RelV z u → NxY (putX xs k a z) (storedH ys k a u) := fun {xs ys k a z u} h r => by
  have e : (xs.any fun x => decide (x.1 = k)) = (atKey ys k).isSome := (nxy_any k h).symm
  unfold putX storedH
  rw [e]
  split
  · rename_i z0
    clear e z0
    unfold NxY at h ⊢
    induction h with
    | nil => exact .nil
    | @cons x y l l' q _ ih =>
      simp only [List.map_cons]
      refine .cons ?_ ih
      unfold putAt
      rw [q.1]
      split
      · exact ⟨q.1 ▸ rfl, q.2.1, r⟩
      · exact q
  · exact Paired.snoc h ⟨rfl, rfl, r⟩
theorem nxy_len {xs : List NX} {ys : List NY} (h : NxY xs ys) : xs.length = ys.length := by
  unfold NxY at h
  induction h with
  | nil => rfl
  | cons _ _ ih => simp [ih]
theorem nxy_fst {xs : List NX} {ys : List NY} (h : NxY xs ys) : xs.map (fun x => x.1) = ys.map (fun y => y.1) := by
  unfold NxY at h
  induction h with
  | nil => rfl
  | cons r _ ih => simp [ih, r.1]
/-- what stands at the address is true of the object there -/
theorem dn_at {w : World} {p q : Addr} {xs : List NX} (I : Inv X pins σ H s) (hp : H p = some (DnO w q xs)) : q = p ∧ DnAt w p xs s.heap := by
  obtain ⟨d, _, st⟩ := (show ObjOk X.prog X.w H s.heap p (.ext (DnAt w q xs)) from I.hok p _ hp)
  have e : q = p := by
    by_cases e : q = p
    · exact e
    · exfalso
      have d2 := st s.heap (s.heap.update q fun _ => { cls := .none, data := .fields #[] }) d fun o h => by rw [Heap.get?_update_ne _ _ _ _ (fun z => e z.symm)]; exact h
      obtain ⟨_, _, ys, ob, es, ep, _, g1, _, g2, _⟩ := d
      obtain ⟨_, _, ys', ob', es', ep', _, g1', c', g2', _⟩ := d2
      have e1 : (s.heap.update q fun _ => ({ cls := .none, data := .fields #[] } : Obj)).get? q = some { cls := .none, data := .fields #[] } := Heap.get?_update_self _ g1 rfl
      rw [e1] at g1'
      cases g1'
      cases g2'
  subst e
  exact ⟨rfl, d⟩
theorem dn_of {p q : Addr} {xs : List NX} {kvs : List (G × G)} (I : Inv X pins σ H s) (hK : W.K = X.K) (hp : H p = some (DnO X.w q xs)) (r : DNR W S H kvs xs) :
    q = p ∧ (p == sysModules) = false ∧ xs.length ≤ sizeLine ∧ ∃ ys, NxY xs ys ∧ s.heap.DictOfH (nestedKind X.prog X.w) p ys := by
  obtain ⟨e, d1, d2, ys, ob, es, ep, n, g1, g2, g3, g4, g5⟩ := dn_at I hp
  refine ⟨e, d1, d2, ys, n, ob, es, ep, g1, g2, g3, g4, fun y hy => ?_, g5⟩
  have key : ∀ {kvs : List (G × G)} {xs : List NX} {ys : List NY}, DNR W S H kvs xs → NxY xs ys → ∀ y ∈ ys, (nestedKind X.prog X.w).is s.heap y.1 y.2.1 := fun {kvs xs ys} r n => by
    unfold DNR at r
    induction r generalizing ys with
    | nil => cases n; intro y hy; cases hy
    | cons q _ ih =>
      cases n with
      | cons n1 n2 =>
        intro y hy
        rcases List.mem_cons.mp hy with rfl | hy
        · obtain ⟨e1, k1, k2, r1, _⟩ := q
          obtain ⟨m1, m2, _⟩ := n1
          have := ni_g I hK r1 k1 (u := .ref y.2.1) (by rw [m2]; rfl)
          rw [← e1, m1] at this
          exact ⟨this, m1 ▸ k2⟩
        · exact ih n2 y hy
  exact key r n y hy
theorem dn_new {w : World} {P : Program} {H' : Hp} {h' : Heap} {D : Addr} {xs : List NX} {ys : List NY} (hd : (D == sysModules) = false) (hl : xs.length ≤ sizeLine) (n : NxY xs ys) (d : h'.DictOfH (nestedKind P w) D ys) : ObjOk P w H' h' D (DnO w D xs) := by
  obtain ⟨ob, es, ep, g1, g2, g3, g4, _, g5⟩ := d
  refine ⟨⟨hd, hl, ys, ob, es, ep, n, g1, g2, g3, g4, g5⟩, ⟨ob, g1⟩, fun h1 h2 ⟨k1, k2, ys, ob, es, ep, n, e1, e2, e3, e4, e5⟩ st => ⟨k1, k2, ys, ob, es, ep, n, st _ e1, e2, e3, e4, e5⟩⟩
theorem dn_empty {P : Program} {w : World} {H : Hp} (h : Heap) (hb : sysModules < h.objs.size) : ObjOk P w H (h.push { cls := .type "dict", data := .dict #[] }) h.objs.size (DnO w h.objs.size []) :=
  dn_new (beq_eq_false_iff_ne.mpr (Ne.symm (Nat.ne_of_lt hb))) (Nat.zero_le _) .nil (Heap.DictOfH.new h)
theorem putX_len (xs : List NX) (k : NestedKey) (a : Addr) (z : V) : (putX xs k a z).length ≤ xs.length + 1 := by
  unfold putX
  split
  · rw [List.length_map]; omega
  · rw [List.length_append]; exact Nat.le_refl _
/-- d[k] = v by a comprehension -/
theorem dn_set {E : Value → Shared → Prop} {D a q : Addr} {xs : List NX} {kvs : List (G × G)} {y : G} {z : V} {u : Value} {Q : Unit → Shared → Prop} (hu : X.A.units + 8 < cLine) (I : Inv X pins σ H s) (hK : W.K = X.K) (hD : H D = some (DnO X.w q xs)) (r : DNR W S H kvs xs) (hz : xs.length < sizeLine)
    (hk : okK y = true) (hd : (nk y).depth ≤ 8) (ry : Rg W S H y (.ref a)) (rz : RelV z u) (h : ∀ s', Inv X pins σ (upd H D (DnO X.w D (putX xs (nk y) a z))) s' → Q () s') : wpAny (model X.prog X.w) X.A (dictSet D (.ref a) u) Q E s := by
  obtain ⟨_, d1, d2, ys, n, dd⟩ := dn_of I hK hD r
  refine wpAny_dictSet_heap (knd := nestedKind X.prog X.w) (k := nk y) (hsz := by rw [← nxy_len n]; exact d2) hu ⟨ni_g I hK ry hk rfl, hd⟩ dd fun h' dd' sb => h _ ?_
  have he : ∃ q, h'.get? D = some q := let ⟨o, _, _, e, _⟩ := dd'; ⟨o, e⟩
  have hl := putX_len xs (nk y) a z
  exact d_write I (by rw [hD]; exact True.intro) sb he (dn_new d1 (by omega) (nxy_put n rz) dd')
/-- k in d -/
def rInN (h : Bool → Bool) (w : World) (K : PySem.W.Frag) : R2 := fun x y H Q => ∃ (W : Wd) (S : AS) (g : G) (a p q : Addr) (kvs : List (G × G)) (xs : List NX), W.K = K ∧ x = .ref a ∧ Rg W S H g (.ref a) ∧ okK g = true ∧ (nk g).depth ≤ 8 ∧ y = .ref p ∧ H p = some (DnO w q xs) ∧ DNR W S H kvs xs ∧ Q (.bl (h (kvs.any fun kv => decide (nk kv.1 = nk g)))) H
theorem op_inN (hu : X.A.units + 16 < cLine) : OpR X (compareOp .In) (rInN (fun b => b) X.w X.K) := by
  intro pins s σ H x y v u Q I rx ry h
  obtain ⟨W, S, g, a, p, q, kvs, xs, hK, rfl, r1, k1, k2, rfl, hp, r, q⟩ := h
  obtain rfl : v = Value.ref a := rx
  obtain rfl : u = Value.ref p := ry
  obtain ⟨_, d1, d2, ys, n, dd⟩ := dn_of I hK hp r
  refine wpAny_in_heap (knd := nestedKind X.prog X.w) (k := nk g) (by show X.A.units + 1 + 8 < cLine; omega) ⟨ni_g I hK r1 k1 rfl, k2⟩ d1 dd ⟨.bl _, H, I.tok _, rfl, ?_⟩
  have e : (atKey ys (nk g)).isSome = kvs.any fun kv => decide (nk kv.1 = nk g) := by rw [← r.any (nk g)]; exact nxy_any _ n
  rw [e]
  exact q
theorem op_notInN (hu : X.A.units + 16 < cLine) : OpR X (compareOp .NotIn) (rInN (fun b => !b) X.w X.K) := by
  intro pins s σ H x y v u Q I rx ry h
  obtain ⟨W, S, g, a, p, q, kvs, xs, hK, rfl, r1, k1, k2, rfl, hp, r, q⟩ := h
  obtain rfl : v = Value.ref a := rx
  obtain rfl : u = Value.ref p := ry
  obtain ⟨_, d1, d2, ys, n, dd⟩ := dn_of I hK hp r
  have e : (atKey ys (nk g)).isSome = kvs.any fun kv => decide (nk kv.1 = nk g) := by rw [← r.any (nk g)]; exact nxy_any _ n
  rw [← e] at q
  refine notIn_keyed (knd := nestedKind X.prog X.w) (k := nk g) (kvs := pairsH ys) (by show X.A.units + 1 + 8 < cLine; omega) ⟨ni_g I hK r1 k1 rfl, k2⟩ d1 ⟨ys, dd, rfl⟩ ⟨.bl _, H, I.tok _, rfl, ?_⟩
  rw [valueAt_pairsH, Option.isSome_map]
  exact q
end
theorem RgB.dn {W : Wd} {S : AS} {H : Hp} {w : World} {kvs : List (G × G)} {v : V} (h : RgB W S H (dNG w kvs) v) : ∃ p q xs, v = .ref p ∧ H p = some (DnO w q xs) ∧ DNR W S H kvs xs := by
  rcases h with ⟨p, q, xs, e, _, h1, e1, e2, h2, h3⟩ | ⟨p, o, e, h1, q, xs, eo, e1, e2, h2, h3⟩
  · exact ⟨p, q, xs, e, h1, dnr_of e1 e2 h2 h3⟩
  · exact ⟨p, q, xs, e, eo ▸ h1, dnr_of e1 e2 h2 h3⟩
def u2InN (h : Bool → Bool) (w : World) : G → G → (G → Prop) → Prop := fun x y Φ => ∃ (gs : List G) (kvs : List (G × G)), x = .tup gs ∧ okKL gs = true ∧ (nk (.tup gs)).depth ≤ 8 ∧ y = dNG w kvs ∧ Φ (.bl (h (kvs.any fun kv => decide (nk kv.1 = nk (.tup gs)))))
section
variable {X : Cx} {K : PySem.W.Frag} {w : World} {a b : Expr} {ta tb : TE} {ua ub : UE} {pos : Pos}
theorem lr_inN (h : Bool → Bool) : Lr2B X.K (rInN h X.w X.K) (u2InN h X.w) := fun W S H g1 g2 v1 v2 Φ Q hk _ r1 r2 ⟨gs, kvs, e1, o1, o2, e2, q⟩ k => by
  subst e1
  subst e2
  obtain ⟨p, q', xs, rfl, h1, h2⟩ := r2.dn
  have r1' := r1
  obtain ⟨a, vs, rfl, _⟩ := r1'
  exact ⟨W, S, .tup gs, a, p, q', kvs, xs, hk, rfl, r1, by simpa [okK] using o1, o2, rfl, h1, h2, k _ _ H q (.refl _) rfl⟩
theorem k_inN (hu : X.A.units + 16 < cLine) (ha : GE X a ta ua) (hb : GB X b tb ub) (hm : behindInMarks .In b = false := by rfl) (hk : X.K = K := by rfl) (hw : X.w = w := by rfl) : GE X (.Compare a [.In] [b] pos) (tOp (rInN (fun b => b) w K) ta tb) (uOp (u2InN (fun b => b) w) ua ub) := by
  subst hk
  subst hw
  exact ge_cmpB ⟨op_inN hu, lr_inN _⟩ ha hb hm
theorem k_notInN (hu : X.A.units + 16 < cLine) (ha : GE X a ta ua) (hb : GB X b tb ub) (hm : behindInMarks .NotIn b = false := by rfl) (hk : X.K = K := by rfl) (hw : X.w = w := by rfl) : GE X (.Compare a [.NotIn] [b] pos) (tOp (rInN (fun b => !b) w K) ta tb) (uOp (u2InN (fun b => !b) w) ua ub) := by
  subst hk
  subst hw
  exact ge_cmpB ⟨op_notInN hu, lr_inN _⟩ ha hb hm
theorem kt_inN (hu : X.A.units + 16 < cLine) (ha : GE X a ta ua) (hb : GB X b tb ub) (hm : behindInMarks .In b = false := by rfl) (hk : X.K = K := by rfl) (hw : X.w = w := by rfl) : GT X (.Compare a [.In] [b] pos) (tTest (tOp (rInN (fun b => b) w K) ta tb)) (uTest (uOp (u2InN (fun b => b) w) ua ub)) := by
  subst hk
  subst hw
  exact gt_cmpB ⟨op_inN hu, lr_inN _⟩ ha hb hm
theorem kt_notInN (hu : X.A.units + 16 < cLine) (ha : GE X a ta ua) (hb : GB X b tb ub) (hm : behindInMarks .NotIn b = false := by rfl) (hk : X.K = K := by rfl) (hw : X.w = w := by rfl) : GT X (.Compare a [.NotIn] [b] pos) (tTest (tOp (rInN (fun b => !b) w K) ta tb)) (uTest (uOp (u2InN (fun b => !b) w) ua ub)) := by
  subst hk
  subst hw
  exact gt_cmpB ⟨op_notInN hu, lr_inN _⟩ ha hb hm
end
end Zn
/-! {k: v for x in xs}, the keys tuples within tuples -/
namespace Zn
open PySem PySem.Spec PyProof.Rows L2 TL
def PutN (w : World) (K : PySem.W.Frag) (D : Addr) (y z : V) (H : Hp) (Nx : Hp → Prop) : Prop := ∃ (W : Wd) (S : AS) (kvs : List (G × G)) (gy : G) (a q : Addr) (xs : List NX), W.K = K ∧ y = .ref a ∧ H D = some (DnO w q xs) ∧ DNR W S H kvs xs ∧ xs.length < sizeLine ∧
  okK gy = true ∧ (nk gy).depth ≤ 8 ∧ Rg W S H gy (.ref a) ∧ Nx (upd H D (DnO w D (putX xs (nk gy) a z)))
/-- one turn's wish -/
def dnTurn (w : World) (K : PySem.W.Frag) (D : Addr) (g : TG) (tt : TT) (tk tv : TE) (vs : List Nat) (σ : L2.St) (Nx : Hp → Prop) (x : V) (H : Hp) : Prop := g x (wipe σ vs) H fun σ2 H2 => wipe σ2 vs = wipe σ vs ∧ tt σ2 H2 fun b H3 => if b = true then tk σ2 H3 fun y H4 => tv σ2 H4 fun z H5 => PutN w K D y z H5 Nx else Nx H3
def tDn (w : World) (K : PySem.W.Frag) (wi : TI) (g : TG) (tt : TT) (tk tv : TE) (vs : List Nat) : TE := fun σ H Q => wi σ H fun J H1 => ∀ D, H1 D = none → ∃ V : Nat → Nat → Hp → Prop, (∃ m, V 0 m (upd H1 D (DnO w D []))) ∧ ∀ i m H, V i m H →
  (J.stop i H ∧ Q (.ref D) H) ∨ (J.go i H ∧ ∃ Nx : Hp → Prop, (∀ H', Nx H' → ∃ m', m' < m ∧ V (i + 1) m' H') ∧ ∀ x H', J.yld i H x H' → dnTurn w K D g tt tk tv vs σ Nx x H')
section
variable {X : Cx}
theorem dn_core {pins : List (Addr × Obj)} {s : Shared} {σ : L2.St} {H : Hp} {Q : VK} {kx vx tg iter : Expr} {ifs : List Expr} {scope : Scope} {own : List (PySem.Str × Nat)} {pos pos' : Pos} {wi : TI} {g : TG} {tt : TT} {tk tv : TE} {use : Option (Value → Sem Unit)} {Qf : Value → Shared → Prop}
    (hu : X.A.units + 8 < cLine) (hc : X.calm = true) (hN : X.N.Nodup) (I : Inv X pins σ H s) (hi : PI X tg iter wi) (ok : BlkOk X.N X.env.scope scope own)
    (hg : ∀ (s : Shared) (H : Hp) (C : Addr) (cl : List (PySem.Str × Addr)) (fp : List Addr), PG (X.blk s H scope (compEnvC scope cl C X.env) fp) tg g) (ht : ∀ (s : Shared) (H : Hp) (C : Addr) (cl : List (PySem.Str × Addr)) (fp : List Addr), PTs (X.blk s H scope (compEnvC scope cl C X.env) fp) ifs tt)
    (hk : ∀ (s : Shared) (H : Hp) (C : Addr) (cl : List (PySem.Str × Addr)) (fp : List Addr), PE (X.blk s H scope (compEnvC scope cl C X.env) fp) kx tk)
    (he : ∀ (s : Shared) (H : Hp) (C : Addr) (cl : List (PySem.Str × Addr)) (fp : List Addr), PE (X.blk s H scope (compEnvC scope cl C X.env) fp) vx tv) (hs : ∀ x, foldedSetIterable iter X.env x = pure x)
    (h : tDn X.w X.K wi g tt tk tv (own.map (·.2)) σ H Q)
    (out : ∀ D C s' m H', Inv X pins σ H' s' → Q (.ref D) H' → s'.heap.Ns C m → FpOk X pins H' C → compPost (model X.prog X.w) X.A X.xe use Qf (.ref D) C (.ok .next) s') :
    wpAny (model X.prog X.w) X.A (comprehension (.DictComp kx vx [⟨tg, iter, ifs, 0⟩] scope pos) scope X.env pos' newDict false (eval iter X.env) use) Qf X.xe s := by
  have cf : ∀ y ∈ scope.names, y.2 = .free → ∃ c, X.env.cells.lookup y.1 = some c := fun y hy e => (ok.free y hy e).elim (fun k => I.ok.has _ (.inl k)) fun k => I.ok.has _ (.inr k)
  refine wpAny_comprehension_free (use := use) rfl hs (closure_ok cf) ok.kind (fun y hy e => by rw [ok.uniq y hy, e]) (thn (hi.run pins s σ H _ I h) fun xv sa ha => thn ha fun itv sb hb => ?_)
  obtain ⟨it, fp, tn, J, Hb, e0, Ib, T, tb, fb, q⟩ := hb
  subst e0
  refine wpAny_newObj_type (newEnv_comp ?_)
  generalize hD : sb.heap.objs.size = D
  obtain ⟨V, ⟨m0, v0⟩, turn⟩ := q D (Ib.hok.fresh (Nat.le_of_eq hD))
  -- the dict is made
  obtain ⟨sc, hsc⟩ : ∃ sc : Shared, sc = { sb with heap := sb.heap.push { cls := .type "dict", data := .dict #[] } } := ⟨_, rfl⟩
  have hch : sc.heap = sb.heap.push { cls := .type "dict", data := .dict #[] } := by rw [hsc]
  have Ic : Inv X pins σ (upd Hb D (DnO X.w D [])) sc := by
    rw [hsc]
    refine Ib.laid (t' := sb.toks) (fun b o e => Heap.get?_push_of_some _ e) (Nat.le_of_eq hD) ?_
    rw [← hD]
    exact dn_empty sb.heap Ib.big
  have fsz : ∀ b ∈ fp, b < sb.heap.objs.size := fun b hb => let ⟨o, e, _⟩ := T.obj _ _ tb b hb; Heap.lt_size e
  have fc : ∀ b ∈ fp, FpOk X pins (upd Hb D (DnO X.w D [])) b ∧ b < sc.heap.objs.size := fun b hb => by
    have l := fsz b hb
    exact ⟨⟨(upd_ne (by rw [← hD]; exact Nat.ne_of_lt l)).trans (fb b hb).1, (fb b hb).2⟩, by rw [hch, Heap.size_push]; exact Nat.lt_succ_of_lt l⟩
  have tc : tn 0 sc.heap := T.keep _ _ _ tb fun b _ o e => by rw [hch]; exact Heap.get?_push_of_some _ e
  have Id := block_start Ic ok hN fc
  have nf : ∀ b ∈ fp, (upd Hb D (DnO X.w D [])) b = none := fun b hb => (fc b hb).1.1
  rw [← hsc]
  obtain ⟨cl, hcl⟩ : ∃ cl, cl = cellsFrom (sc.heap.objs.size + 1) scope.names (cloFrom X.env.cells scope.names []) := ⟨_, rfl⟩
  rw [← hcl] at Id ⊢
  have pg := hg sc (upd Hb D (DnO X.w D [])) sc.heap.objs.size cl fp
  have pt := ht sc (upd Hb D (DnO X.w D [])) sc.heap.objs.size cl fp
  have pk := hk sc (upd Hb D (DnO X.w D [])) sc.heap.objs.size cl fp
  have pv := he sc (upd Hb D (DnO X.w D [])) sc.heap.objs.size cl fp
  show codeAny _ _ (.compStart (.DictComp kx vx [⟨tg, iter, ifs, 0⟩] scope pos) 0 (.ref it) (.ref D) (compEnvC scope cl sc.heap.objs.size X.env)) (compPost (model X.prog X.w) X.A X.xe use Qf (.ref D) sc.heap.objs.size) { sc with heap := pushCells (sc.heap.push { cls := .type "dict", data := .dict #[] }) scope.names }
  obtain ⟨ce, hce⟩ : ∃ ce, ce = compEnvC scope cl sc.heap.objs.size X.env := ⟨_, rfl⟩
  have cL : ce.locals = sc.heap.objs.size := by rw [hce]; rfl
  rw [← hce] at Id pg pt pk pv ⊢
  obtain ⟨Hc, hHc⟩ : ∃ Hc, Hc = upd Hb D (DnO X.w D []) := ⟨_, rfl⟩
  rw [← hHc] at Ic Id pg pt pk pv v0 nf fc
  obtain ⟨sd, hsd⟩ : ∃ sd : Shared, sd = { sc with heap := pushCells (sc.heap.push { cls := .type "dict", data := .dict #[] }) scope.names } := ⟨_, rfl⟩
  show codeAny _ _ (.compStart (.DictComp kx vx [⟨tg, iter, ifs, 0⟩] scope pos) 0 (.ref it) (.ref D) ce) (compPost (model X.prog X.w) X.A X.xe use Qf (.ref D) sc.heap.objs.size) _
  have Id : Inv (X.blk sc Hc scope ce fp) [] (wipe σ (own.map (·.2))) Hc sd := by rw [hsd]; exact Id
  have td : tn 0 sd.heap := T.keep _ _ _ tc fun b _ o e => by rw [hsd]; exact pushCells_keeps _ _ _ _ (Heap.get?_push_of_some _ e)
  have stat : ∀ {σ' : L2.St} {H' : Hp} {s' : Shared}, Inv (X.blk sc Hc scope ce fp) [] σ' H' s' → (∀ b ∈ fp, H' b = none) → ∀ b ∈ fp, FpOk (X.blk sc Hc scope ce fp) [] H' b := fun {σ' H' s'} J hn b hb =>
    ⟨hn b hb, (J.ok.exf b hb).1, J.ok.exfs b hb, .inl hb, fun x c e => (J.ok.exf b hb).2 x c e, fun p hp => absurd (show p ∈ ([] : List (Addr × Obj)) ++ [] from hp) (by simp)⟩
  have loop : codeAny (model X.prog X.w) X.A (.compLoop (.DictComp kx vx [⟨tg, iter, ifs, 0⟩] scope pos) 0 (.ref it) (.ref D) ce) (compPost (model X.prog X.w) X.A X.xe use Qf (.ref D) sc.heap.objs.size) sd := by
    refine compLoop_anyD (fun n s' => ∃ i H', Inv (X.blk sc Hc scope ce fp) [] (wipe σ (own.map (·.2))) H' s' ∧ tn i s'.heap ∧ (∀ b ∈ fp, H' b = none) ∧ V i n H') ?_ m0 ⟨0, Hc, Id, td, nf, v0⟩
    rintro n se ⟨i, He, Ie, te, ne, ve⟩
    rcases turn i n He ve with ⟨stop, qq⟩ | ⟨go, Nx, hNx, step⟩
    · refine thnF (T.done (X.blk sc Hc scope ce fp) rfl rfl rfl hc i [] se _ He (fun _ _ => False) Ie (stat Ie ne) te stop) fun r sf ⟨hr, If⟩ => ?_
      subst hr
      have nC : He sc.heap.objs.size = none := by
        have z : He ce.locals = none := If.free
        rw [cL] at z
        exact z
      obtain ⟨m, hn, _⟩ := If.loc
      have hn : sf.heap.Ns ce.locals m := hn
      rw [cL] at hn
      exact out D sc.heap.objs.size sf m He (Ic.call' (ch := fp) If.os If.base If.hok If.bare fun b hb => ⟨(fc b hb).1.2.2.2.1, (fc b hb).1.2.1, (fc b hb).1.2.2.2.2.1, (fc b hb).1.2.2.2.2.2⟩) qq hn (Ic.fpOk (Nat.le_refl _) nC)
    · refine thnF (T.item (X.blk sc Hc scope ce fp) rfl rfl rfl hc i [] se _ He (fun _ _ => False) Ie (stat Ie ne) te go) fun r sf ⟨u, hr, hf⟩ => ?_
      subst hr
      refine thnF hf fun _ sg ⟨x, Hg, Ig, rg, yg, tg', ng⟩ => ?_
      refine thnF (pg.run _ sg _ Hg x u _ (Ig.pinned (stat Ig ng) (T.obj _ _ tg')) rg (step x Hg yg)) fun _ sh ⟨σh, Hh, Ih, wh, qh⟩ => ?_
      refine thnF (pt.run _ sh σh Hh _ Ih qh) fun b si ⟨Hi, Ii, qi⟩ => ?_
      have fin : ∀ {s' : Shared} {H' : Hp}, Inv (X.blk sc Hc scope ce fp) ([] ++ pinsAt fp sg.heap) σh H' s' → Nx H' → ∃ m, m < n ∧ ∃ i H', Inv (X.blk sc Hc scope ce fp) [] (wipe σ (own.map (·.2))) H' s' ∧ tn i s'.heap ∧ (∀ b ∈ fp, H' b = none) ∧ V i m H' := fun {s' H'} J nx => by
        obtain ⟨m', hm, v'⟩ := hNx H' nx
        have pin : ∀ b ∈ fp, ∀ o, sg.heap.get? b = some o → s'.heap.get? b = some o ∧ H' b = none := fun b hb o e =>
          let z := J.pin (b, o) (List.mem_append_right _ (List.mem_append_right _ (mem_pinsAt hb e)))
          ⟨z.1, z.2.1⟩
        refine ⟨m', hm, i + 1, H', (J.unpinned (pins := [])).weak (by rw [← wh, wipe_length]) (fun j v e => ?_), T.keep _ _ _ tg' fun b hb o e => (pin b hb o e).1, fun b hb => ?_, v'⟩
        · rw [← wh] at e
          exact (wipe_some e).1
        · obtain ⟨o, e, _⟩ := T.obj _ _ tg' b hb
          exact (pin b hb o e).2
      cases b with
      | false =>
        simp only [Bool.false_eq_true, if_false] at qi ⊢
        exact fin Ii qi
      | true =>
        simp only [if_true] at qi ⊢
        refine thnF (pk.run _ si σh Hi _ Ii qi) fun kv sj ⟨yk, Hj, Ij, rj, qj⟩ => ?_
        refine thnF (pv.run _ sj σh Hj _ Ij qj) fun vv sk ⟨yv, Hk, Ik, rk, W, S, kvs, gy, a, q, xs, hK, ek, hDk, dr, hz, k1, k2, rgy, nx⟩ => ?_
        subst ek
        cases (show kv = Value.ref a from rj)
        exact dn_set (X := X.blk sc Hc scope ce fp) hu Ik hK hDk dr hz k1 k2 rgy rk fun sl Il => fin Il nx
  rw [← hsd]
  exact codeAny_compStart_dict loop (T.self X.A 0 _ _ _ td loop)
theorem pe_dn {kx vx tg iter : Expr} {ifs : List Expr} {scope : Scope} {own : List (PySem.Str × Nat)} {pos : Pos} {wi : TI} {g : TG} {tt : TT} {tk tv : TE} (hu : X.A.units + 8 < cLine) (hc : X.calm = true) (hN : X.N.Nodup) (hi : PI X tg iter wi) (ok : BlkOk X.N X.env.scope scope own)
    (hg : ∀ (s : Shared) (H : Hp) (C : Addr) (cl : List (PySem.Str × Addr)) (fp : List Addr), PG (X.blk s H scope (compEnvC scope cl C X.env) fp) tg g) (ht : ∀ (s : Shared) (H : Hp) (C : Addr) (cl : List (PySem.Str × Addr)) (fp : List Addr), PTs (X.blk s H scope (compEnvC scope cl C X.env) fp) ifs tt)
    (hk : ∀ (s : Shared) (H : Hp) (C : Addr) (cl : List (PySem.Str × Addr)) (fp : List Addr), PE (X.blk s H scope (compEnvC scope cl C X.env) fp) kx tk)
    (he : ∀ (s : Shared) (H : Hp) (C : Addr) (cl : List (PySem.Str × Addr)) (fp : List Addr), PE (X.blk s H scope (compEnvC scope cl C X.env) fp) vx tv) (hs : ∀ x, foldedSetIterable iter X.env x = pure x := by intro _; rfl) :
    PE X (.DictComp kx vx [⟨tg, iter, ifs, 0⟩] scope pos) (tDn X.w X.K wi g tt tk tv (own.map (·.2))) := by
  refine ⟨fun pins s σ H Q I h => ?_⟩
  rw [arm_eval_DictComp]
  refine dn_core hu hc hN I hi ok hg ht hk he hs h fun D C s' m H' I' q hn ⟨f0, f1, _, f3, f4, _⟩ => ⟨m, hn, fun h'' sb => ?_⟩
  exact ⟨.ref D, H', I'.turned (t' := s'.toks) (fun b o hb e => (sb.2 b hb).trans e) f0 f1 f3 f4 (by assumption), rfl, q⟩
end
end Zn
/-! {k: v for x in xs} with keys that are tuples, told of values -/
namespace Zn
open PySem PySem.Spec PyProof.Rows L2 TL
theorem putN_len (kvs : List (G × G)) (k g : G) : (putN kvs k g).length ≤ kvs.length + 1 := by
  unfold putN
  split
  · rw [List.length_map]; omega
  · rw [List.length_append]; exact Nat.le_refl _
theorem DNR.nx {W : Wd} {S S' : AS} {H H' : Hp} {kvs : List (G × G)} {xs : List NX} (h : DNR W S H kvs xs) (n : Nxt S H S' H') : DNR W S' H' kvs xs := h.imp fun _ _ r => r.nx n
def uDn (w : World) (ui : UA) (ug : UG) (utt : UT) (uk uv : UE) (vs : List Nat) : UE := fun ρ Φ => ui ρ fun ρ1 gs => gs.length ≤ 100000 ∧ ∃ Iv : Nat → List (G × G) → RS → Prop, Iv 0 [] (wipeG ρ1 vs) ∧
  (∀ i g acc ρ2, gs[i]? = some g → acc.length ≤ i → Iv i acc ρ2 → ug g (wipeG ρ2 vs) fun ρ3 => utt ρ3 fun ρ4 b => if b = true then uk ρ4 fun ρ5 y => uv ρ5 fun ρ6 z => ∃ hs, y = .tup hs ∧ okKL hs = true ∧ (nk (.tup hs)).depth ≤ 8 ∧ Iv (i + 1) (putN acc (.tup hs) z) (wipeG ρ6 vs) else Iv (i + 1) acc (wipeG ρ4 vs)) ∧
  ∀ acc ρ2, acc.length ≤ gs.length → Iv gs.length acc ρ2 → Φ (mergeG ρ1 vs ρ2) (dNG w acc)
section
variable {X : Cx} {pos : Pos} {wi : TI} {ui : UA} {is : List Nat} {g : TG} {ug : UG} {tt : TT} {utt : UT} {tk tv : TE} {uk uv : UE} {vs : List Nat}
theorem le_dn {K : PySem.W.Frag} {w : World} (hv : ∀ i ∈ is, i ∈ vs) (h1 : ∀ F : Fr, F.K = K → LI F wi ui) (h2 : ∀ F : Fr, F.K = K → LG F is g ug) (h3 : ∀ F : Fr, F.K = K → LT F tt utt) (h4 : ∀ F : Fr, F.K = K → LE F tk uk) (h5 : ∀ F : Fr, F.K = K → LE F tv uv)
    (F : Fr) (k : F.K = K) : LN F (tDn w K wi g tt tk tv vs) (uDn w ui ug utt uk uv vs) := fun ρ Φ σ H S Q q R j => by
  refine h1 F k ρ _ σ H S _ q R fun ρ1 gs J H1 S1 ⟨hz, Iv, i0, is_, ie⟩ n1 R1 it D hD => ?_
  obtain ⟨R2, n2⟩ := R1.grow (o := DnO w D []) hD
  have fr := R1.new hD
  have R2 := (R2.addPin upd_same (.inr rfl) fr).wipe vs
  have nq : ∀ q ∈ F.pn, q.1 ≠ D := fr.2.2
  refine ⟨fun i m H' => m = gs.length - i ∧ i ≤ gs.length ∧ ∃ acc xs ρ2 S2, acc.length ≤ i ∧ Iv i acc ρ2 ∧ Nxt S1 H1 S2 H' ∧ Rel (F.pnw (D, DnO w D xs)) S2 ρ2 σ H' ∧ DNR F.toWd S2 H' acc xs,
    ⟨_, rfl, Nat.zero_le _, [], [], _, _, Nat.le_refl _, i0, n2, R2, .nil⟩, ?_⟩
  rintro i m H2 ⟨rfl, hi, acc, xs, ρ2, S2, hl, iv, n3, R3, r3⟩
  by_cases hlt : i < gs.length
  · refine .inr ⟨it.go i H2 S2 hlt n3, fun H' => ∃ acc xs ρ2 S2, acc.length ≤ i + 1 ∧ Iv (i + 1) acc ρ2 ∧ Nxt S1 H1 S2 H' ∧ Rel (F.pnw (D, DnO w D xs)) S2 ρ2 σ H' ∧ DNR F.toWd S2 H' acc xs, fun H' h => ⟨_, by omega, rfl, hlt, h⟩, fun x H3 y => ?_⟩
    obtain ⟨s3, g', eg, rg'⟩ := it.yld i H2 S2 x H3 hlt n3 y
    obtain ⟨R4, n4⟩ := R3.same s3
    have R4 := R4.toWipe vs
    refine h2 (F.pnw (D, DnO w D xs)) k g' x _ _ _ H3 S2 _ (is_ i g' acc ρ2 eg hl iv) R4 rg' fun ρ5 σ5 H5 S5 q5 n5 R5 e5 => ?_
    have l5 : σ5.length = σ.length := by
      rw [e5.1, wipe_length]
    have o5 : ∀ i, i ∉ vs → σ5[i]? = σ[i]? := fun i hi => (e5.2 i fun z => hi (hv i z)).trans (wipe_out hi)
    refine ⟨wipe_eq l5 o5, ?_⟩
    have n05 : Nxt S1 H1 S5 H5 := (n3.trans n4).trans n5
    refine h3 (F.pnw (D, DnO w D xs)) k ρ5 _ σ5 H5 S5 _ q5 R5 fun ρ6 b H6 S6 q6 n6 R6 => ?_
    cases b with
    | false =>
      exact ⟨acc, xs, _, S6, by omega, q6, n05.trans n6, R6.ofWipe l5 o5, ((r3.nx n4).nx n5).nx n6⟩
    | true =>
      refine h4 (F.pnw (D, DnO w D xs)) k ρ6 _ σ5 H6 S6 _ q6 R6 fun ρ7 y v H7 S7 q7 n7 R7 r7 => ?_
      refine h5 (F.pnw (D, DnO w D xs)) k ρ7 _ σ5 H7 S7 _ q7 R7 fun ρ8 z u H8 S8 ⟨hs, ey, o1, o2, q8⟩ n8 R8 r8 => ?_
      subst ey
      have p8 := (R8.pin (D, DnO w D xs) List.mem_cons_self).1
      have r3' := ((((r3.nx n4).nx n5).nx n6).nx n7).nx n8
      have ry := r7.nx n8
      have ry' := ry
      obtain ⟨a, us, rfl, _⟩ := ry'
      refine ⟨F.toWd, S8, acc, .tup hs, a, D, xs, k, rfl, p8, r3', lt_line (by rw [r3.len]; omega), by simpa [okK] using o1, o2, ry, ?_⟩
      obtain ⟨R9, n9⟩ := R8.repin (o' := DnO w D (putX xs (nk (.tup hs)) a u)) (fun _ z => by cases z) nq
      exact ⟨putN acc (.tup hs) z, putX xs (nk (.tup hs)) a u, _, S8, by have := putN_len acc (.tup hs) z; omega, q8, (((n05.trans n6).trans n7).trans n8).trans n9, R9.ofWipe l5 o5, (r3'.put (by simpa [okK] using o1) o2 ry r8).nx n9⟩
  · have e : i = gs.length := by omega
    subst e
    refine .inl ⟨it.stop H2 S2 n3, ?_⟩
    obtain ⟨p1, p2, p3, p4, p5⟩ := R3.pin (D, DnO w D xs) List.mem_cons_self
    have R4 := R3.unpin
    exact j _ (dNG w acc) D _ H2 S2 (ie acc ρ2 hl iv) (n1.trans n3) (R1.merge n3 R4 vs) p2 p1 ⟨D, xs, rfl, dnr_to r3⟩ ⟨p5, fun i f g hi => p4 i f g (mergeG_own hi), nq⟩
theorem gn_dn {K : PySem.W.Frag} {w : World} {kx vx tg iter : Expr} {ifs : List Expr} {scope : Scope} {own : List (PySem.Str × Nat)} (hu : X.A.units + 8 < cLine) (hc : X.calm = true) (hN : X.N.Nodup) (hi : GI X tg iter wi ui) (ok : BlkOk X.N X.env.scope scope own)
    (hg : ∀ (s : Shared) (H : Hp) (C : Addr) (cl : List (PySem.Str × Addr)) (fp : List Addr), GG (X.blk s H scope (compEnvC scope cl C X.env) fp) is tg g ug) (ht : ∀ (s : Shared) (H : Hp) (C : Addr) (cl : List (PySem.Str × Addr)) (fp : List Addr), GTs (X.blk s H scope (compEnvC scope cl C X.env) fp) ifs tt utt)
    (hk : ∀ (s : Shared) (H : Hp) (C : Addr) (cl : List (PySem.Str × Addr)) (fp : List Addr), GE (X.blk s H scope (compEnvC scope cl C X.env) fp) kx tk uk)
    (he : ∀ (s : Shared) (H : Hp) (C : Addr) (cl : List (PySem.Str × Addr)) (fp : List Addr), GE (X.blk s H scope (compEnvC scope cl C X.env) fp) vx tv uv) (hv : ∀ i ∈ is, i ∈ own.map (·.2)) (hs : ∀ x, foldedSetIterable iter X.env x = pure x := by intro _; rfl) (hkk : X.K = K := by rfl) (hw : X.w = w := by rfl) :
    GN X (.DictComp kx vx [⟨tg, iter, ifs, 0⟩] scope pos) (tDn w K wi g tt tk tv (own.map (·.2))) (uDn w ui ug utt uk uv (own.map (·.2))) := by
  subst hkk
  subst hw
  exact ⟨pe_dn hu hc hN hi.pe ok (fun s H C cl fp => (hg s H C cl fp).pe) (fun s H C cl fp => (ht s H C cl fp).pe) (fun s H C cl fp => (hk s H C cl fp).pe) (fun s H C cl fp => (he s H C cl fp).pe) hs,
    le_dn hv (fun F h => hi.le F h) (fun F h => (hg X.s_0 X.H_0 0 [] []).le F h) (fun F h => (ht X.s_0 X.H_0 0 [] []).le F h) (fun F h => (hk X.s_0 X.H_0 0 [] []).le F h) (fun F h => (he X.s_0 X.H_0 0 [] []).le F h)⟩
theorem v_dn {w : World} {ρ : RS} {Φ : RS → G → Prop} (q : ui ρ fun ρ1 gs => gs.length ≤ 100000 ∧ ∃ Iv : Nat → List (G × G) → RS → Prop, Iv 0 [] (wipeG ρ1 vs) ∧
  (∀ i g acc ρ2, gs[i]? = some g → acc.length ≤ i → Iv i acc ρ2 → ug g (wipeG ρ2 vs) fun ρ3 => utt ρ3 fun ρ4 b => if b = true then uk ρ4 fun ρ5 y => uv ρ5 fun ρ6 z => ∃ hs, y = .tup hs ∧ okKL hs = true ∧ (nk (.tup hs)).depth ≤ 8 ∧ Iv (i + 1) (putN acc (.tup hs) z) (wipeG ρ6 vs) else Iv (i + 1) acc (wipeG ρ4 vs)) ∧
  ∀ acc ρ2, acc.length ≤ gs.length → Iv gs.length acc ρ2 → Φ (mergeG ρ1 vs ρ2) (dNG w acc)) : uDn w ui ug utt uk uv vs ρ Φ := q
end
end Zn
/-! repr of data in the law: the law's frame stands on the caller's, nothing is being shown yet -/
namespace Zn
open PySem PySem.Spec PyProof.Rows L2 TL
/-- the law's promise, where it is called -/
def LawG (P : Program) (w : World) (K : PySem.W.Frag) (mg : Str → Option Value) (base : Heap) (f : Addr) (fd : FuncData) (sp : Sp) : Prop :=
  ∀ (s : Shared) (H : Hp) (a : Addr) (Q : VK) (E : XK), Env0 P w K mg base callerA [] s H → BindsTo s fd ⟨[.ref a], []⟩ [("_law_script", .ref a)] → sp [.ref a] H Q E → codeAny (model P w) callerA (.call (.ref f) ⟨[.ref a], []⟩) (CR CX0 [] P w H s Q E) s
section
variable {P : Program} {w : World} {K : PySem.W.Frag} {mg : Str → Option Value} {base : Heap}
theorem lawG_of {k : Nat} {st : Stmt} {f : Addr} {fd : FuncData} {N : List Str} {sp : Sp} (F : Fun K "law" "law" st f fd) (S : FnScope N ["_law_script"] (defScope st)) (hr : Room (k + 1) callerA)
    (hbody : ∀ (cdv : Value) (A : Around) (outer : List Env) (s : Shared) (H : Hp) (vs : List V) (Q : VK) (E : XK), Room k (A.deeper (envOfC "law" (defScope st) s.heap.objs.size f cdv)) → (A.deeper (envOfC "law" (defScope st) s.heap.objs.size f cdv)).guards = some [] → sp vs H Q E →
      ∃ t, PSs (cxOf CX0 P w K mg base N "law" (defScope st) f cdv A outer s H E).nox (defBody st) t ∧ t { nx := fun _ H' => Q .non H', rt := Q } (start N vs) H) : LawG P w K mg base f fd sp := by
  intro s H a Q E e0 hb hsp
  obtain ⟨oc, od, kV, doc, pm, an, cdv, ct, osl, rfl, lk, hcd⟩ := F.ex
  have old : ∀ b o, base.get? b = some o → s.heap.get? b = some o := fun b o e => (e0.bs b o e).1
  have KX : K.In s.heap := e0.mod.kin.keeps old
  have par := S.par "_law_script" (List.mem_cons_self ..)
  have hk : ∀ y ∈ [(("_law_script" : Str), Value.ref a)], (defScope st).names.lookup y.1 = some .local ∨ ((defScope st).names.lookup y.1 = some .cell ∧ ((cellsFrom (s.heap.objs.size + 1) (defScope st).names []).lookup y.1).isSome = true) := fun y hy => by
    cases List.mem_singleton.mp hy
    exact par.imp id fun q => ⟨q, PySem.W.cellsFrom_some _ _ _ (.inl q)⟩
  refine codeAny_call_function hr.depth (KX _ _ lk) rfl S.co S.gen rfl (PySem.W.codeRec_of KX hcd) (hb _ _ _ _ ?_)
  refine wpAny_newFunctionEnv_cells S.kind hk fun env he s1 x => ?_
  subst he
  refine ⟨(e0.mod.nolimit.keeps old).keeps x.toInCall.keep, codeAny_func ?_⟩
  obtain ⟨t, ht, hq⟩ := hbody cdv callerA [] s H [.ref a] Q E (hr.deeper _) rfl hsp
  have I := inv_start (vs := [.ref a]) (CX := CX0) (E := E) S hr.hd e0 rfl (.cons rfl .nil) x
  refine wpAny_mono (ht.nox.run [] s1 (start N [.ref a]) H _ I hq) (fun fl s' hs => ?_) fun e s' hs => hs
  cases fl with
  | ret u =>
    obtain ⟨v, σ', H', J, rv, q⟩ := hs
    exact ⟨v, H', J.os, J.bare, J.base, J.hok, rv, q⟩
  | next =>
    obtain ⟨σ', H', J, q⟩ := hs
    exact ⟨.non, H', J.os, J.bare, J.base, J.hok, rfl, q⟩
  | brk => exact hs.elim fun _ h => h.elim fun _ h => h.2.elim
  | cont => exact hs.elim fun _ h => h.elim fun _ h => h.2.elim
/-- the script alone may be told -/
theorem lawG_core {mb : Str → Option Value} {fa a : Addr} {fd : FuncData} {sp : Sp} {s : Shared} {its : Array Value} {H : Hp} (KX : K.In s.heap) (hns : s.heap.Ns mainGlobals mg) (hb : s.heap.Ns builtinsNs mb) (hbb : ∀ x : Str, x ≠ "__name__" → mb x = bootBuiltins x) (hlim : s.heap.NoLimit) (hg : s.gens = #[])
    (ha : s.heap.get? a = some { cls := .type "list", data := .seq its }) (only : ∀ b u, H b = some u → b = a ∧ (∃ o xs, u = .frz o (.lst xs)) ∧ K.lookup a = none) (ok : HOk P w H s.heap)
    (F : ∀ base : Heap, K.In base → base.Ns mainGlobals mg → LawG P w K mg base fa fd sp) (hbind : ∀ (s : Shared) (u : Value), BindsTo s fd ⟨[u], []⟩ [("_law_script", u)]) (hsp : sp [.ref a] H (fun v _ => v = .bl true) fun _ _ _ => False) :
    codeAny (model P w) callerA (.call (.ref fa) ⟨[.ref a], []⟩) (fun r s' => r = .ok (.ret (.bool true)) ∧ OldK s.heap s'.heap ∧ s'.os = s.os ∧ AllBare s'.gens) s := by
  have seen : ∀ {b : Addr} {o : Obj}, s.heap.get? b = some o → (b = a → K.lookup a ≠ none ∨ ∀ n, o.data ≠ .seq its n) → (hidT s.heap H).get? b = some o := fun {b o} e h => by
    refine hidT_get e ?_
    cases q : H b with
    | none => rfl
    | some u =>
      obtain ⟨z, _, n⟩ := only b u q
      exfalso
      rcases h z with h | h
      · exact h n
      · rw [z, ha] at e
        cases e
        exact h _ rfl
  have dicts : ∀ {b : Addr} {m : Str → Option Value}, s.heap.Ns b m → (hidT s.heap H).Ns b m := fun ⟨o, es, ep, e, d, r⟩ => ⟨o, es, ep, seen e (fun _ => .inr fun n z => Data.noConfusion (d.symm.trans z)), d, r⟩
  have kin : K.In (hidT s.heap H) := fun b o e => seen (KX b o e) fun z => .inl (by rw [← z, e]; intro q; cases q)
  have lim : (hidT s.heap H).NoLimit := let ⟨mc, h1, h2⟩ := hlim; ⟨mc, dicts h1, h2⟩
  have e0 : Env0 P w K mg (hidT s.heap H) callerA [] s H := ⟨rfl, ⟨kin, dicts hns, ⟨mb, dicts hb, hbb⟩, lim⟩, fun b o e => of_hidT e, Nat.le_of_eq (hidT_size _ _), trivial, fun b hb => (List.not_mem_nil hb).elim, ok, .of_eq hg⟩
  refine codeAny_mono (F _ kin (dicts hns) s H a _ _ e0 (hbind s (.ref a)) hsp) fun r s' h => ?_
  match r, h with
  | .error e, h => exact h.elim
  | .ok .next, h => exact h.elim
  | .ok .brk, h => exact h.elim
  | .ok .cont, h => exact h.elim
  | .ok (.ret u), ⟨v, H', os, bare, un, ok', r', q⟩ =>
    cases (show v = .bl true from q)
    cases (show u = Value.bool true from r')
    refine ⟨rfl, OldK.of_keep fun b o e => ?_, os, bare⟩
    cases q : H b with
    | none => exact un.keep b o e q (fun z => List.not_mem_nil z) (fun z => List.not_mem_nil z)
    | some u =>
      obtain ⟨_, ⟨ob, xs, rfl⟩, _⟩ := only b u q
      have e1 := (ok b _ q).1
      rw [e] at e1
      cases e1
      exact (ok' b _ (un.frzs b _ _ q)).1
end
theorem walkG {l : PySem.W.OpenLaw} {q : Program} {loose : List Str} {XP : (Str → Option Value) → Heap → Prop} {YP : World → Heap → Prop} {d : DefRec} {K : Params → PySem.W.Frag} (hn : l.most = some 63) (hdf : d.params.defaults = [])
    (hY : ∀ (w : World) (h : Heap), YP w h → (K w.params).In h)
    (F : ∀ (w : World) (mg : Str → Option Value) (fa : Addr) (h : Heap), (K w.params).In h → h.Ns mainGlobals mg → mg d.name = some (.ref fa) →
      ∃ fd : FuncData, (∀ (s : Shared) (u : Value), BindsTo s fd ⟨[u], []⟩ [("_law_script", u)]) ∧ ∀ base : Heap, (K w.params).In base → base.Ns mainGlobals mg → LawG l.prog w (K w.params) mg base fa fd (spLaw (K w.params))) :
    PySem.W.WalkO q loose XP YP l.row.toRowW d [] (fun f vs => PySem.call f vs) := by
  refine Att.attach_call hn hdf fun w s₀ s₁ mg mb fa o pm cd doc a vs ns G Y ho hd hcd hmg hobj hints hlen hg => ?_
  have KX := hY w _ Y
  obtain ⟨fd, hb, hF⟩ := F w mg fa _ KX G.T.g hmg
  have rv := vals_ints hints
  have lv := hints.length
  have big : ∀ n, n ≤ 63 → n ≤ sizeLine := fun n h => Nat.le_trans h (by decide)
  cases hk : (K w.params).lookup a with
  | some ob =>
    have e := KX a ob hk
    rw [hobj] at e
    cases e
    refine lawG_core (H := fun _ => none) KX G.T.g G.T.b G.T.builtins G.T.nolimit hg hobj (fun b u z => by cases z) (fun b u z => by cases z) hF hb ?_
    exact ⟨a, ns, rfl, .inr ⟨_, vs.toArray, _, hk, rfl, rfl, rfl, by rw [List.size_toArray, lv]; exact big _ hlen, by simpa using rv⟩, hlen, fun _ => rfl⟩
  | none =>
    refine lawG_core (H := fun b => if b = a then some (.frz { cls := .type "list", data := .seq vs.toArray } (.lst (ns.map V.int))) else none) KX G.T.g G.T.b G.T.builtins G.T.nolimit hg hobj (fun b u z => ?_) (fun b u z => ?_) hF hb ?_
    · by_cases hb : b = a
      · simp only [if_pos hb] at z
        cases z
        exact ⟨hb, ⟨_, _, rfl⟩, hk⟩
      · simp only [if_neg hb] at z
        cases z
    · by_cases hb : b = a
      · simp only [if_pos hb] at z
        cases z
        subst hb
        exact ⟨hobj, by rw [List.length_map]; exact big _ hlen, vs, _, rv, hobj⟩
      · simp only [if_neg hb] at z
        cases z
    · exact ⟨a, ns, rfl, .inl (.inr ⟨_, if_pos rfl⟩), hlen, fun _ => rfl⟩
/-- the law's body -/
theorem g_lawG {P : Program} {w : World} {K : PySem.W.Frag} {mg : Str → Option Value} {base : Heap} {st : Stmt} {f : Addr} {fd : FuncData} {N : List Str} {k : Nat} (F : Fun K "law" "law" st f fd) (sc : FnScope N ["_law_script"] (defScope st)) (hN : 2 ≤ N.length) (hr : Room (k + 1) callerA)
    (body : ∀ (cdv : Value) (A : Around) (outer : List Env) (s : Shared) (H : Hp) (E : XK), Room k (A.deeper (envOfC "law" (defScope st) s.heap.objs.size f cdv)) → (A.deeper (envOfC "law" (defScope st) s.heap.objs.size f cdv)).guards = some [] →
      ∃ t u, GLaw (cxOf CX0 P w K mg base N "law" (defScope st) f cdv A outer s H E).nox K (defBody st) t u ∧ u endsL (startL N)) : LawG P w K mg base f fd (spLaw K) := by
  refine lawG_of F sc hr fun cdv A outer s H vs Q E hr hgd h => ?_
  obtain ⟨a, ns, rfl, h1, h2, q⟩ := h
  obtain ⟨t, u, g, h3⟩ := body cdv A outer s H E hr hgd
  exact ⟨_, g.pe, law_le g hN h3 h1 h2 q⟩
end Zn
/-! repr of data -/
namespace Zn
open PySem PySem.Spec PyProof.Rows L2 TL
theorem u8 {k : Nat} {A : Around} (r : Room k A) : A.units + 8 < cLine := by have := r.un; omega
theorem u16 {k : Nat} {A : Around} (r : Room k A) : A.units + 16 < cLine := by have := r.un; omega
def rRepr (K : PySem.W.Frag) : List V → Hp → VK → Prop := fun vs H Q => ∃ (p : Addr) (d : PyData), vs = [.ref p] ∧ Dp K H (.ref p) d ∧ d.showable = true ∧ d.hasDict = false ∧ d.depth ≤ 60 ∧ d.shown.length ≤ sizeLine ∧ Q (.str d.shown) H
theorem cr_repr {X : Cx} (hu : X.A.units + 65 < cLine) (hg : X.A.guards = some []) : CallR X (.builtin "repr") (rRepr X.K) := by
  intro pins s σ H vs us Q I r h
  obtain ⟨p, d, rfl, hd, hs, hn, hp, hz, q⟩ := h
  rw [Vals.ref1 r]
  obtain ⟨as, rd⟩ := Dp.reads I d (.ref p) (.ref p) hd rfl
  exact repr_of_reads' rd hs (fun e => by rw [hn] at e; cases e) hg (by omega) (fun _ _ e => e) (fun h' u tk kp => ⟨.str d.shown, H, I.kept kp, ⟨u, rfl⟩, q⟩) hz
def ucRepr : G → (G → Prop) → Prop := fun g Φ => ∃ (gs : List G) (d : PyData), g = .tup gs ∧ pd g = some d ∧ d.showable = true ∧ d.hasDict = false ∧ d.depth ≤ 60 ∧ d.shown.length ≤ sizeLine ∧ Φ (.str d.shown)
section
variable {X : Cx} {K : PySem.W.Frag} {a : Expr} {ta : TE} {ua : UE} {pos : Pos}
theorem gc_repr (hu : X.A.units + 65 < cLine) (hg : X.A.guards = some []) : GC X (.builtin "repr") (rRepr X.K) ucRepr := ⟨cr_repr hu hg, fun W S H g v Φ Q hk r ⟨gs, d, eg, e, s1, s2, s3, s4, q⟩ k => by
  subst eg
  have r1 : Rg W S H (.tup gs) v := r.elim id fun ⟨_, _, _, _, z⟩ => z.elim
  have r2 := r1
  obtain ⟨p, vs, rfl, _⟩ := r2
  exact ⟨p, d, rfl, hk ▸ dp_g r1 e, s1, s2, s3, s4, k _ _ H q (.refl _) rfl⟩⟩
theorem k_repr {p : Pos} (hu : X.A.units + 65 < cLine) (hgd : X.A.guards = some []) (hg : Gl X "repr") (hm : X.mg "repr" = none) (ha : GB X a ta ua) (he : starEach [a] X.env = (false, eval a X.env) :: starEach [] X.env := by rfl) (hk : X.K = K := by rfl) : GE X (.Call (.Name "repr" p) [a] [] pos) (tCB (rRepr K) (tCons ta tNil)) (u1 ucRepr ua) := by
  subst hk
  exact ge_call1 (gc_repr hu hgd) hg hm (by decide +kernel) ha (by decide) (by decide) he
end
theorem v_repr {gs : List G} {d : PyData} {Q : G → Prop} (h1 : pd (.tup gs) = some d) (h2 : d.showable = true) (h3 : d.hasDict = false) (h4 : d.depth ≤ 60) (h5 : d.shown.length ≤ sizeLine) (q : Q (.str d.shown)) : ucRepr (.tup gs) Q := ⟨gs, d, rfl, h1, h2, h3, h4, h5, q⟩
end Zn
/-! x in t, t a tuple, data of any depth -/
namespace Zn
open PySem PySem.Spec PyProof.Rows L2 TL
def rInDT (h : Bool → Bool) (K : PySem.W.Frag) : R2 := fun x y H Q => ∃ d ds, Dp K H x d ∧ Dp K H y (.tuple ds) ∧ SeqAt.shaped d = true ∧ SeqAt.shaped (.list ds) = true ∧ Q (.bl (h (ds.any fun z => PyData.eqv z d))) H
def u2InDT (h : Bool → Bool) : G → G → (G → Prop) → Prop := fun x y Φ => ∃ (d : PyData) (gs : List G) (ds : List PyData), pd x = some d ∧ y = .tup gs ∧ pdL gs = some ds ∧ SeqAt.shaped d = true ∧ SeqAt.shaped (.list ds) = true ∧ Φ (.bl (h (ds.any fun z => PyData.eqv z d)))
section
variable {X : Cx} {K : PySem.W.Frag} {a b : Expr} {ta tb : TE} {ua ub : UE} {pos : Pos}
theorem op_inDT (hu : X.A.units + 65 < cLine) : OpR X (compareOp .In) (rInDT (fun b => b) X.K) := by
  intro pins s σ H x y v u Q I rx ry h
  obtain ⟨d, ds, hd, he, sd, se, q⟩ := h
  obtain ⟨as, r1⟩ := Dp.reads I d x v hd rx
  obtain ⟨bs, r2⟩ := Dp.reads I (.tuple ds) y u he ry
  exact SeqAt.in_tuple_reads r2 r1 (SeqAt.canLay_of_shaped se) (SeqAt.canLay_of_shaped sd) (room_in_shaped sd hu) ⟨.bl _, H, I, rfl, q⟩
theorem op_notInDT (hu : X.A.units + 65 < cLine) : OpR X (compareOp .NotIn) (rInDT (fun b => !b) X.K) := by
  intro pins s σ H x y v u Q I rx ry h
  obtain ⟨d, ds, hd, he, sd, se, q⟩ := h
  obtain ⟨as, r1⟩ := Dp.reads I d x v hd rx
  obtain ⟨bs, r2⟩ := Dp.reads I (.tuple ds) y u he ry
  exact SeqAt.notIn_tuple_reads r2 r1 (SeqAt.canLay_of_shaped se) (SeqAt.canLay_of_shaped sd) (room_in_shaped sd hu) ⟨.bl _, H, I, rfl, q⟩
theorem lr_inDT (h : Bool → Bool) : Lr2B X.K (rInDT h X.K) (u2InDT h) := fun W S H g1 g2 v1 v2 Φ Q hk _ r1 r2 ⟨d, gs, ds, e1, e2, e3, s1, s2, q⟩ k => by
  subst e2
  have r3 : Rg W S H (.tup gs) v2 := r2.elim id fun ⟨_, _, _, _, z⟩ => z.elim
  exact ⟨d, ds, hk ▸ dp_g r1 e1, hk ▸ dp_g r3 (by simp [pd, e3]), s1, s2, k _ _ H q (.refl _) rfl⟩
theorem k_inDT (hu : X.A.units + 65 < cLine) (ha : GE X a ta ua) (hb : GB X b tb ub) (hm : behindInMarks .In b = false := by rfl) (hk : X.K = K := by rfl) : GE X (.Compare a [.In] [b] pos) (tOp (rInDT (fun b => b) K) ta tb) (uOp (u2InDT (fun b => b)) ua ub) := by
  subst hk
  exact ge_cmpB ⟨op_inDT hu, lr_inDT _⟩ ha hb hm
theorem k_notInDT (hu : X.A.units + 65 < cLine) (ha : GE X a ta ua) (hb : GB X b tb ub) (hm : behindInMarks .NotIn b = false := by rfl) (hk : X.K = K := by rfl) : GE X (.Compare a [.NotIn] [b] pos) (tOp (rInDT (fun b => !b) K) ta tb) (uOp (u2InDT (fun b => !b)) ua ub) := by
  subst hk
  exact ge_cmpB ⟨op_notInDT hu, lr_inDT _⟩ ha hb hm
theorem kt_inDT (hu : X.A.units + 65 < cLine) (ha : GE X a ta ua) (hb : GB X b tb ub) (hm : behindInMarks .In b = false := by rfl) (hk : X.K = K := by rfl) : GT X (.Compare a [.In] [b] pos) (tTest (tOp (rInDT (fun b => b) K) ta tb)) (uTest (uOp (u2InDT (fun b => b)) ua ub)) := by
  subst hk
  exact gt_cmpB ⟨op_inDT hu, lr_inDT _⟩ ha hb hm
theorem kt_notInDT (hu : X.A.units + 65 < cLine) (ha : GE X a ta ua) (hb : GB X b tb ub) (hm : behindInMarks .NotIn b = false := by rfl) (hk : X.K = K := by rfl) : GT X (.Compare a [.NotIn] [b] pos) (tTest (tOp (rInDT (fun b => !b) K) ta tb)) (uTest (uOp (u2InDT (fun b => !b)) ua ub)) := by
  subst hk
  exact gt_cmpB ⟨op_notInDT hu, lr_inDT _⟩ ha hb hm
end
section
variable {α : Type} [DecidableEq α] {f : α → G} {P : α → Prop}
theorem v_inET (E : Enc α f P) {h : Bool → Bool} {l : List α} {a : α} {Q : G → Prop} (hp : ∀ a ∈ l, P a) (ha : P a) (q : Q (.bl (h (decide (a ∈ l))))) : u2InDT h (f a) (.tup (l.map f)) Q := by
  obtain ⟨d, e1, s1, t1⟩ := E.pd a ha
  obtain ⟨ds, e2, _⟩ := E.list l hp
  refine ⟨d, _, ds, e1, rfl, e2, s1, E.shaped l hp e2, ?_⟩
  rw [E.mem l hp a e2 e1]
  exact q
end
end Zn
/-! instances without attributes: made, their methods -/
namespace Zn
open PySem PySem.Spec PyProof.Rows L2 TL
/-- a class of the text that has no __init__ -/
structure Mk0 (K : PySem.W.Frag) (C : Addr) : Prop where
  makes : PySem.W.makesIn K C = true
  init : PySem.W.findIn K (.ref C) "__init__" = some (some (.builtin "object.__init__"))
  kp : PySem.W.keepIn K (.ref C) = true
def tNew (C : Addr) : TE := fun σ H Q => ∀ x dx, H x = none → H dx = none → dx ≠ x → Q (.ref x) (upd (upd H dx (.own x)) x (.ins C dx []))
section
variable {X : Cx} {C : Addr} {pos p : Pos}
theorem run_new0 {pins : List (Addr × Obj)} {σ : L2.St} {H : Hp} {s : Shared} {Q : VK} (M : Mk0 X.K C) (I : Inv X pins σ H s) (h : tNew C σ H Q) : wpAny (model X.prog X.w) X.A (call (.ref C) []) (EP X pins σ Q) X.xe s := by
  have q := h (s.heap.objs.size + 1) s.heap.objs.size (I.hok.fresh (Nat.le_succ _)) (I.hok.fresh (Nat.le_refl _)) (Nat.ne_of_lt (Nat.lt_succ_self _))
  have I2 := Inv.made (C := C) I
  have Y := PySem.W.makes_of (M := model X.prog X.w) I.kIn M.makes
  refine wpAny_call (make_map0 I.kIn M.makes M.init (fun self => PySem.W.Looks.of_pure (PySem.W.oi_bind self)) ?_)
  have e : ((s.heap.push PySem.W.emptyDict).push (PySem.W.instObj C s.heap.objs.size)).get? (s.heap.objs.size + 1) = some (PySem.W.instObj C s.heap.objs.size) := by
    have := Heap.get?_push_size (s.heap.push PySem.W.emptyDict) (o := PySem.W.instObj C s.heap.objs.size) rfl
    rwa [Heap.size_push] at this
  have t1 : PySem.W.Looks (model X.prog X.w) ((s.heap.push PySem.W.emptyDict).push (PySem.W.instObj C s.heap.objs.size)) (typeOf (.ref (s.heap.objs.size + 1))) (.ref C) := (PySem.W.Looks.ld e).andThen .now
  have t2 : PySem.W.Looks (model X.prog X.w) ((s.heap.push PySem.W.emptyDict).push (PySem.W.instObj C s.heap.objs.size)) (isInstance (.ref (s.heap.objs.size + 1)) (.type "object")) true := t1.andThen (Y.top.keeps fun b o e => Heap.get?_push_of_some _ (Heap.get?_push_of_some _ e))
  refine codeAny_call_builtin PySem.W.oi_plain PySem.W.entry_oi (@PySem.W.check_slot (model X.prog X.w) _ _ _ "object.__init__" "object" "__init__" (.ref (s.heap.objs.size + 1)) [] [] _ PySem.W.oi_kind PySem.W.oi_split t2 (PySem.W.oi_args (.ref (s.heap.objs.size + 1))) ?_)
  rw [PySem.W.oi_run]
  exact wpAny_pure ⟨rfl, .ref (s.heap.objs.size + 1), _, I2, rfl, q⟩
theorem pe_new0 {x : Str} (M : Mk0 X.K C) (hg : Gl X x) (hm : X.mg x = some (.ref C)) (hdb : (x == ("__debug__" : Str)) = false := by decide) : PE X (.Call (.Name x p) [] [] pos) (tNew C) := by
  refine ⟨fun pins s σ H Q I h => ?_⟩
  refine wpAny_Call_Name_kw (ld_glob I hg hm ?_ hdb)
  exact PySem.W.callWith_K0 I.kIn M.kp (run_new0 M I h)
def uNew (C : Addr) : UE := fun ρ Φ => Φ ρ (.obj C)
theorem k_new (K : PySem.W.Frag) {x : Str} (M : Mk0 K C) (hg : Gl X x) (hm : X.mg x = some (.ref C)) (hdb : (x == ("__debug__" : Str)) = false := by decide) (hk : X.K = K := by rfl) : GE X (.Call (.Name x p) [] [] pos) (tNew C) (uNew C) := by
  subst hk
  exact ⟨pe_new0 M hg hm hdb, fun F h ρ Φ σ H S Q q R j a dx ha hd hn => by
    have s1 : Same H (upd H dx (.own a)) := same_new hd
    have s2 : Same (upd H dx (.own a)) (upd (upd H dx (.own a)) a (.ins C dx [])) := same_new (by rw [upd_ne (fun z => hn z.symm)]; exact ha)
    obtain ⟨R1, n1⟩ := R.same (fun b o e => s2 b o (s1 b o e))
    exact j ρ _ _ _ S q n1 R1 ⟨a, dx, rfl, fun z => R.dom _ z ha, upd_same⟩⟩
theorem v_new {ρ : RS} {Φ : RS → G → Prop} (q : Φ ρ (.obj C)) : uNew C ρ Φ := q
end
/-- a method of the text -/
def CalM (P : Program) (w : World) (K : PySem.W.Frag) (mg : Str → Option Value) (base : Heap) (C : Addr) (m : Str) (k : Nat) (sp : Sp) : Prop :=
  Cls K C ∧ ∃ f fd ps, Meth K C m f ∧ FnOk P w K mg base CX0 k f fd ps sp ∧ Binds K fd ps []
section
variable {X : Cx} {C : Addr} {pos apos : Pos} {o e : Expr} {es : List Expr} {m : Str} {to : TE} {uo : UE} {ta : TA} {ua : UA}
def uMeth (C : Addr) (uf : List G → (G → Prop) → Prop) (uo : UE) (ua : UA) : UE := fun ρ Φ => uo ρ fun ρ1 g => g = .obj C ∧ ua ρ1 fun ρ2 gs => uf (.obj C :: gs) fun g' => Φ ρ2 g'
theorem k_meth (K : PySem.W.Frag) {pl : Sem Bool} {k : Nat} {uf} (ho : GE X o to uo) (CM : CalM X.prog X.w X.K X.mg X.base C m k (spG K uf)) (hr : Room k X.A) (ha : GA X (e :: es) ta ua)
    (hst : starEach (e :: es) X.env = (false, eval e X.env) :: starEach es X.env := by rfl) (hpl : (backTo pos (starEach es X.env)).any (·.1) = false := by rfl)
    (ht : eval (.Call (.Attribute o m apos) (e :: es) [] pos) X.env = (do
      let ov ← eval o X.env
      standAt apos.atName
      let (f, first) ← holding [ov] (getMethod ov m pl)
      callWith pos f first (backTo pos (starEach (e :: es) X.env)) (backToKw pos (keywordEach [] X.env))) := by rfl) (hk : X.K = K := by rfl) :
    GE X (.Call (.Attribute o m apos) (e :: es) [] pos) (tMeth C m (spG K uf) [] E0 to ta) (uMeth C uf uo ua) := by
  subst hk
  obtain ⟨c, f, fd, ps, hm, F, hb⟩ := CM
  refine ⟨pe_meth ho.pe c hm F hr hb .nil pass0 ha.pe hst hpl ht, fun Fr' h ρ Φ σ H S Q q R j => ho.le Fr' h ρ _ σ H S _ q R fun ρ1 g v H1 S1 ⟨eg, q1⟩ n1 R1 r1 => ?_⟩
  subst eg
  have r1' := r1
  obtain ⟨a, dx, rfl, _, ha'⟩ := r1'
  refine ⟨a, dx, [], rfl, ha', rfl, ha.le Fr' h ρ1 _ σ H1 S1 _ q1 R1 fun ρ2 gs vs H2 S2 q2 n2 R2 r2 => ?_⟩
  refine ⟨Fr'.toWd, S2, .obj C :: gs, _, h, q2, R2.okw, ⟨_, _, rfl, r1.nx n2, by rw [List.append_nil]; exact r2⟩, fun g' v' H' q3 af r3 => ?_⟩
  obtain ⟨R3, n3⟩ := R2.step af.x af.dr
  exact j ρ2 g' v' H' S2 q3 ((n1.trans n2).trans n3) R3 r3
theorem v_meth {uf} {ρ : RS} {Φ : RS → G → Prop} (q : uo ρ fun ρ1 g => g = .obj C ∧ ua ρ1 fun ρ2 gs => uf (.obj C :: gs) fun g' => Φ ρ2 g') : uMeth C uf uo ua ρ Φ := q
end
/-- a def or a method: its body -/
theorem g_okQ {P : Program} {w : World} {K : PySem.W.Frag} {mg : Str → Option Value} {base : Heap} {x qual : Str} {st : Stmt} {f : Addr} {fd : FuncData} {N ps : List Str} {k : Nat} {uf : List G → (G → Prop) → Prop} (F : Fun K x qual st f fd) (sc : FnScope N ps (defScope st)) (hl : ∀ gs Φ, uf gs Φ → gs.length = ps.length)
    (body : ∀ (cdv : Value) (A : Around) (outer : List Env) (s : Shared) (H : Hp) (E : XK), Room k (A.deeper (envOfC qual (defScope st) s.heap.objs.size f cdv)) →
      ∃ t u, GSs (cxOf CX0 P w K mg base N qual (defScope st) f cdv A outer s H E).nox (defBody st) t u ∧ ∀ gs Φ, uf gs Φ → u (ends0 Φ) (startR N gs)) : FnOk P w K mg base CX0 (k + 1) f fd ps (spG K uf) := by
  refine F.ok sc (fun vs H Q E ⟨W, S, gs, Φ, _, h1, _, h2, _⟩ => by rw [h2.len]; exact hl gs Φ h1) (fun cdv A outer s H vs Q E hr h => ?_)
  obtain ⟨W, S, gs, Φ, hk, h1, h2, h3, h4⟩ := h
  obtain ⟨t, u, g, q⟩ := body cdv A outer s H E hr
  refine ⟨t, g.pe, ?_⟩
  have fin : ∀ {ρ' σ' H' S'} {g : G} {v : V}, Φ g → Rel { toWd := W, ps := [], H0 := H, S0 := S, pn := [] } S' ρ' σ' H' → Rg W S' H' g v → Q v H' := fun {ρ' σ' H' S' g v} q' R' r' => by
    refine h4 g v H' q' ⟨fun b o z e => R'.kx b o z (by simp) e, fun k => (R'.dr k).2⟩ (r'.nx (Nxt.less R'.s0))
  refine g.le { toWd := W, ps := [], H0 := H, S0 := S, pn := [] } hk _ _ _ H S _ (q gs Φ h1) (rel_start h2 h3) ⟨?_, ?_, ?_, ?_⟩
  · exact fun ρ' σ' H' S' q' n' R' => fin (g := .non) q' R' rfl
  · exact fun ρ' σ' H' S' g v q' n' R' r' => fin q' R' r'
  · exact fun _ _ _ _ q' _ _ => q'.elim
  · exact fun _ _ _ _ q' _ _ => q'.elim
/-- from a method of the text to its calls -/
theorem calM_of {P : Program} {w : World} {K : PySem.W.Frag} {mg : Str → Option Value} {base : Heap} {C : Addr} {m qual : Str} {st : Stmt} {f : Addr} {fd : FuncData} {ps : List Str} {k : Nat} {sp : Sp} (c : Cls K C) (hm : Meth K C m f) (F : Fun K m qual st f fd)
    (hb : ∀ (kV doc pm : Value) (an : Option Addr) (cdv ct : Value) (us : List Value), us.length = ps.length → bindArgs (PySem.W.fnOf m qual (defArgs st) (defBody st) (defScope st) .none kV doc pm an cdv ct) ⟨us, []⟩ = pure (ps.zip us)) (G : FnOk P w K mg base CX0 k f fd ps sp) : CalM P w K mg base C m k sp :=
  ⟨c, f, fd, ps, hm, G, F.binds hb⟩
end Zn
/-! {k: v for x in xs} with keys that are ints or texts, told of values; calls with a star -/
namespace Zn
open PySem PySem.Spec PyProof.Rows L2 TL
def uDk (ui : UA) (ug : UG) (utt : UT) (uk uv : UE) (vs : List Nat) : UE := fun ρ Φ => ui ρ fun ρ1 gs => gs.length ≤ 100000 ∧ ∃ Iv : Nat → Kv → RS → Prop, Iv 0 [] (wipeG ρ1 vs) ∧
  (∀ i g acc ρ2, gs[i]? = some g → acc.length ≤ i → Iv i acc ρ2 → ug g (wipeG ρ2 vs) fun ρ3 => utt ρ3 fun ρ4 b => if b = true then uk ρ4 fun ρ5 y => uv ρ5 fun ρ6 z => ∃ k : L2.Key, y = keyG k ∧ Iv (i + 1) (putD acc k z) (wipeG ρ6 vs) else Iv (i + 1) acc (wipeG ρ4 vs)) ∧
  ∀ acc ρ2, acc.length ≤ gs.length → Iv gs.length acc ρ2 → Φ (mergeG ρ1 vs ρ2) (dG acc)
section
variable {X : Cx} {pos : Pos} {wi : TI} {ui : UA} {is : List Nat} {g : TG} {ug : UG} {tt : TT} {utt : UT} {tk tv : TE} {uk uv : UE} {vs : List Nat}
theorem le_dk {K : PySem.W.Frag} (hv : ∀ i ∈ is, i ∈ vs) (h1 : ∀ F : Fr, F.K = K → LI F wi ui) (h2 : ∀ F : Fr, F.K = K → LG F is g ug) (h3 : ∀ F : Fr, F.K = K → LT F tt utt) (h4 : ∀ F : Fr, F.K = K → LE F tk uk) (h5 : ∀ F : Fr, F.K = K → LE F tv uv)
    (F : Fr) (k : F.K = K) : LN F (tDc wi g tt tk tv vs) (uDk ui ug utt uk uv vs) := fun ρ Φ σ H S Q q R j => by
  refine h1 F k ρ _ σ H S _ q R fun ρ1 gs J H1 S1 ⟨hz, Iv, i0, is_, ie⟩ n1 R1 it D hD => ?_
  obtain ⟨R2, n2⟩ := R1.grow (o := .dK []) hD
  have fr := R1.new hD
  have R2 := (R2.addPin upd_same (.inr rfl) fr).wipe vs
  have nq : ∀ q ∈ F.pn, q.1 ≠ D := fr.2.2
  refine ⟨fun i m H' => m = gs.length - i ∧ i ≤ gs.length ∧ ∃ acc xs ρ2 S2, acc.length ≤ i ∧ Iv i acc ρ2 ∧ Nxt S1 H1 S2 H' ∧ Rel (F.pnw (D, HO.dK xs)) S2 ρ2 σ H' ∧ DR F.toWd S2 H' acc xs,
    ⟨_, rfl, Nat.zero_le _, [], [], _, _, Nat.le_refl _, i0, n2, R2, rfl⟩, ?_⟩
  rintro i m H2 ⟨rfl, hi, acc, xs, ρ2, S2, hl, iv, n3, R3, r3⟩
  by_cases hlt : i < gs.length
  · refine .inr ⟨it.go i H2 S2 hlt n3, fun H' => ∃ acc xs ρ2 S2, acc.length ≤ i + 1 ∧ Iv (i + 1) acc ρ2 ∧ Nxt S1 H1 S2 H' ∧ Rel (F.pnw (D, HO.dK xs)) S2 ρ2 σ H' ∧ DR F.toWd S2 H' acc xs, fun H' h => ⟨_, by omega, rfl, hlt, h⟩, fun x H3 y => ?_⟩
    obtain ⟨s3, g', eg, rg'⟩ := it.yld i H2 S2 x H3 hlt n3 y
    obtain ⟨R4, n4⟩ := R3.same s3
    have R4 := R4.toWipe vs
    refine h2 (F.pnw (D, HO.dK xs)) k g' x _ _ _ H3 S2 _ (is_ i g' acc ρ2 eg hl iv) R4 rg' fun ρ5 σ5 H5 S5 q5 n5 R5 e5 => ?_
    have l5 : σ5.length = σ.length := by
      rw [e5.1, wipe_length]
    have o5 : ∀ i, i ∉ vs → σ5[i]? = σ[i]? := fun i hi => (e5.2 i fun z => hi (hv i z)).trans (wipe_out hi)
    refine ⟨wipe_eq l5 o5, ?_⟩
    have n05 : Nxt S1 H1 S5 H5 := (n3.trans n4).trans n5
    refine h3 (F.pnw (D, HO.dK xs)) k ρ5 _ σ5 H5 S5 _ q5 R5 fun ρ6 b H6 S6 q6 n6 R6 => ?_
    cases b with
    | false =>
      exact ⟨acc, xs, _, S6, by omega, q6, n05.trans n6, R6.ofWipe l5 o5, ((r3.nx n4).nx n5).nx n6⟩
    | true =>
      refine h4 (F.pnw (D, HO.dK xs)) k ρ6 _ σ5 H6 S6 _ q6 R6 fun ρ7 y v H7 S7 q7 n7 R7 r7 => ?_
      refine h5 (F.pnw (D, HO.dK xs)) k ρ7 _ σ5 H7 S7 _ q7 R7 fun ρ8 z u H8 S8 ⟨ky, ey, q8⟩ n8 R8 r8 => ?_
      subst ey
      cases keyG_v r7
      have p8 := (R8.pin (D, HO.dK xs) List.mem_cons_self).1
      have r3' := (((((r3.nx n4).nx n5).nx n6).nx n7).nx n8)
      refine ⟨xs, ky, rfl, p8, lt_line (by rw [r3.len]; omega), ?_⟩
      obtain ⟨R9, n9⟩ := R8.repin (o' := .dK (putK xs ky u)) (fun _ z => by cases z) nq
      exact ⟨putD acc ky z, putK xs ky u, _, S8, by have := putD_len acc ky z; omega, q8, (((n05.trans n6).trans n7).trans n8).trans n9, R9.ofWipe l5 o5, (r3'.put r8).nx n9⟩
  · have e : i = gs.length := by omega
    subst e
    refine .inl ⟨it.stop H2 S2 n3, ?_⟩
    obtain ⟨p1, p2, p3, p4, p5⟩ := R3.pin (D, HO.dK xs) List.mem_cons_self
    have R4 := R3.unpin
    exact j _ (dG acc) D _ H2 S2 (ie acc ρ2 hl iv) (n1.trans n3) (R1.merge n3 R4 vs) p2 p1 (dG_or r3) ⟨p5, fun i f g hi => p4 i f g (mergeG_own hi), nq⟩
theorem gn_dk {kx vx tg iter : Expr} {ifs : List Expr} {scope : Scope} {own : List (PySem.Str × Nat)} (hc : X.calm = true) (hN : X.N.Nodup) (hi : GI X tg iter wi ui) (ok : BlkOk X.N X.env.scope scope own)
    (hg : ∀ (s : Shared) (H : Hp) (C : Addr) (cl : List (PySem.Str × Addr)) (fp : List Addr), GG (X.blk s H scope (compEnvC scope cl C X.env) fp) is tg g ug) (ht : ∀ (s : Shared) (H : Hp) (C : Addr) (cl : List (PySem.Str × Addr)) (fp : List Addr), GTs (X.blk s H scope (compEnvC scope cl C X.env) fp) ifs tt utt)
    (hk : ∀ (s : Shared) (H : Hp) (C : Addr) (cl : List (PySem.Str × Addr)) (fp : List Addr), GE (X.blk s H scope (compEnvC scope cl C X.env) fp) kx tk uk)
    (he : ∀ (s : Shared) (H : Hp) (C : Addr) (cl : List (PySem.Str × Addr)) (fp : List Addr), GE (X.blk s H scope (compEnvC scope cl C X.env) fp) vx tv uv) (hv : ∀ i ∈ is, i ∈ own.map (·.2)) (hs : ∀ x, foldedSetIterable iter X.env x = pure x := by intro _; rfl) :
    GN X (.DictComp kx vx [⟨tg, iter, ifs, 0⟩] scope pos) (tDc wi g tt tk tv (own.map (·.2))) (uDk ui ug utt uk uv (own.map (·.2))) := by
  exact ⟨pe_dc hc hN hi.pe ok (fun s H C cl fp => (hg s H C cl fp).pe) (fun s H C cl fp => (ht s H C cl fp).pe) (fun s H C cl fp => (hk s H C cl fp).pe) (fun s H C cl fp => (he s H C cl fp).pe) hs,
    le_dk (K := X.K) hv (fun F h => hi.le F h) (fun F h => (hg X.s_0 X.H_0 0 [] []).le F h) (fun F h => (ht X.s_0 X.H_0 0 [] []).le F h) (fun F h => (hk X.s_0 X.H_0 0 [] []).le F h) (fun F h => (he X.s_0 X.H_0 0 [] []).le F h)⟩
theorem v_dck {ρ : RS} {Φ : RS → G → Prop} (q : ui ρ fun ρ1 gs => gs.length ≤ 100000 ∧ ∃ Iv : Nat → Kv → RS → Prop, Iv 0 [] (wipeG ρ1 vs) ∧
  (∀ i g acc ρ2, gs[i]? = some g → acc.length ≤ i → Iv i acc ρ2 → ug g (wipeG ρ2 vs) fun ρ3 => utt ρ3 fun ρ4 b => if b = true then uk ρ4 fun ρ5 y => uv ρ5 fun ρ6 z => ∃ k : L2.Key, y = keyG k ∧ Iv (i + 1) (putD acc k z) (wipeG ρ6 vs) else Iv (i + 1) acc (wipeG ρ4 vs)) ∧
  ∀ acc ρ2, acc.length ≤ gs.length → Iv gs.length acc ρ2 → Φ (mergeG ρ1 vs ρ2) (dG acc)) : uDk ui ug utt uk uv vs ρ Φ := q
end
section
variable {X : Cx} {e : Expr} {es : List Expr} {t : TA} {ua : UA} {p pos : Pos}
/-- f(.., *xs) -/
theorem k_calS (K : PySem.W.Frag) {x : Str} {k : Nat} {uf} (C : Cal X.prog X.w X.K X.mg X.base x k (spG K uf)) (hr : Room k X.A) (hg : Gl X x) (ha : GA X (e :: es) t ua)
    (hdb : (x == ("__debug__" : Str)) = false := by decide) (he : starEach (e :: es) X.env = (false, eval e X.env) :: starEach es X.env := by rfl)
    (hst : (backTo pos (starEach es X.env)).any (·.1) = true := by rfl) (hk : X.K = K := by rfl) : GE X (.Call (.Name x p) (e :: es) [] pos) (tCal (spG K uf) t) (uCal uf ua) := by
  subst hk
  exact ⟨pe_calS C hr hg ha.pe hdb he hst, fun F h => h ▸ le_cal (ha.le F h)⟩
end
end Zn
/-! x.split(y); a new thing returned at once -/
namespace Zn
open PySem PySem.Spec PyProof.Rows L2 TL
section
variable {X : Cx} {o e : Expr} {to te t : TE} {uo ue u : UE} {pos apos : Pos}
def uRetNE (u : UE) : (G → Prop) → RS → Prop := fun Ψ ρ => u ρ fun _ g => Ψ g
theorem gsn_retE (he : GN X e t u) : GSn X [.Return (some e) pos] (tRet t) (uRetNE u) :=
  ⟨pss_one (ps_ret he.pe), fun F k ρ Ψ σ H S E q R m => he.le F k ρ _ σ H S _ q R fun ρ' g p o H' S' q' n' R' s' h' r' f' => m ρ' σ H' S' g p o q' n' R' s' f'.1 h' r'⟩
theorem v_retNE {Ψ : G → Prop} {ρ : RS} (q : u ρ fun _ g => Ψ g) : uRetNE u Ψ ρ := q
def uSplit (uo ue : UE) : UE := fun ρ Φ => uo ρ fun ρ1 g => ∃ a : Str, g = .str a ∧ ue ρ1 fun ρ2 h => ∃ b : Str, h = .str b ∧ (b.length == 0) = false ∧ a.length + 2 ≤ sizeLine ∧ Φ ρ2 (.lst ((Txt.split a b).map G.str))
theorem strs_L {W : Wd} {S : AS} {H : Hp} : ∀ ys : List Str, RgL W S H (ys.map G.str) (ys.map V.str)
  | [] => rfl
  | y :: ys => ⟨_, _, rfl, rfl, strs_L ys⟩
theorem gn_split (ho : GE X o to uo) (he : GE X e te ue) (hs : starEach [e] X.env = [(false, eval e X.env)] := by rfl)
    (hbase : attributeBase o "split" X.env (eval o X.env) = eval o X.env := by rfl) (hline : (apos.endLine == pos.line) = true := by rfl) : GN X (.Call (.Attribute o "split" apos) [e] [] pos) (tM1 rSplitAny to te) (uSplit uo ue) :=
  ⟨pe_splitAny ho.pe he.pe hs hbase hline, fun F k ρ Φ σ H S Q q R j => ho.le F k ρ _ σ H S _ q R fun ρ1 g v H1 S1 ⟨a, e1, q1⟩ n1 R1 r1 => by
    subst e1
    cases (show v = .str a from r1)
    refine ⟨⟨a, rfl⟩, he.le F k ρ1 _ σ H1 S1 _ q1 R1 fun ρ2 h v2 H2 S2 ⟨b, e2, hb, hz, q2⟩ n2 R2 r2 => ?_⟩
    subst e2
    cases (show v2 = .str b from r2)
    refine .inl ⟨a, b, rfl, rfl, hb, hz, fun p hp => ?_⟩
    obtain ⟨n, R3, r3, fr⟩ := new_lst (g := .lst ((Txt.split a b).map G.str)) R2 hp ⟨_, rfl, strs_L _⟩
    exact j ρ2 _ p _ _ _ q2 ((n1.trans n2).trans n) R3 (.inr rfl) upd_same r3 fr⟩
theorem v_split {ρ : RS} {Φ : RS → G → Prop} (q : uo ρ fun ρ1 g => ∃ a : Str, g = .str a ∧ ue ρ1 fun ρ2 h => ∃ b : Str, h = .str b ∧ (b.length == 0) = false ∧ a.length + 2 ≤ sizeLine ∧ Φ ρ2 (.lst ((Txt.split a b).map G.str))) : uSplit uo ue ρ Φ := q
end
end Zn
/-! y = {k: v for ..}: the name is set within the comprehension's own end -/
namespace Zn
open PySem PySem.Spec PyProof.Rows L2 TL
section
variable {X : Cx} {i : Nat} {y : PySem.Str} {py : Pos} {kx vx tg iter : Expr} {ifs : List Expr} {scope : Scope} {own : List (PySem.Str × Nat)} {pos spos : Pos} {wi : TI} {g : TG} {tt : TT} {tk tv : TE}
theorem swd_true {gs : List Comprehension} {l : Nat} {env : Env} (hk : env.scope.kind = .function) (hy : env.scope.names.lookup y = some .local) (hl : (py.line == pos.line) = true)
    (ha : (scope.names.any fun (n, k) => n == y && (k == .local || k == .cell)) = false) : swapsWith (.DictComp kx vx gs scope pos) (some (.Name y py)) l env = pure true := by
  have ky : env.kindOf y = some .local := hy
  have hb : env.blockKind = .function := by unfold Env.blockKind; rw [hk]; rfl
  unfold swapsWith
  simp only [hb, ky, ha, Expr.pos, hl]
  rfl
theorem ps_setDk (hc : X.calm = true) (hN : X.N.Nodup) (hy : X.N[i]? = some y) (hyl : X.env.scope.names.lookup y = some .local)
    (hsw : swapsWith (.DictComp kx vx [⟨tg, iter, ifs, 0⟩] scope pos) (some (.Name y py)) spos.line X.env = pure true) (hi : PI X tg iter wi) (ok : BlkOk X.N X.env.scope scope own)
    (hg : ∀ (s : Shared) (H : Hp) (C : Addr) (cl : List (PySem.Str × Addr)) (fp : List Addr), PG (X.blk s H scope (compEnvC scope cl C X.env) fp) tg g) (ht : ∀ (s : Shared) (H : Hp) (C : Addr) (cl : List (PySem.Str × Addr)) (fp : List Addr), PTs (X.blk s H scope (compEnvC scope cl C X.env) fp) ifs tt)
    (hk : ∀ (s : Shared) (H : Hp) (C : Addr) (cl : List (PySem.Str × Addr)) (fp : List Addr), PE (X.blk s H scope (compEnvC scope cl C X.env) fp) kx tk)
    (he : ∀ (s : Shared) (H : Hp) (C : Addr) (cl : List (PySem.Str × Addr)) (fp : List Addr), PE (X.blk s H scope (compEnvC scope cl C X.env) fp) vx tv) (hs : ∀ x, foldedSetIterable iter X.env x = pure x := by intro _; rfl) :
    PS X (.Assign [.Name y py] (.DictComp kx vx [⟨tg, iter, ifs, 0⟩] scope pos) spos) (tAsg (tDc wi g tt tk tv (own.map (·.2))) (gName i)) := by
  refine ⟨fun pins s σ H D I h => ?_⟩
  rw [exec_Assign_Name_used _ _ _ _ hsw]
  refine wpAny_bind (wpAny_standAt (wpAny_bind ?_))
  show wpAny _ X.A (do let _ ← comprehension (.DictComp kx vx [⟨tg, iter, ifs, 0⟩] scope pos) scope X.env (firstIterPos [⟨tg, iter, ifs, 0⟩] pos) newDict false (eval iter X.env) (some (assign (.Name y py) X.env))) _ _ s
  have h2 : tDc wi g tt tk tv (own.map (·.2)) σ H (fun x H1 => gName i x σ H1 D.nx) := h
  refine wpAny_bind (thn (dc_core (Qf := fun _ s' => SP X pins D .next s') hc hN I hi ok hg ht hk he hs h2 fun L C s' m H' I' q hn ⟨f0, f1, _, f3, f4, _⟩ => ?_) fun _ s' hq => wpAny_pure (wpAny_pure hq))
  show wpAny _ _ (assign (.Name y py) X.env (.ref L)) _ _ _
  refine wpAny_assign_Name (store_ok2 (v := V.ref L) I' hN hy (.inl hyl) rfl (fun s2 I2 ⟨a, sb, ha⟩ => ?_) (.inr hyl))
  have haC : C ≠ a := ha.elim (fun z => by rw [z]; exact f1) fun z e => f4 y a z e.symm
  exact ⟨m, hn.sameBut sb haC, fun h3 sb3 => ⟨_, H', I2.turned (t' := s2.toks) (fun b o hb e => (sb3.2 b hb).trans e) f0 f1 f3 f4 (by assumption), q⟩⟩
variable {ui : UA} {is : List Nat} {ug : UG} {utt : UT} {uk uv : UE}
theorem gs_setDk (hc : X.calm = true) (hN : X.N.Nodup) (hy : X.N[i]? = some y) (hyl : X.env.scope.names.lookup y = some .local)
    (hsw : swapsWith (.DictComp kx vx [⟨tg, iter, ifs, 0⟩] scope pos) (some (.Name y py)) spos.line X.env = pure true) (hi : GI X tg iter wi ui) (ok : BlkOk X.N X.env.scope scope own)
    (hg : ∀ (s : Shared) (H : Hp) (C : Addr) (cl : List (PySem.Str × Addr)) (fp : List Addr), GG (X.blk s H scope (compEnvC scope cl C X.env) fp) is tg g ug) (ht : ∀ (s : Shared) (H : Hp) (C : Addr) (cl : List (PySem.Str × Addr)) (fp : List Addr), GTs (X.blk s H scope (compEnvC scope cl C X.env) fp) ifs tt utt)
    (hk : ∀ (s : Shared) (H : Hp) (C : Addr) (cl : List (PySem.Str × Addr)) (fp : List Addr), GE (X.blk s H scope (compEnvC scope cl C X.env) fp) kx tk uk)
    (he : ∀ (s : Shared) (H : Hp) (C : Addr) (cl : List (PySem.Str × Addr)) (fp : List Addr), GE (X.blk s H scope (compEnvC scope cl C X.env) fp) vx tv uv) (hv : ∀ i ∈ is, i ∈ own.map (·.2)) (hs : ∀ x, foldedSetIterable iter X.env x = pure x := by intro _; rfl) :
    GS X (.Assign [.Name y py] (.DictComp kx vx [⟨tg, iter, ifs, 0⟩] scope pos) spos) (tAsg (tDc wi g tt tk tv (own.map (·.2))) (gName i)) (uSet i (uDk ui ug utt uk uv (own.map (·.2)))) :=
  ⟨ps_setDk hc hN hy hyl hsw hi.pe ok (fun s H C cl fp => (hg s H C cl fp).pe) (fun s H C cl fp => (ht s H C cl fp).pe) (fun s H C cl fp => (hk s H C cl fp).pe) (fun s H C cl fp => (he s H C cl fp).pe) hs,
    fun F k => le_set (LN.le (le_dk (K := X.K) hv (fun F h => hi.le F h) (fun F h => (hg X.s_0 X.H_0 0 [] []).le F h) (fun F h => (ht X.s_0 X.H_0 0 [] []).le F h) (fun F h => (hk X.s_0 X.H_0 0 [] []).le F h) (fun F h => (he X.s_0 X.H_0 0 [] []).le F h) F k))⟩
end
end Zn
/-! texts put together; short words for `in` of two and three texts -/
namespace Zn
open PySem PySem.Spec PyProof.Rows L2 TL
def u2AddS : G → G → (G → Prop) → Prop := fun x y Φ => ∃ i j : PySem.Str, x = .str i ∧ y = .str j ∧ i.length + j.length ≤ sizeLine ∧ Φ (.str (i ++ j))
theorem go_add_str {X : Cx} : GOp X (binaryOp .Add) (fun x y H Q => ∃ i j, x = .str i ∧ y = .str j ∧ i.length + j.length ≤ sizeLine ∧ Q (.str (i ++ j)) H) u2AddS := ⟨op_add_str, fun W S H g1 g2 v1 v2 Φ Q _ _ r1 r2 ⟨i, j, e1, e2, hz, q⟩ k => by
  subst e1
  subst e2
  cases (show v1 = .str i from r1)
  cases (show v2 = .str j from r2)
  exact ⟨i, j, rfl, rfl, hz, k _ _ H q (.refl _) rfl⟩⟩
theorem v_addS {i j : PySem.Str} {Q : G → Prop} (h : i.length + j.length ≤ sizeLine) (q : Q (.str (i ++ j))) : u2AddS (.str i) (.str j) Q := ⟨i, j, rfl, rfl, h, q⟩
theorem v_iS2 {n a b : PySem.Str} {Q : G → Prop} (q : Q (.bl (decide (n ∈ [a, b])))) : u2InS false (.str n) (.tup [.str a, .str b]) Q := v_inS (ns := [a, b]) rfl q
theorem v_iS3 {n a b c : PySem.Str} {Q : G → Prop} (q : Q (.bl (decide (n ∈ [a, b, c])))) : u2InS false (.str n) (.tup [.str a, .str b, .str c]) Q := v_inS (ns := [a, b, c]) rfl q
end Zn
/-! a call without arguments whose value is the caller's own -/
namespace Zn
open PySem PySem.Spec PyProof.Rows L2 TL
section
variable {X : Cx} {p pos : Pos}
theorem k_calN0 (K : PySem.W.Frag) {x : PySem.Str} {k : Nat} {uf} (C : Cal X.prog X.w X.K X.mg X.base x k (spN K uf)) (hr : Room k X.A) (hg : Gl X x)
    (hdb : (x == ("__debug__" : PySem.Str)) = false := by decide) (hk : X.K = K := by rfl) : GN X (.Call (.Name x p) [] [] pos) (tCal (spN K uf) tNil) (uCal uf uNil) := by
  subst hk
  exact ⟨pe_cal0 C hr hg hdb, fun F h => h ▸ le_calN ((ga_nil (X := X)).le F h)⟩
end
end Zn
/-! an item of a text; methods that only look at what they are passed -/
namespace Zn
open PySem PySem.Spec PyProof.Rows L2 TL
section
variable {X : Cx} {C : Addr} {pos apos : Pos} {a b o e : Expr} {es : List Expr} {m : Str} {to ta tb : TE} {uo ua ub : UE} {tr : TA} {ur : UA}
abbrev rIxS : R2 := fun x y H Q => ∃ z i c, x = .str z ∧ y = .int i ∧ 0 ≤ i ∧ i < 2 ^ 63 ∧ i < z.length ∧ z.cps[i.toNat]? = some c ∧ Q (.str ⟨#[c]⟩) H
def u2IxS : G → G → (G → Prop) → Prop := fun x y Φ => ∃ (z : Str) (i : Int) (c : Nat), x = .str z ∧ y = .int i ∧ 0 ≤ i ∧ i < 2 ^ 63 ∧ i < z.length ∧ z.cps[i.toNat]? = some c ∧ Φ (.str ⟨#[c]⟩)
theorem k_ixS (ha : GE X a ta ua) (hb : GE X b tb ub) (hs : PlainIxT b := by exact (fun _ _ => rfl)) : GE X (.Subscript a b pos) (tOp rIxS ta tb) (uOp u2IxS ua ub) :=
  ⟨pe_item_str ha.pe hb.pe hs, fun F h => le_op (F := F) (r := rIxS) (ur := u2IxS) (fun W S H g1 g2 v1 v2 Φ Q hk _ r1 r2 ⟨z, i, c, e1, e2, h0, h1, h2, hc, q⟩ k => by
    subst e1
    subst e2
    cases (show v1 = .str z from r1)
    cases (show v2 = .int i from r2)
    exact ⟨z, i, c, rfl, rfl, h0, h1, h2, hc, k _ _ H q (.refl _) rfl⟩) (ha.le F h) (hb.le F h)⟩
theorem v_ixS {z : Str} {i : Int} {c : Nat} {Q : G → Prop} (h0 : 0 ≤ i) (h1 : i < 2 ^ 63) (h2 : i < z.length) (hc : z.cps[i.toNat]? = some c) (q : Q (.str ⟨#[c]⟩)) : u2IxS (.str z) (.int i) Q := ⟨z, i, c, rfl, rfl, h0, h1, h2, hc, q⟩
def uMethB (C : Addr) (uf : List G → (G → Prop) → Prop) (uo : UE) (ur : UA) : UE := fun ρ Φ => uo ρ fun ρ1 g => g = .obj C ∧ ur ρ1 fun ρ2 gs => uf (.obj C :: gs) fun g' => Flat g' ∧ Φ ρ2 g'
theorem k_methB (K : PySem.W.Frag) {pl : Sem Bool} {k : Nat} {uf} (ho : GE X o to uo) (CM : CalM X.prog X.w X.K X.mg X.base C m k (spG K uf)) (hr : Room k X.A) (ha : GAB X (e :: es) tr ur)
    (hst : starEach (e :: es) X.env = (false, eval e X.env) :: starEach es X.env := by rfl) (hpl : (backTo pos (starEach es X.env)).any (·.1) = false := by rfl)
    (ht : eval (.Call (.Attribute o m apos) (e :: es) [] pos) X.env = (do
      let ov ← eval o X.env
      standAt apos.atName
      let (f, first) ← holding [ov] (getMethod ov m pl)
      callWith pos f first (backTo pos (starEach (e :: es) X.env)) (backToKw pos (keywordEach [] X.env))) := by rfl) (hk : X.K = K := by rfl) :
    GE X (.Call (.Attribute o m apos) (e :: es) [] pos) (tMeth C m (spG K uf) [] E0 to tr) (uMethB C uf uo ur) := by
  subst hk
  obtain ⟨c, f, fd, ps, hm, F, hb⟩ := CM
  refine ⟨pe_meth ho.pe c hm F hr hb .nil pass0 ha.pe hst hpl ht, fun Fr' h ρ Φ σ H S Q q R j => ho.le Fr' h ρ _ σ H S _ q R fun ρ1 g v H1 S1 ⟨eg, q1⟩ n1 R1 r1 => ?_⟩
  subst eg
  have r1' := r1
  obtain ⟨a, dx, rfl, _, ha'⟩ := r1'
  refine ⟨a, dx, [], rfl, ha', rfl, ha.le Fr' h ρ1 _ σ H1 S1 _ q1 R1 fun ρ2 gs vs H2 S2 q2 n2 R2 r2 => ?_⟩
  refine ⟨Fr'.toWd, dS Fr'.toWd, .obj C :: gs, _, h, q2, R2.okwD, ⟨_, _, rfl, R2.weak (r1.nx n2), by rw [List.append_nil]; exact r2⟩, fun g' v' H' ⟨fl, q3⟩ af r3 => ?_⟩
  obtain ⟨R3, n3⟩ := R2.step af.x af.dr
  exact j ρ2 g' v' H' S2 q3 ((n1.trans n2).trans n3) R3 (fl _ _ _ _ _ r3)
theorem v_methB {uf} {ρ : RS} {Φ : RS → G → Prop} (q : uo ρ fun ρ1 g => g = .obj C ∧ ur ρ1 fun ρ2 gs => uf (.obj C :: gs) fun g' => Flat g' ∧ Φ ρ2 g') : uMethB C uf uo ur ρ Φ := q
end
end Zn
/-! comprehensions with two clauses -/
namespace Zn
open PySem PySem.Spec PyProof.Rows L2 TL
section
variable {wi wi1 : TI} {ui ui1 : UA} {is is1 : List Nat} {g g1 : TG} {ug ug1 : UG} {tt tt1 : TT} {utt utt1 : UT} {te : TE} {ue : UE} {vs vs1 : List Nat}
def uLc2 (ui : UA) (ug : UG) (utt : UT) (ui1 : UA) (ug1 : UG) (utt1 : UT) (ue : UE) (vs vs1 : List Nat) : UE := fun ρ Φ => ui ρ fun ρ1 gs => ∃ Iv : Nat → List G → RS → Prop, Iv 0 [] (wipeG ρ1 vs) ∧
  (∀ i g acc ρ2, gs[i]? = some g → Iv i acc ρ2 → ug g (wipeG ρ2 vs) fun ρ3 => utt ρ3 fun ρ4 b => if b = true then ui1 ρ4 fun ρ5 hs => ∃ Jv : Nat → List G → RS → Prop, Jv 0 acc ρ5 ∧
    (∀ j h acc ρ6, hs[j]? = some h → Jv j acc ρ6 → ug1 h (wipeG ρ6 vs1) fun ρ7 => utt1 ρ7 fun ρ8 c => if c = true then ue ρ8 fun ρ9 y => acc.length < 100000 ∧ Jv (j + 1) (acc ++ [y]) (wipeG ρ9 vs1) else Jv (j + 1) acc (wipeG ρ8 vs1)) ∧
    (∀ acc ρ6, Jv hs.length acc ρ6 → Iv (i + 1) acc (wipeG ρ6 vs)) else Iv (i + 1) acc (wipeG ρ4 vs)) ∧
  ∀ acc ρ2, Iv gs.length acc ρ2 → Φ (mergeG ρ1 vs ρ2) (.lst acc)
theorem le_lc2 {K : PySem.W.Frag} (hv : ∀ i ∈ is, i ∈ vs) (hv1 : ∀ i ∈ is1, i ∈ vs1) (h1 : ∀ F : Fr, F.K = K → LI F wi ui) (h2 : ∀ F : Fr, F.K = K → LG F is g ug) (h3 : ∀ F : Fr, F.K = K → LT F tt utt)
    (h5 : ∀ F : Fr, F.K = K → LI F wi1 ui1) (h6 : ∀ F : Fr, F.K = K → LG F is1 g1 ug1) (h7 : ∀ F : Fr, F.K = K → LT F tt1 utt1) (h4 : ∀ F : Fr, F.K = K → LE F te ue) (F : Fr) (k : F.K = K) : LN F (tLc2 wi g tt wi1 g1 tt1 te vs vs1) (uLc2 ui ug utt ui1 ug1 utt1 ue vs vs1) := fun ρ Φ σ H S Q q R jj => by
  refine h1 F k ρ _ σ H S _ q R fun ρ1 gs J H1 S1 ⟨Iv, i0, is_, ie⟩ n1 R1 it D hD => ?_
  obtain ⟨R2, n2⟩ := R1.grow (o := .lst []) hD
  have fr := R1.new hD
  have R2 := (R2.addPin upd_same (.inr rfl) fr).wipe vs
  have nq : ∀ q ∈ F.pn, q.1 ≠ D := fr.2.2
  refine ⟨fun i m H' => m = gs.length - i ∧ i ≤ gs.length ∧ ∃ acc ws ρ2 S2, Iv i acc ρ2 ∧ Nxt S1 H1 S2 H' ∧ Rel (F.pnw (D, .lst ws)) S2 ρ2 σ H' ∧ RgL F.toWd S2 H' acc ws,
    ⟨_, rfl, Nat.zero_le _, [], [], _, _, i0, n2, R2, rfl⟩, ?_⟩
  rintro i m H2 ⟨rfl, hi, acc, ws, ρ2, S2, iv, n3, R3, r3⟩
  by_cases hlt : i < gs.length
  · refine .inr ⟨it.go i H2 S2 hlt n3, fun H' => ∃ acc ws ρ2 S2, Iv (i + 1) acc ρ2 ∧ Nxt S1 H1 S2 H' ∧ Rel (F.pnw (D, .lst ws)) S2 ρ2 σ H' ∧ RgL F.toWd S2 H' acc ws, fun H' h => ⟨_, by omega, rfl, hlt, h⟩, fun x H3 y => ?_⟩
    obtain ⟨s3, g', eg, rg'⟩ := it.yld i H2 S2 x H3 hlt n3 y
    obtain ⟨R4, n4⟩ := R3.same s3
    have R4 := R4.toWipe vs
    refine h2 (F.pnw (D, .lst ws)) k g' x _ _ _ H3 S2 _ (is_ i g' acc ρ2 eg iv) R4 rg' fun ρ5 σ5 H5 S5 q5 n5 R5 e5 => ?_
    have l5 : σ5.length = σ.length := by
      rw [e5.1, wipe_length]
    have o5 : ∀ i, i ∉ vs → σ5[i]? = σ[i]? := fun i hi => (e5.2 i fun z => hi (hv i z)).trans (wipe_out hi)
    refine ⟨wipe_eq l5 o5, ?_⟩
    have n05 : Nxt S1 H1 S5 H5 := (n3.trans n4).trans n5
    refine h3 (F.pnw (D, .lst ws)) k ρ5 _ σ5 H5 S5 _ q5 R5 fun ρ6 b H6 S6 q6 n6 R6 => ?_
    have r6 := ((r3.nx n4).nx n5).nx n6
    cases b with
    | false => exact ⟨acc, ws, _, S6, q6, n05.trans n6, R6.ofWipe l5 o5, r6⟩
    | true =>
      refine h5 (F.pnw (D, .lst ws)) k ρ6 _ σ5 H6 S6 _ q6 R6 fun ρ7 hs J1 H7 S7 ⟨Jv, j0, js, je⟩ n7 R7 it1 => ?_
      have n07 : Nxt S1 H1 S7 H7 := (n05.trans n6).trans n7
      refine ⟨fun j m H' => m = hs.length - j ∧ j ≤ hs.length ∧ ∃ acc ws ρ2 S2, Jv j acc ρ2 ∧ Nxt S7 H7 S2 H' ∧ Rel (F.pnw (D, .lst ws)) S2 ρ2 σ5 H' ∧ RgL F.toWd S2 H' acc ws,
        ⟨_, rfl, Nat.zero_le _, acc, ws, ρ7, S7, j0, .refl _ _, R7, r6.nx n7⟩, ?_⟩
      rintro j m H8 ⟨rfl, hj, acc, ws, ρ8, S8, jv, n8, R8, r8⟩
      by_cases hlt1 : j < hs.length
      · refine .inr ⟨it1.go j H8 S8 hlt1 n8, fun H' => ∃ acc ws ρ2 S2, Jv (j + 1) acc ρ2 ∧ Nxt S7 H7 S2 H' ∧ Rel (F.pnw (D, .lst ws)) S2 ρ2 σ5 H' ∧ RgL F.toWd S2 H' acc ws, fun H' h => ⟨_, by omega, rfl, hlt1, h⟩, fun x1 H9 y1 => ?_⟩
        obtain ⟨s9, h', eh, rh'⟩ := it1.yld j H8 S8 x1 H9 hlt1 n8 y1
        obtain ⟨R9, n9⟩ := R8.same s9
        have R9 := R9.toWipe vs1
        refine h6 (F.pnw (D, .lst ws)) k h' x1 _ _ _ H9 S8 _ (js j h' acc ρ8 eh jv) R9 rh' fun ρa σa Ha Sa qa na Ra ea => ?_
        have la : σa.length = σ5.length := by
          rw [ea.1, wipe_length]
        have oa : ∀ i, i ∉ vs1 → σa[i]? = σ5[i]? := fun i hi => (ea.2 i fun z => hi (hv1 i z)).trans (wipe_out hi)
        refine ⟨wipe_eq la oa, ?_⟩
        have n0a : Nxt S7 H7 Sa Ha := (n8.trans n9).trans na
        refine h7 (F.pnw (D, .lst ws)) k ρa _ σa Ha Sa _ qa Ra fun ρb b Hb Sb qb nb Rb => ?_
        have rb := ((r8.nx n9).nx na).nx nb
        cases b with
        | false => exact ⟨acc, ws, _, Sb, qb, n0a.trans nb, Rb.ofWipe la oa, rb⟩
        | true =>
          refine h4 (F.pnw (D, .lst ws)) k ρb _ σa Hb Sb _ qb Rb fun ρc y v Hc Sc ⟨lc, qc⟩ nc Rc rc => ?_
          have pc := (Rc.pin (D, .lst ws) List.mem_cons_self).1
          have rc' := rb.nx nc
          refine ⟨ws, pc, lt_line (by rw [rc'.len]; exact lc), ?_⟩
          obtain ⟨Rd, nd⟩ := Rc.repin (o' := .lst (ws ++ [v])) (fun _ z => by cases z) nq
          exact ⟨acc ++ [y], ws ++ [v], _, Sc, qc, ((n0a.trans nb).trans nc).trans nd, Rd.ofWipe la oa, (rc'.app (.one rc)).nx nd⟩
      · have e : j = hs.length := by omega
        subst e
        exact .inl ⟨it1.stop H8 S8 n8, acc, ws, _, S8, je acc ρ8 jv, n07.trans n8, R8.ofWipe l5 o5, r8⟩
  · have e : i = gs.length := by omega
    subst e
    refine .inl ⟨it.stop H2 S2 n3, ?_⟩
    obtain ⟨p1, p2, p3, p4, p5⟩ := R3.pin (D, .lst ws) List.mem_cons_self
    have R4 := R3.unpin
    exact jj _ (.lst acc) D _ H2 S2 (ie acc ρ2 iv) (n1.trans n3) (R1.merge n3 R4 vs) p2 p1 ⟨ws, rfl, r3⟩ ⟨p5, fun i f g hi => p4 i f g (mergeG_own hi), nq⟩
end
section
variable {X : Cx} {pos : Pos} {elt tg iter tg1 iter1 : Expr} {ifs ifs1 : List Expr} {scope : Scope} {own : List (Str × Nat)} {vs1 : List Nat} {wi wi1 : TI} {ui ui1 : UA} {is is1 : List Nat} {g g1 : TG} {ug ug1 : UG} {tt tt1 : TT} {utt utt1 : UT} {te : TE} {ue : UE}
theorem gn_lc2 (hc : X.calm = true) (hN : X.N.Nodup) (hi : GI X tg iter wi ui) (ok : BlkOk X.N X.env.scope scope own) (hv1 : ∀ i ∈ vs1, i ∈ own.map (·.2))
    (hg : ∀ (s : Shared) (H : Hp) (C : Addr) (cl : List (Str × Addr)) (fp : List Addr), GG (X.blk s H scope (compEnvC scope cl C X.env) fp) is tg g ug) (ht : ∀ (s : Shared) (H : Hp) (C : Addr) (cl : List (Str × Addr)) (fp : List Addr), GTs (X.blk s H scope (compEnvC scope cl C X.env) fp) ifs tt utt)
    (hi1 : ∀ (s : Shared) (H : Hp) (C : Addr) (cl : List (Str × Addr)) (fp : List Addr), GI (X.blk s H scope (compEnvC scope cl C X.env) fp) tg1 iter1 wi1 ui1)
    (hg1 : ∀ (s : Shared) (H : Hp) (C : Addr) (cl : List (Str × Addr)) (fp : List Addr), GG (X.blk s H scope (compEnvC scope cl C X.env) fp) is1 tg1 g1 ug1) (ht1 : ∀ (s : Shared) (H : Hp) (C : Addr) (cl : List (Str × Addr)) (fp : List Addr), GTs (X.blk s H scope (compEnvC scope cl C X.env) fp) ifs1 tt1 utt1)
    (he : ∀ (s : Shared) (H : Hp) (C : Addr) (cl : List (Str × Addr)) (fp : List Addr), GE (X.blk s H scope (compEnvC scope cl C X.env) fp) elt te ue) (hv : ∀ i ∈ is, i ∈ own.map (·.2)) (hv2 : ∀ i ∈ is1, i ∈ vs1) (hs : ∀ x, foldedSetIterable iter X.env x = pure x := by intro _; rfl) (hs1 : ∀ env x, foldedSetIterable iter1 env x = pure x := by intro _ _; rfl) :
    GN X (.ListComp elt [⟨tg, iter, ifs, 0⟩, ⟨tg1, iter1, ifs1, 0⟩] scope pos) (tLc2 wi g tt wi1 g1 tt1 te (own.map (·.2)) vs1) (uLc2 ui ug utt ui1 ug1 utt1 ue (own.map (·.2)) vs1) :=
  ⟨pe_lc2 hc hN hi.pe ok hv1 (fun s H C cl fp => (hg s H C cl fp).pe) (fun s H C cl fp => (ht s H C cl fp).pe) (fun s H C cl fp => (hi1 s H C cl fp).pe) (fun s H C cl fp => (hg1 s H C cl fp).pe) (fun s H C cl fp => (ht1 s H C cl fp).pe) (fun s H C cl fp => (he s H C cl fp).pe) hs hs1,
    le_lc2 (K := X.K) hv hv2 hi.le (fun F k => (hg X.s_0 X.H_0 0 [] []).le F k) (fun F k => (ht X.s_0 X.H_0 0 [] []).le F k) (fun F k => (hi1 X.s_0 X.H_0 0 [] []).le F k) (fun F k => (hg1 X.s_0 X.H_0 0 [] []).le F k) (fun F k => (ht1 X.s_0 X.H_0 0 [] []).le F k) (fun F k => (he X.s_0 X.H_0 0 [] []).le F k)⟩
end
end Zn
/-! x = a comprehension of two clauses; slices of texts -/
namespace Zn
open PySem PySem.Spec PyProof.Rows L2 TL
section
variable {X : Cx} {pos : Pos} {elt tg iter tg1 iter1 : Expr} {ifs ifs1 : List Expr} {scope : Scope} {own : List (Str × Nat)} {vs1 : List Nat} {wi wi1 : TI} {ui ui1 : UA} {is is1 : List Nat} {g g1 : TG} {ug ug1 : UG} {tt tt1 : TT} {utt utt1 : UT} {te : TE} {ue : UE}
theorem gs_setLc2 {i : Nat} {y : Str} {py : Pos} {spos : Pos} (hc : X.calm = true) (hN : X.N.Nodup) (hy : X.N[i]? = some y) (hyl : X.env.scope.names.lookup y = some .local)
    (hsw : swapsWith (.ListComp elt [⟨tg, iter, ifs, 0⟩, ⟨tg1, iter1, ifs1, 0⟩] scope pos) (some (.Name y py)) spos.line X.env = pure true) (hi : GI X tg iter wi ui) (ok : BlkOk X.N X.env.scope scope own) (hv1 : ∀ i ∈ vs1, i ∈ own.map (·.2))
    (hg : ∀ (s : Shared) (H : Hp) (C : Addr) (cl : List (Str × Addr)) (fp : List Addr), GG (X.blk s H scope (compEnvC scope cl C X.env) fp) is tg g ug) (ht : ∀ (s : Shared) (H : Hp) (C : Addr) (cl : List (Str × Addr)) (fp : List Addr), GTs (X.blk s H scope (compEnvC scope cl C X.env) fp) ifs tt utt)
    (hi1 : ∀ (s : Shared) (H : Hp) (C : Addr) (cl : List (Str × Addr)) (fp : List Addr), GI (X.blk s H scope (compEnvC scope cl C X.env) fp) tg1 iter1 wi1 ui1)
    (hg1 : ∀ (s : Shared) (H : Hp) (C : Addr) (cl : List (Str × Addr)) (fp : List Addr), GG (X.blk s H scope (compEnvC scope cl C X.env) fp) is1 tg1 g1 ug1) (ht1 : ∀ (s : Shared) (H : Hp) (C : Addr) (cl : List (Str × Addr)) (fp : List Addr), GTs (X.blk s H scope (compEnvC scope cl C X.env) fp) ifs1 tt1 utt1)
    (he : ∀ (s : Shared) (H : Hp) (C : Addr) (cl : List (Str × Addr)) (fp : List Addr), GE (X.blk s H scope (compEnvC scope cl C X.env) fp) elt te ue) (hv : ∀ i ∈ is, i ∈ own.map (·.2)) (hv2 : ∀ i ∈ is1, i ∈ vs1) (hs : ∀ x, foldedSetIterable iter X.env x = pure x := by intro _; rfl) (hs1 : ∀ env x, foldedSetIterable iter1 env x = pure x := by intro _ _; rfl) :
    GS X (.Assign [.Name y py] (.ListComp elt [⟨tg, iter, ifs, 0⟩, ⟨tg1, iter1, ifs1, 0⟩] scope pos) spos) (tAsg (tLc2 wi g tt wi1 g1 tt1 te (own.map (·.2)) vs1) (gName i)) (uSet i (uLc2 ui ug utt ui1 ug1 utt1 ue (own.map (·.2)) vs1)) :=
  ⟨ps_setLc2 hc hN hy hyl hsw hi.pe ok hv1 (fun s H C cl fp => (hg s H C cl fp).pe) (fun s H C cl fp => (ht s H C cl fp).pe) (fun s H C cl fp => (hi1 s H C cl fp).pe) (fun s H C cl fp => (hg1 s H C cl fp).pe) (fun s H C cl fp => (ht1 s H C cl fp).pe) (fun s H C cl fp => (he s H C cl fp).pe) hs hs1,
    fun F k => le_set (LN.le (le_lc2 (K := X.K) hv hv2 hi.le (fun F k => (hg X.s_0 X.H_0 0 [] []).le F k) (fun F k => (ht X.s_0 X.H_0 0 [] []).le F k) (fun F k => (hi1 X.s_0 X.H_0 0 [] []).le F k) (fun F k => (hg1 X.s_0 X.H_0 0 [] []).le F k) (fun F k => (ht1 X.s_0 X.H_0 0 [] []).le F k) (fun F k => (he X.s_0 X.H_0 0 [] []).le F k) F k))⟩
theorem v_lc2 {vs : List Nat} {ρ : RS} {Φ : RS → G → Prop} (q : ui ρ fun ρ1 gs => ∃ Iv : Nat → List G → RS → Prop, Iv 0 [] (wipeG ρ1 vs) ∧
  (∀ i g acc ρ2, gs[i]? = some g → Iv i acc ρ2 → ug g (wipeG ρ2 vs) fun ρ3 => utt ρ3 fun ρ4 b => if b = true then ui1 ρ4 fun ρ5 hs => ∃ Jv : Nat → List G → RS → Prop, Jv 0 acc ρ5 ∧
    (∀ j h acc ρ6, hs[j]? = some h → Jv j acc ρ6 → ug1 h (wipeG ρ6 vs1) fun ρ7 => utt1 ρ7 fun ρ8 c => if c = true then ue ρ8 fun ρ9 y => acc.length < 100000 ∧ Jv (j + 1) (acc ++ [y]) (wipeG ρ9 vs1) else Jv (j + 1) acc (wipeG ρ8 vs1)) ∧
    (∀ acc ρ6, Jv hs.length acc ρ6 → Iv (i + 1) acc (wipeG ρ6 vs)) else Iv (i + 1) acc (wipeG ρ4 vs)) ∧
  ∀ acc ρ2, Iv gs.length acc ρ2 → Φ (mergeG ρ1 vs ρ2) (.lst acc)) : uLc2 ui ug utt ui1 ug1 utt1 ue vs vs1 ρ Φ := q
end
section
variable {X : Cx} {e : Expr} {t : TE} {u : UE} {pos : Pos}
def uSlS (ua : UE) (ul uh : UO) : UE := fun ρ Φ => ua ρ fun ρ1 g => ul ρ1 fun ρ2 lo => uh ρ2 fun ρ3 hi => ∃ z : Str, g = .str z ∧ z.length ≤ 100000 ∧ Φ ρ3 (.str (cutS z lo hi))
theorem k_slS {lo hi : Option Expr} {tl th : TO} {ul uh : UO} {p2 : Pos} (he : GE X e t u) (hl : GO X lo tl ul) (hu : GO X hi th uh) : GE X (.Subscript e (.Slice lo hi none p2) pos) (tSl rSlS t tl th) (uSlS u ul uh) :=
  ⟨pe_slice sl_str he.pe hl.pe hu.pe, fun F h ρ Φ σ H S Q q R k => he.le F h ρ _ σ H S _ q R fun ρ1 g v H1 S1 q1 n1 R1 r1 =>
    hl.le F h ρ1 _ σ H1 S1 _ q1 R1 fun ρ2 lo H2 S2 q2 n2 R2 => hu.le F h ρ2 _ σ H2 S2 _ q2 R2 fun ρ3 hi H3 S3 ⟨z, e, l, q3⟩ n3 R3 => by
      subst e
      cases (show v = .str z from r1)
      exact ⟨z, rfl, len_ok l, k ρ3 _ _ H3 S3 q3 ((n1.trans n2).trans n3) R3 rfl⟩⟩
theorem v_slS {ul uh : UO} {ρ : RS} {Φ : RS → G → Prop} (q : u ρ fun ρ1 g => ul ρ1 fun ρ2 lo => uh ρ2 fun ρ3 hi => ∃ z : Str, g = .str z ∧ z.length ≤ 100000 ∧ Φ ρ3 (.str (cutS z lo hi))) : uSlS u ul uh ρ Φ := q
end
end Zn
/-! x[i], where x is a list or a tuple -/
namespace Zn
open PySem PySem.Spec PyProof.Rows L2 TL
section
variable {X : Cx} {a b : Expr} {ta tb : TE} {ua ub : UE} {pos : Pos}
def rIxE (K : PySem.W.Frag) : R2 := fun x y H Q => rIxL K x y H Q ∨ rIxT K x y H Q
theorem gi_E : GIx X (rIxE X.K) u2Ix := ⟨ix_list.or ix_tup, fun W S H g1 g2 v1 v2 Φ Q hk _ r1 r2 ⟨gs, i, g, e1, e2, e3, q⟩ k => by
  subst e2
  cases g1 with
  | lst xs =>
    cases e1
    obtain ⟨p, vs, rfl, _, h1, h2⟩ := r1
    obtain ⟨v, hv, rv⟩ := h2.at e3
    exact .inl ⟨p, vs, i, v, rfl, r2, sl_of h1, hv, k _ _ H q (.refl _) rv⟩
  | tup xs =>
    cases e1
    obtain ⟨p, vs, rfl, h1, h2⟩ := r1
    obtain ⟨v, hv, rv⟩ := h2.at e3
    exact .inr ⟨p, vs, i, v, rfl, r2, hk ▸ h1.sq, hv, k _ _ H q (.refl _) rv⟩
  | _ => cases e1⟩
theorem k_ixE (K : PySem.W.Frag) (ha : GE X a ta ua) (hb : GE X b tb ub) (hs : PlainIx b := by exact (fun _ _ => rfl)) (hk : X.K = K := by rfl) : GE X (.Subscript a b pos) (tOp (rIxE K) ta tb) (uOp u2Ix ua ub) := by
  subst hk
  exact ge_ix gi_E ha hb hs
theorem v_ixE {x : G} {gs : List G} {k : Int} {g : G} {Q : G → Prop} (hx : sq x = some gs) (e : atI gs k = some g) (q : Q g) : u2Ix x (.int k) Q := ⟨gs, k, g, hx, rfl, e, q⟩
end
end Zn
namespace Zn
open PySem PySem.Spec PyProof.Rows L2 TL
abbrev s_result : Stmt := topS 4
theorem sc_result : FnScope ["op", "width", "words", "choice", "left", "right"] ["op", "width", "words"] (defScope s_result) := ⟨rfl, rfl, rfl, by decide +kernel, rfl, by decide +kernel, by decide +kernel⟩

abbrev s__of_one : Stmt := topS 5
theorem sc__of_one : FnScope ["op", "word"] ["op", "word"] (defScope s__of_one) := ⟨rfl, rfl, rfl, by decide +kernel, rfl, by decide +kernel, by decide +kernel⟩

abbrev s__related : Stmt := topS 6
theorem sc__related : FnScope ["op", "left", "right"] ["op", "left", "right"] (defScope s__related) := ⟨rfl, rfl, rfl, by decide +kernel, rfl, by decide +kernel, by decide +kernel⟩

abbrev s__of_two : Stmt := topS 7
theorem sc__of_two : FnScope ["op", "width", "left", "right"] ["op", "width", "left", "right"] (defScope s__of_two) := ⟨rfl, rfl, rfl, by decide +kernel, rfl, by decide +kernel, by decide +kernel⟩

abbrev s__divided : Stmt := topS 8
theorem sc__divided : FnScope ["op", "left", "right"] ["op", "left", "right"] (defScope s__divided) := ⟨rfl, rfl, rfl, by decide +kernel, rfl, by decide +kernel, by decide +kernel⟩

/-! ### the mathematics: what each operation is worth -/
def mask (w x : Int) : Int := Builtin.bitAnd x (1 * 2 ^ w.toNat - 1)
theorem mask_mod (w x : Int) : mask w x = x % 2 ^ w.toNat := by
  unfold mask
  rw [Int.one_mul]
  exact PySem.W.kbt_mask x w.toNat
theorem mask_id {w x : Int} (h0 : 0 ≤ x) (h1 : x < 2 ^ w.toNat) : mask w x = x := by
  rw [mask_mod]
  exact Int.emod_eq_of_lt h0 h1
theorem and_in {w x y : Int} (x0 : 0 ≤ x) (x1 : x < 2 ^ w.toNat) (y0 : 0 ≤ y) : 0 ≤ Builtin.bitAnd x y ∧ Builtin.bitAnd x y < 2 ^ w.toNat := by
  have h := bitAnd_range y x0
  rw [bitAnd_comm] at h
  exact ⟨h.1, Int.lt_of_le_of_lt h.2 x1⟩
theorem nat_lt {w : Int} {n : Nat} : ((n : Int) < 2 ^ w.toNat) ↔ n < 2 ^ w.toNat := by
  rw [show ((2 : Int) ^ w.toNat) = ((2 ^ w.toNat : Nat) : Int) by simp]
  exact Int.ofNat_lt
theorem or_in {w x y : Int} (x0 : 0 ≤ x) (x1 : x < 2 ^ w.toNat) (y0 : 0 ≤ y) (y1 : y < 2 ^ w.toNat) : 0 ≤ Builtin.bitOr x y ∧ Builtin.bitOr x y < 2 ^ w.toNat := by
  rw [Bits.bitOr_pp x0 y0]
  refine ⟨Int.natCast_nonneg _, nat_lt.mpr (Nat.or_lt_two_pow (nat_lt.mp ?_) (nat_lt.mp ?_))⟩ <;> omega
theorem xor_in {w x y : Int} (x0 : 0 ≤ x) (x1 : x < 2 ^ w.toNat) (y0 : 0 ≤ y) (y1 : y < 2 ^ w.toNat) : 0 ≤ Builtin.bitXor x y ∧ Builtin.bitXor x y < 2 ^ w.toNat := by
  rw [Bits.bitXor_pp x0 y0]
  refine ⟨Int.natCast_nonneg _, nat_lt.mpr (Nat.xor_lt_two_pow (nat_lt.mp ?_) (nat_lt.mp ?_))⟩ <;> omega
/-- a word of width w -/
def Word (w x : Int) : Prop := 0 ≤ x ∧ x < 2 ^ w.toNat
/-- op at width w over the words xs is worth z -/
inductive Val : Str → Int → List Int → Int → Prop
  | not {w x} : Val "not" w [x] (mask w (-x - 1))
  | neg {w x} : Val "neg" w [x] (mask w (-x))
  | wide {w x} : Val "wide" w [x] (mask w x)
  | pick1 {w l r} : Val "pick" w [1, l, r] l
  | pick0 {w l r} : Val "pick" w [0, l, r] r
  | add {w x y} : Val "+" w [x, y] (mask w (x + y))
  | sub {w x y} : Val "-" w [x, y] (mask w (x - y))
  | mul {w x y} (b : x < 2 ^ 64) (a : -(2 ^ 64) < x) : Val "*" w [x, y] (mask w (x * y))
  | and {w x y} (a : Word w x) (b : Word w y) : Val "&" w [x, y] (Builtin.bitAnd x y)
  | or {w x y} (a : Word w x) (b : Word w y) : Val "|" w [x, y] (Builtin.bitOr x y)
  | xor {w x y} (a : Word w x) (b : Word w y) : Val "^" w [x, y] (Builtin.bitXor x y)
  | shl {w x y} (a : Word w x) (b : 0 ≤ y) (c : 1 ≤ w) (d : w ≤ 8) (e : x.natAbs < 2 ^ 64) : Val "<<" w [x, y] (mask w (x * 2 ^ (if 8 < y then 8 else y).toNat))
  | shr {w x y} (a : Word w x) (b : 0 ≤ y) (c : 1 ≤ w) (d : w ≤ 8) : Val ">>" w [x, y] (x / 2 ^ (if 8 < y then 8 else y).toNat)
  | div0 {w x} (a : Word w x) : Val "div" w [x, 0] 0
  | rem0 {w x} (a : Word w x) : Val "rem" w [x, 0] 0
  | div {w x y} (a : Word w x) (b : Word w y) (c : y ≠ 0) (d : y < 1073741824) : Val "div" w [x, y] (x / y)
  | rem {w x y} (a : Word w x) (b : Word w y) (c : y ≠ 0) (d : y < 1073741824) : Val "rem" w [x, y] (x - x / y * y)
  | eq {w x y} : Val "==" w [x, y] (if decide (x = y) then 1 else 0)
  | ne {w x y} : Val "!=" w [x, y] (if decide (x = y) then 0 else 1)
  | lt {w x y} : Val "<" w [x, y] (if decide (x < y) then 1 else 0)
  | le {w x y} : Val "<=" w [x, y] (if decide (x ≤ y) then 1 else 0)
/-- which widths the operands have -/
inductive Shape : Str → Int → List Int → Prop
  | one {op w} (h : op = "not" ∨ op = "neg") : Shape op w [w]
  | wide {w v} (h0 : 1 ≤ v) (h1 : v ≤ 8) : Shape "wide" w [v]
  | shift {op w v} (h : op = "<<" ∨ op = ">>") (h0 : 1 ≤ v) (h1 : v ≤ 8) : Shape op w [w, v]
  | pick {w} : Shape "pick" w [1, w, w]
  | two {op w} (h : op ∈ (["+", "-", "*", "&", "|", "^", "div", "rem", "==", "!=", "<", "<="] : List Str)) : Shape op w [w, w]
/-- words of these widths -/
def Fits : List Int → List Int → Prop
  | [], [] => True
  | w :: ws, x :: xs => Word w x ∧ Fits ws xs
  | _, _ => False
theorem Fits.snoc : ∀ {ws xs : List Int} {w x : Int}, Fits ws xs → Word w x → Fits (ws ++ [w]) (xs ++ [x])
  | [], [], _, _, _, h => ⟨h, trivial⟩
  | _ :: _, _ :: _, _, _, ⟨a, b⟩, h => ⟨a, Fits.snoc b h⟩
  | [], _ :: _, _, _, h, _ => h.elim
  | _ :: _, [], _, _, h, _ => h.elim
theorem val_ex {op : Str} {w : Int} {ws xs : List Int} (h1 : 1 ≤ w) (h8 : w ≤ 8) (s : Shape op w ws) (f : Fits ws xs) : ∃ z, Val op w xs z := by
  have hs := small h1 h8
  cases s with
  | one h =>
    obtain ⟨x, rfl⟩ : ∃ x, xs = [x] := by
      match xs, f with
      | [x], _ => exact ⟨x, rfl⟩
    rcases h with rfl | rfl
    · exact ⟨_, .not⟩
    · exact ⟨_, .neg⟩
  | wide h0 h1 =>
    obtain ⟨x, rfl⟩ : ∃ x, xs = [x] := by
      match xs, f with
      | [x], _ => exact ⟨x, rfl⟩
    exact ⟨_, .wide⟩
  | shift h h0 h1' =>
    obtain ⟨x, y, rfl, a, b⟩ : ∃ x y, xs = [x, y] ∧ Word w x ∧ 0 ≤ y := by
      match xs, f with
      | [x, y], h => exact ⟨x, y, rfl, h.1, h.2.1.1⟩
    rcases h with rfl | rfl
    · exact ⟨_, .shl a b h1 h8 (by have := a.1; have := a.2; omega)⟩
    · exact ⟨_, .shr a b h1 h8⟩
  | pick =>
    obtain ⟨c, l, r, rfl, a⟩ : ∃ c l r, xs = [c, l, r] ∧ Word 1 c := by
      match xs, f with
      | [c, l, r], h => exact ⟨c, l, r, rfl, h.1⟩
    have a1 : 0 ≤ c := a.1
    have a2 : c < 2 := a.2
    have : c = 0 ∨ c = 1 := by omega
    rcases this with rfl | rfl
    · exact ⟨_, .pick0⟩
    · exact ⟨_, .pick1⟩
  | two h =>
    obtain ⟨x, y, rfl, a, b⟩ : ∃ x y, xs = [x, y] ∧ Word w x ∧ Word w y := by
      match xs, f with
      | [x, y], h => exact ⟨x, y, rfl, h.1, h.2.1⟩
    have a0 := a.1
    have a1 := a.2
    have b0 := b.1
    have b1 := b.2
    simp only [List.mem_cons, List.not_mem_nil, or_false] at h
    rcases h with rfl | rfl | rfl | rfl | rfl | rfl | rfl | rfl | rfl | rfl | rfl | rfl
    · exact ⟨_, .add⟩
    · exact ⟨_, .sub⟩
    · exact ⟨_, .mul (by omega) (by omega)⟩
    · exact ⟨_, .and a b⟩
    · exact ⟨_, .or a b⟩
    · exact ⟨_, .xor a b⟩
    · by_cases e : y = 0
      · subst e
        exact ⟨_, .div0 a⟩
      · exact ⟨_, .div a b e (by omega)⟩
    · by_cases e : y = 0
      · subst e
        exact ⟨_, .rem0 a⟩
      · exact ⟨_, .rem a b e (by omega)⟩
    · exact ⟨_, .eq⟩
    · exact ⟨_, .ne⟩
    · exact ⟨_, .lt⟩
    · exact ⟨_, .le⟩
theorem pow_pos' (n : Nat) : (0 : Int) < 2 ^ n := Int.pow_pos (by decide)
theorem shl0 {w x k : Int} (h : w ≤ k) : mask w (x * 2 ^ k.toNat) = mask w 0 := by
  rw [mask_mod, mask_mod, Int.zero_emod]
  obtain ⟨j, e⟩ : ∃ j, k.toNat = w.toNat + j := ⟨k.toNat - w.toNat, by omega⟩
  rw [e, Int.pow_add]
  refine Int.emod_eq_zero_of_dvd ⟨x * 2 ^ j, ?_⟩
  rw [Int.mul_left_comm]
theorem pow_mono {m n : Nat} (h : m ≤ n) : (2 : Int) ^ m ≤ 2 ^ n := by
  have := Nat.pow_le_pow_right (show 0 < 2 by decide) h
  have e : ∀ k : Nat, ((2 : Int) ^ k) = ((2 ^ k : Nat) : Int) := fun k => by simp
  rw [e, e]
  omega
theorem shr0 {w x k : Int} (a : Word w x) (h : w ≤ k) : x / 2 ^ k.toNat = mask w 0 := by
  rw [mask_mod, Int.zero_emod]
  have := @pow_mono w.toNat k.toNat (by omega)
  exact Int.ediv_eq_zero_of_lt a.1 (Int.lt_of_lt_of_le a.2 this)
theorem shr1 {w x : Int} {k : Nat} (a : Word w x) : 0 ≤ x / 2 ^ k ∧ x / 2 ^ k < 2 ^ w.toNat :=
  ⟨Int.ediv_nonneg a.1 (Int.le_of_lt (pow_pos' k)), Int.lt_of_le_of_lt (Int.ediv_le_self _ a.1) a.2⟩
/-! ### promises -/
/-- the names that the words' operations read -/
structure TWord (K : PySem.W.Frag) (mg : Str → Option Value) (aR : Addr) : Prop where
  z_len : mg "len" = none
  g_RELATIONS : mg "RELATIONS" = some (.ref aR)
  q_RELATIONS : ∀ H, SqT K H aR [.str "==", .str "!=", .str "<", .str "<="]
section
variable {P : Program} {w : World} {K : PySem.W.Frag} {mg : Str → Option Value} {base : Heap} {aR : Addr}
theorem TWord.r_RELATIONS (_ : TWord K mg aR) : RelV (.ref aR) (.ref aR) := rfl
/-- told of a word of one operation: the heap grows -/
def spDiv : Sp := fun vs H Q _ => ∃ (o : Str) (x y z : Int) (w : Int), vs = [.str o, .int x, .int y] ∧ (o = "div" ∨ o = "rem") ∧ Val o w [x, y] z ∧ ∀ H', Same H H' → Q (.int z) H'
theorem ok_divided {f : Addr} {fd : FuncData} (F : Fun K "_divided" "_divided" s__divided f fd) : FnOk P w K mg base CX0 1 f fd ["op", "left", "right"] spDiv := by
  refine F.ok sc__divided (fun vs H Q E h => ?_) (fun cdv A outer s H vs Q E hr h => ?_)
  · obtain ⟨o, x, y, z, w, rfl, _⟩ := h
    rfl
  · obtain ⟨o, x, y, z, w, rfl, ho, v, q⟩ := h
    refine ⟨_, 
      (pss_cons (ps_if (pt_cmpR op_eq (pv 2) pe_int (nomark _)) 
       (pss_one (ps_ret pe_int)) pss_nil)
      (pss_one (ps_ret (pe_ifExp (pt_cmpR op_eq (pv 0) pe_str (nomark _)) (pe_op op_fdiv (pv 1) (pv 2)) (pe_op op_mod (pv 1) (pv 2)))))), ?_⟩
    cases v with
    | div0 a => walk_at "rd"; exact q _ (Same.refl _)
    | rem0 a => walk_at "rd"; exact q _ (Same.refl _)
    | div a b c d =>
      have hd : ¬ (decide (V.int y = V.int 0) = true) := fun k => c (V.int.inj (of_decide_eq_true k))
      have hc : CDiv x y := ⟨by have := b.1; omega, d⟩
      walk_at "rd"
      exact q _ (Same.refl _)
    | rem a b c d =>
      have hd : ¬ (decide (V.int y = V.int 0) = true) := fun k => c (V.int.inj (of_decide_eq_true k))
      have hc : 0 < y := by have := b.1; omega
      walk_at "rd"
      have e : x % y = x - x / y * y := by
        have := Int.emod_def x y
        rw [Int.mul_comm] at this
        exact this
      rw [e]
      exact q _ (Same.refl _)
    | _ => exfalso; rcases ho with ho | ho <;> exact absurd ho (by decide +kernel)
def spOne : Sp := fun vs H Q _ => ∃ (o : Str) (x z : Int) (w : Int), vs = [.str o, .int x] ∧ (o = "not" ∨ o = "neg" ∨ o = "wide") ∧ Val o w [x] z ∧ ∀ u, mask w u = z → Q (.int u) H
theorem ok_of_one {f : Addr} {fd : FuncData} (F : Fun K "_of_one" "_of_one" s__of_one f fd) : FnOk P w K mg base CX0 1 f fd ["op", "word"] spOne := by
  refine F.ok sc__of_one (fun vs H Q E h => ?_) (fun cdv A outer s H vs Q E hr h => ?_)
  · obtain ⟨o, x, z, w, rfl, _⟩ := h
    rfl
  · obtain ⟨o, x, z, w, rfl, ho, v, q⟩ := h
    refine ⟨_, 
      (pss_cons (ps_if (pt_cmpR op_eq (pv 0) pe_str (nomark _)) 
       (pss_one (ps_ret (pe_un un_inv (pv 1)))) pss_nil)
      (pss_cons (ps_if (pt_cmpR op_eq (pv 0) pe_str (nomark _)) 
       (pss_one (ps_ret (pe_un un_neg (pv 1)))) pss_nil)
      (pss_one (ps_ret (pv 1))))), ?_⟩
    cases v <;> first
      | (exfalso; rcases ho with ho | ho | ho <;> exact absurd ho (by decide +kernel))
      | (walk_at "rd"; exact q _ rfl)
def spRel : Sp := fun vs H Q _ => ∃ (o : Str) (x y z : Int) (w : Int), vs = [.str o, .int x, .int y] ∧ (o = "==" ∨ o = "!=" ∨ o = "<" ∨ o = "<=") ∧ Val o w [x, y] z ∧ ∀ b : Bool, (if b then 1 else 0 : Int) = z → Q (.bl b) H
theorem ok_related {f : Addr} {fd : FuncData} (F : Fun K "_related" "_related" s__related f fd) : FnOk P w K mg base CX0 1 f fd ["op", "left", "right"] spRel := by
  refine F.ok sc__related (fun vs H Q E h => ?_) (fun cdv A outer s H vs Q E hr h => ?_)
  · obtain ⟨o, x, y, z, w, rfl, _⟩ := h
    rfl
  · obtain ⟨o, x, y, z, w, rfl, ho, v, q⟩ := h
    refine ⟨_, 
      (pss_cons (ps_if (pt_cmpR op_eq (pv 0) pe_str (nomark _)) 
       (pss_one (ps_ret (pe_cmpR op_eq (pv 1) (pv 2) (nomark _)))) pss_nil)
      (pss_cons (ps_if (pt_cmpR op_eq (pv 0) pe_str (nomark _)) 
       (pss_one (ps_ret (pe_cmpR op_ne (pv 1) (pv 2) (nomark _)))) pss_nil)
      (pss_cons (ps_if (pt_cmpR op_eq (pv 0) pe_str (nomark _)) 
       (pss_one (ps_ret (pe_cmpR op_lt (pv 1) (pv 2) (nomark _)))) pss_nil)
      (pss_one (ps_ret (pe_cmpR op_le (pv 1) (pv 2) (nomark _))))))), ?_⟩
    cases v <;> first
      | (exfalso; rcases ho with ho | ho | ho | ho <;> exact absurd ho (by decide +kernel))
      | skip
    case eq => walk_at "rd"; exact q _ (by simp)
    case ne => walk_at "rd"; exact q _ (by by_cases e : x = y <;> simp [e])
    case lt => walk_at "rd"; exact q _ rfl
    case le => walk_at "rd"; exact q _ rfl
def spTwo : Sp := fun vs H Q _ => ∃ (o : Str) (x y z : Int) (w : Int), vs = [.str o, .int w, .int x, .int y] ∧ ¬ (o = "==" ∨ o = "!=" ∨ o = "<" ∨ o = "<=") ∧ Val o w [x, y] z ∧ ∀ (u : Int) (H' : Hp), Same H H' → mask w u = z → Q (.int u) H'
theorem ok_of_two {f : Addr} {fd : FuncData} (F : Fun K "_of_two" "_of_two" s__of_two f fd) (c__divided : Cal P w K mg base "_divided" 1 spDiv) : FnOk P w K mg base CX0 2 f fd ["op", "width", "left", "right"] spTwo := by
  refine F.ok sc__of_two (fun vs H Q E h => ?_) (fun cdv A outer s H vs Q E hr h => ?_)
  · obtain ⟨o, x, y, z, w, rfl, _⟩ := h
    rfl
  · obtain ⟨o, x, y, z, w, rfl, ho, v, q⟩ := h
    refine ⟨_, 
      (pss_cons (ps_if (pt_cmpR op_eq (pv 0) pe_str (nomark _)) 
       (pss_one (ps_ret (pe_op op_add (pv 2) (pv 3)))) pss_nil)
      (pss_cons (ps_if (pt_cmpR op_eq (pv 0) pe_str (nomark _)) 
       (pss_one (ps_ret (pe_op op_sub (pv 2) (pv 3)))) pss_nil)
      (pss_cons (ps_if (pt_cmpR op_eq (pv 0) pe_str (nomark _)) 
       (pss_one (ps_ret (pe_op op_mul (pv 2) (pv 3)))) pss_nil)
      (pss_cons (ps_if (pt_cmpR op_eq (pv 0) pe_str (nomark _)) 
       (pss_one (ps_ret (pe_op op_and (pv 2) (pv 3)))) pss_nil)
      (pss_cons (ps_if (pt_cmpR op_eq (pv 0) pe_str (nomark _)) 
       (pss_one (ps_ret (pe_op op_or (pv 2) (pv 3)))) pss_nil)
      (pss_cons (ps_if (pt_cmpR op_eq (pv 0) pe_str (nomark _)) 
       (pss_one (ps_ret (pe_op op_xor (pv 2) (pv 3)))) pss_nil)
      (pss_cons (ps_if (pt_cmpR (r := rIn K false) op_in_seq (pv 0) (pe_tup (pa_cons pe_str (pa_cons pe_str pa_nil))) (by rfl)) 
       (pss_one (ps_ret (Zn.pe_cal c__divided (hr.mono (by decide)) (by rfl) (pa_cons (pv 0) (pa_cons (pv 2) (pa_cons (pv 3) pa_nil)))))) pss_nil)
      (pss_cons (ps_if (pt_cmpR op_ge (pv 3) (pv 1) (nomark _)) 
       (pss_one (ps_ret pe_int)) pss_nil)
      (pss_one (ps_ret (pe_ifExp (pt_cmpR op_eq (pv 0) pe_str (nomark _)) (pe_op op_shl (pv 2) (pv 3)) (pe_op op_shr (pv 2) (pv 3))))))))))))), ?_⟩
    cases v with
    | add => walk_at "rd"; exact q _ _ (Same.refl _) rfl
    | sub => walk_at "rd"; exact q _ _ (Same.refl _) rfl
    | mul b a =>
      have hc : CMul x y := mulL a b
      walk_at "rd"; exact q _ _ (Same.refl _) rfl
    | and a b => walk_at "rd"; exact q _ _ (Same.refl _) (mask_id (and_in a.1 a.2 b.1).1 (and_in a.1 a.2 b.1).2)
    | or a b => walk_at "rd"; exact q _ _ (Same.refl _) (mask_id (or_in a.1 a.2 b.1 b.2).1 (or_in a.1 a.2 b.1 b.2).2)
    | xor a b => walk_at "rd"; exact q _ _ (Same.refl _) (mask_id (xor_in a.1 a.2 b.1 b.2).1 (xor_in a.1 a.2 b.1 b.2).2)
    | shl a b c d e =>
      walk_at "rd"
      refine ite2 (fun h => ?_) (fun h => ?_)
      · have h := of_decide_eq_true h
        walk_at "rd"
        exact q _ _ (by walk_at "sm") (shl0 (by split <;> omega)).symm
      · have h : ¬ w ≤ y := fun k => h (decide_eq_true k)
        have hc : CPow x y := ⟨b, by omega, e⟩
        have e8 : (if 8 < y then 8 else y) = y := if_neg (by omega)
        walk_at "rd"
        exact q _ _ (by walk_at "sm") (by rw [e8])
    | shr a b c d =>
      walk_at "rd"
      refine ite2 (fun h => ?_) (fun h => ?_)
      · have h := of_decide_eq_true h
        walk_at "rd"
        exact q _ _ (by walk_at "sm") (shr0 a (by split <;> omega)).symm
      · have h : ¬ w ≤ y := fun k => h (decide_eq_true k)
        have e8 : (if 8 < y then 8 else y) = y := if_neg (by omega)
        walk_at "rd"
        exact q _ _ (by walk_at "sm") (by rw [e8]; exact mask_id (shr1 a).1 (shr1 a).2)
    | div0 a =>
      walk_at "rd"
      exact ⟨_, x, 0, 0, w, rfl, .inl rfl, .div0 a, fun H' s => q _ _ (.trans (by walk_at "sm") s) (mask_id (Int.le_refl _) (pow_pos' _))⟩
    | rem0 a =>
      walk_at "rd"
      exact ⟨_, x, 0, 0, w, rfl, .inr rfl, .rem0 a, fun H' s => q _ _ (.trans (by walk_at "sm") s) (mask_id (Int.le_refl _) (pow_pos' _))⟩
    | div a b c d =>
      walk_at "rd"
      exact ⟨_, x, y, _, w, rfl, .inl rfl, .div a b c d, fun H' s => q _ _ (.trans (by walk_at "sm") s) (mask_id (Int.ediv_nonneg a.1 b.1) (Int.lt_of_le_of_lt (Int.ediv_le_self _ a.1) a.2))⟩
    | rem a b c d =>
      walk_at "rd"
      have e : x - x / y * y = x % y := by
        have := Int.emod_def x y
        rw [Int.mul_comm] at this
        exact this.symm
      have y0 := b.1
      exact ⟨_, x, y, _, w, rfl, .inr rfl, .rem a b c d, fun H' s => q _ _ (.trans (by walk_at "sm") s) (by
        rw [e]
        exact mask_id (Int.emod_nonneg _ c) (Int.lt_trans (Int.emod_lt_of_pos _ (by omega)) b.2))⟩
    | _ => exfalso; exact ho (by decide +kernel)
/-- an operation of the program, the words as they are told -/
def spRes : Sp := fun vs H Q _ => ∃ (o : Str) (w z : Int) (xs : List Int), vs = .str o :: .int w :: xs.map V.int ∧ xs.length ≤ 3 ∧ 1 ≤ w ∧ w ≤ 8 ∧ Val o w xs z ∧ ∀ H', Same H H' → Q (.int z) H'
/-- the same, the words in a tuple -/
def spRes0 : Sp := fun vs H Q _ => ∃ (o : Str) (p : Addr) (w z : Int) (xs : List Int), vs = [.str o, .int w, .ref p] ∧ H p = some (.tup (xs.map V.int)) ∧ 1 ≤ w ∧ w ≤ 8 ∧ Val o w xs z ∧ ∀ H', Same H H' → Q (.int z) H'
theorem body_result {A : Around} {outer : List Env} {s : Shared} {f : Addr} {cdv : Value} {H : Hp} {vs : List V} {Q : VK} {E : XK} (c__of_one : Cal P w K mg base "_of_one" 1 spOne) (c__related : Cal P w K mg base "_related" 1 spRel) (c__of_two : Cal P w K mg base "_of_two" 2 spTwo) (T : TWord K mg aR)
    (hr : Room 2 (A.deeper (envOfC "result" (defScope s_result) s.heap.objs.size f cdv))) (h : spRes0 vs H Q E) :
    ∃ t, PSs (cxOf CX0 P w K mg base ["op", "width", "words", "choice", "left", "right"] "result" (defScope s_result) f cdv A outer s H E).nox (defBody s_result) t ∧ t { nx := fun _ H' => Q .non H', rt := Q } (start ["op", "width", "words", "choice", "left", "right"] vs) H := by
  obtain ⟨o, p, w, z, xs, rfl, hp, w1, w8, v, q⟩ := h
  have hRel := T.q_RELATIONS H
  refine ⟨_, 
      (pss_cons (ps_if (pt_cmpR op_eq (pv 0) pe_str (nomark _)) 
       (pss_cons (ps_asg (pv 2) (pg_tup (by rfl) (pgs_cons (pg_name (i := 3) sc_result.nd rfl (Or.inl rfl)) (pgs_cons (pg_name (i := 4) sc_result.nd rfl (Or.inl rfl)) (pgs_cons (pg_name (i := 5) sc_result.nd rfl (Or.inl rfl)) pgs_nil)))))
       (pss_one (ps_ret (pe_ifExp (pt_cmpR op_eq (pv 3) pe_int (nomark _)) (pv 4) (pv 5))))) pss_nil)
      (pss_cons (ps_if (pt_cmpR op_eq (pe_callB call_len_seq (by rfl) T.z_len (by decide +kernel) (pa_cons (pv 2) pa_nil)) pe_int (nomark _)) 
       (pss_one (ps_ret (pe_op op_and (Zn.pe_cal c__of_one (hr.mono (by decide)) (by rfl) (pa_cons (pv 0) (pa_cons (pe_ix (r := rIxT K) ix_tup (pv 2) pe_int (fun _ _ => rfl)) pa_nil))) (pe_op op_sub (pe_op op_shl pe_int (pv 1)) pe_int)))) pss_nil)
      (pss_cons (ps_asg (pv 2) (pg_tup (by rfl) (pgs_cons (pg_name (i := 4) sc_result.nd rfl (Or.inl rfl)) (pgs_cons (pg_name (i := 5) sc_result.nd rfl (Or.inl rfl)) pgs_nil))))
      (pss_cons (ps_if (pt_cmpR (r := rIn K false) op_in_seq (pv 0) (pe_glob (by rfl) T.g_RELATIONS T.r_RELATIONS) (by rfl)) 
       (pss_one (ps_ret (pe_ifExp (pt_val (Zn.pe_cal c__related (hr.mono (by decide)) (by rfl) (pa_cons (pv 0) (pa_cons (pv 4) (pa_cons (pv 5) pa_nil))))) pe_int pe_int))) pss_nil)
      (pss_one (ps_ret (pe_op op_and (Zn.pe_cal c__of_two (hr.mono (by decide)) (by rfl) (pa_cons (pv 0) (pa_cons (pv 1) (pa_cons (pv 4) (pa_cons (pv 5) pa_nil))))) (pe_op op_sub (pe_op op_shl pe_int (pv 1)) pe_int)))))))), ?_⟩
  have hc : CPow 1 w := ⟨by omega, by omega, by decide⟩
  have v' := v
  cases v with
  | not =>
    have hp : H p = some (.tup [.int _]) := hp
    walk_at "rd"
    refine ⟨_, _, _, w, rfl, .inl rfl, .not, fun u e => ?_⟩
    walk_at "rd"
    show Q (.int (mask w u)) H
    rw [e]
    exact q _ (Same.refl _)
  | neg =>
    have hp : H p = some (.tup [.int _]) := hp
    walk_at "rd"
    refine ⟨_, _, _, w, rfl, .inr (.inl rfl), .neg, fun u e => ?_⟩
    walk_at "rd"
    show Q (.int (mask w u)) H
    rw [e]
    exact q _ (Same.refl _)
  | wide =>
    have hp : H p = some (.tup [.int _]) := hp
    walk_at "rd"
    refine ⟨_, _, _, w, rfl, .inr (.inr rfl), .wide, fun u e => ?_⟩
    walk_at "rd"
    show Q (.int (mask w u)) H
    rw [e]
    exact q _ (Same.refl _)
  | pick1 =>
    have hp : H p = some (.tup [.int 1, .int _, .int _]) := hp
    walk_at "rd"
    exact q _ (Same.refl _)
  | pick0 =>
    have hp : H p = some (.tup [.int 0, .int _, .int _]) := hp
    walk_at "rd"
    exact q _ (Same.refl _)
  | _ =>
    have hp : H p = some (.tup [.int _, .int _]) := hp
    walk_at "rd"
    first
      | (refine ⟨_, _, _, _, w, rfl, by decide +kernel, v', fun u H' s e => ?_⟩
         walk_at "rd"
         show Q (.int (mask w u)) H'
         rw [e]
         exact q _ (.trans (by walk_at "sm") s))
      | (refine ⟨_, _, _, _, w, rfl, by decide +kernel, v', fun b e => ?_⟩
         cases b
         · walk_at "rd"
           rw [← e] at q
           exact q _ (by walk_at "sm")
         · walk_at "rd"
           rw [← e] at q
           exact q _ (by walk_at "sm"))
theorem cal_result {f : Addr} {fd : FuncData} (F : Fun K "result" "result" s_result f fd) (hm : mg "result" = some (.ref f)) (c__of_one : Cal P w K mg base "_of_one" 1 spOne) (c__related : Cal P w K mg base "_related" 1 spRel) (c__of_two : Cal P w K mg base "_of_two" 2 spTwo) (T : TWord K mg aR) :
    Cal P w K mg base "result" 3 spRes := by
  refine ⟨f, hm, ?_, F.kp⟩
  obtain ⟨oc, od, kV, doc, pm, an, cdv, ct, osl, rfl, lk, hcd⟩ := F.ex
  have G := StX.fn_star (P := P) (w := w) (mg := mg) (base := base) (k := 2) (ps := ["op", "width"]) (pv := "words") (CX := CX0) (sp := spRes0) lk hcd sc_result (StX.cxUp_none) (StX.bind_star2 (B := fun l => bindArgs (PySem.W.fnOf "result" "result" (defArgs s_result) (defBody s_result) (defScope s_result) .none kV doc pm an cdv ct) ⟨l, []⟩) (p1 := "op") (p2 := "width") (pv := "words") (fun _ _ => rfl) (fun _ _ _ _ => rfl)) (fun A outer s H vs Q E hr h => by
    obtain ⟨t, h1, h2⟩ := body_result (P := P) (w := w) (mg := mg) (base := base) c__of_one c__related c__of_two T hr h
    exact ⟨t, h1.nox, h2⟩)
  refine G.imp fun vs H Q E h => ?_
  obtain ⟨o, wd, z, xs, rfl, hl, w1, w8, v, q⟩ := h
  refine ⟨[.str o, .int wd], xs.map V.int, rfl, rfl, len_ok (by rw [List.length_map]; omega), fun p hp => ?_⟩
  exact ⟨o, p, wd, z, xs, rfl, upd_same, w1, w8, v, fun H' s => q H' (.trans (same_new hp) s)⟩
end
end Zn
local macro_rules | `(tactic| walk_at "gr") => `(tactic| first | exact rfl | assumption | (simp only [List.getElem?_cons_zero, List.getElem?_cons_succ, List.set_cons_zero, List.set_cons_succ]; done))
local macro_rules | `(tactic| walk_at "gl") => `(tactic| first | assumption | decide | omega | (simp only [List.length_cons, List.length_nil, List.length_append, List.length_map, List.length_take, List.length_drop, List.length_reverse, List.length_dropLast]; omega))
local macro_rules | `(tactic| walk_at "gs1") => `(tactic| ((with_reducible refine Zn.v_draw ?h1 ?h2 ?_); (case h1 => first | omega | decide); (case h2 => first | omega | decide)))
local macro_rules | `(tactic| walk_at "gs1") => `(tactic| ((with_reducible refine Zn.v_isNf ?h ?_); (case h => first | (intro _ z; cases z; done))))
local macro_rules | `(tactic| walk_at "gs1") => `(tactic| ((with_reducible refine Zn.v_isNt ?h ?_); (case h => first | (intro _ z; cases z; done))))
local macro_rules | `(tactic| walk_at "gs1") => `(tactic| ((with_reducible refine Zn.v_catL ?l ?_); (case l => walk_at "gl")))
local macro_rules | `(tactic| walk_at "gs1") => `(tactic| ((with_reducible refine Zn.v_cat ?l ?_); (case l => walk_at "gl")))
local macro_rules | `(tactic| walk_at "gs1") => `(tactic| ((with_reducible refine' Zn.v_sq ?e ?_); (case e => exact rfl)))
local macro_rules | `(tactic| walk_at "gs1") => `(tactic| ((with_reducible refine Zn.v_bd ?h ?_); (case h => first | exact ⟨by omega, by omega, by omega, by omega⟩ | decide)))
local macro_rules | `(tactic| walk_at "gs1") => `(tactic| ((with_reducible refine Zn.v_62 ?h1 ?h2 ?_); (case h1 => first | omega | decide); (case h2 => first | omega | decide)))
local macro_rules | `(tactic| walk_at "gs1") => `(tactic| ((with_reducible refine Zn.v_rg2b ?h ?_); (case h => first | exact ⟨by omega, by omega, by omega, by omega⟩ | decide)))
local macro_rules | `(tactic| walk_at "gs1") => `(tactic| ((with_reducible refine Zn.v_rg1b ?h1 ?h2 ?_); (case h1 => first | omega | decide); (case h2 => first | omega | decide)))
local macro_rules | `(tactic| walk_at "gs1") => `(tactic| ((with_reducible refine' Zn.v_ixL ?e ?_); (case e => exact rfl)))
local macro_rules | `(tactic| walk_at "gs1") => `(tactic| ((with_reducible refine' Zn.v_ixT ?e ?_); (case e => exact rfl)))
local macro_rules | `(tactic| walk_at "gs1") => `(tactic| ((with_reducible refine' Zn.v_tupd ?l ?_); (case l => exact rfl)))
local macro_rules | `(tactic| walk_at "gs1") => `(tactic| ((with_reducible refine' Zn.v_popA ?h ?_); (case h => exact rfl)))
local macro_rules | `(tactic| walk_at "gs1") => `(tactic| ((with_reducible refine' Zn.v_ext2 ?h ?l ?_); (case h => exact rfl); (case l => walk_at "gl")))
local macro_rules | `(tactic| walk_at "gs1") => `(tactic| ((with_reducible refine' Zn.v_ext ?h ?_); (case h => exact rfl)))
local macro_rules | `(tactic| walk_at "gs1") => `(tactic| ((with_reducible refine' Zn.v_app2 ?h ?l ?_); (case h => exact rfl); (case l => walk_at "gl")))
local macro_rules | `(tactic| walk_at "gs1") => `(tactic| ((with_reducible refine' Zn.v_app ?h ?_); (case h => exact rfl)))
local macro_rules | `(tactic| walk_at "gs1") => `(tactic| ((with_reducible refine' Zn.v_ixO2 ?h ?e ?_); (case h => exact rfl); (case e => exact rfl)))
local macro_rules | `(tactic| walk_at "gs1") => `(tactic| ((with_reducible refine' Zn.v_ixO ?h ?_); (case h => exact rfl)))
local macro_rules | `(tactic| walk_at "gs1") => `(tactic| ((with_reducible refine' Zn.v_aug ?h ?_); (case h => exact rfl)))
local macro_rules | `(tactic| walk_at "gs1") => `(tactic| ((with_reducible refine Zn.v_2 ?hc ?_); (case hc => first | assumption | exact Zn.pow2_pos _ | omega | decide | exact Zn.mulR (by decide) (by decide) | exact Zn.mulL (by decide) (by decide) | exact ⟨by decide, by decide⟩ | exact ⟨by decide, by decide, by decide⟩ | exact Zn.mulR (by omega) (by omega) | exact Zn.mulL (by omega) (by omega) | exact ⟨by omega, by omega⟩ | exact ⟨by omega, by omega, by omega⟩)))
local macro_rules | `(tactic| walk_at "gs1") => `(tactic| ((with_reducible refine Zn.v_al ?h ?_); (case h => walk_at "gl")))
local macro_rules | `(tactic| walk_at "gs1") => `(tactic| ((with_reducible refine' Zn.v_clst ?e ?_); (case e => exact rfl)))
local macro_rules | `(tactic| walk_at "gs1") => `(tactic| ((with_reducible refine' Zn.v_ctup ?e ?_); (case e => exact rfl)))
local macro_rules | `(tactic| walk_at "gs1") => `(tactic| ((with_reducible refine' Zn.v_len ?e ?_); (case e => exact rfl)))
local macro_rules | `(tactic| walk_at "gs1") => `(tactic| ((with_reducible refine' Zn.v_isiF ?e1 ?e2 ?_); (case e1 => exact rfl); (case e2 => decide +kernel)))
local macro_rules | `(tactic| walk_at "gs1") => `(tactic| ((with_reducible refine' Zn.v_isiT ?e1 ?e2 ?_); (case e1 => exact rfl); (case e2 => decide +kernel)))
local macro_rules | `(tactic| walk_at "gs1") => `(tactic| ((with_reducible refine' Zn.v_trb ?e ?_); (case e => exact rfl)))
local macro_rules | `(tactic| walk_at "gs1") => `(tactic| (with_reducible refine Zn.v_gh ?_))
local macro_rules | `(tactic| walk_at "gs1") => `(tactic| (with_reducible refine Zn.v_parO ?_))
local macro_rules | `(tactic| walk_at "gs1") => `(tactic| (with_reducible refine Zn.v_par ?_))
local macro_rules | `(tactic| walk_at "gs1") => `(tactic| (with_reducible refine Zn.v_un ?_))
local macro_rules | `(tactic| walk_at "gs1") => `(tactic| (with_reducible refine Zn.v_chain ?_))
local macro_rules | `(tactic| walk_at "gs1") => `(tactic| (with_reducible refine Zn.v_isi ?_))
local macro_rules | `(tactic| walk_at "gs1") => `(tactic| (with_reducible refine Zn.v_tru ?_))
local macro_rules | `(tactic| walk_at "gs1") => `(tactic| (with_reducible refine Zn.v_lc ?_))
local macro_rules | `(tactic| walk_at "gs1") => `(tactic| (with_reducible refine Zn.v_star ?_))
local macro_rules | `(tactic| walk_at "gs1") => `(tactic| (with_reducible refine Zn.v_part ?_))
local macro_rules | `(tactic| walk_at "gs1") => `(tactic| (with_reducible refine Zn.v_noP ?_))
local macro_rules | `(tactic| walk_at "gs1") => `(tactic| (with_reducible refine Zn.v_slL ?_))
local macro_rules | `(tactic| walk_at "gs1") => `(tactic| (with_reducible refine Zn.v_slT ?_))
local macro_rules | `(tactic| walk_at "gs1") => `(tactic| (with_reducible refine Zn.v_rgT ?_))
local macro_rules | `(tactic| walk_at "gs1") => `(tactic| (with_reducible refine Zn.v_rg2 ?_))
local macro_rules | `(tactic| walk_at "gs1") => `(tactic| (with_reducible refine Zn.v_rg1 ?_))
local macro_rules | `(tactic| walk_at "gs1") => `(tactic| (with_reducible refine Zn.v_et ?_))
local macro_rules | `(tactic| walk_at "gs1") => `(tactic| (with_reducible refine Zn.v_el ?_))
local macro_rules | `(tactic| walk_at "gs1") => `(tactic| (with_reducible refine Zn.v_ks ?_))
local macro_rules | `(tactic| walk_at "gs1") => `(tactic| (with_reducible refine Zn.v_ki ?_))
local macro_rules | `(tactic| walk_at "gs1") => `(tactic| (with_reducible refine Zn.v_dk ?_))
local macro_rules | `(tactic| walk_at "gs1") => `(tactic| ((with_reducible refine' Zn.v_dzS ?h ?_); (case h => exact rfl)))
local macro_rules | `(tactic| walk_at "gs1") => `(tactic| ((with_reducible refine' Zn.v_dzI ?h ?_); (case h => exact rfl)))
local macro_rules | `(tactic| walk_at "gs1") => `(tactic| ((with_reducible refine' Zn.v_putS ?h ?l ?_); (case h => exact rfl); (case l => walk_at "gl")))
local macro_rules | `(tactic| walk_at "gs1") => `(tactic| ((with_reducible refine' Zn.v_putI ?h ?l ?_); (case h => exact rfl); (case l => walk_at "gl")))
local macro_rules | `(tactic| walk_at "gs1") => `(tactic| ((with_reducible refine' Zn.v_idxO ?h ?_); (case h => exact rfl)))
local macro_rules | `(tactic| walk_at "gs1") => `(tactic| ((with_reducible refine' Zn.v_items ?h ?_); (case h => exact rfl)))
local macro_rules | `(tactic| walk_at "gs1") => `(tactic| ((with_reducible refine' Zn.v_dgetZ ?h ?_); (case h => exact rfl)))
local macro_rules | `(tactic| walk_at "gs1") => `(tactic| ((with_reducible refine' Zn.v_dgetO ?h ?_); (case h => exact rfl)))
local macro_rules | `(tactic| walk_at "gs1") => `(tactic| ((with_reducible refine' Zn.v_andD ?h ?_); (case h => exact rfl)))
local macro_rules | `(tactic| walk_at "gs1") => `(tactic| ((with_reducible refine' Zn.v_andO ?h ?_); (case h => exact rfl)))
local macro_rules | `(tactic| walk_at "gs1") => `(tactic| ((with_reducible refine' Zn.v_mown ?h ?_); (case h => exact rfl)))
local macro_rules | `(tactic| walk_at "gs1") => `(tactic| ((with_reducible refine' Zn.v_mhere ?h ?_); (case h => exact rfl)))
local macro_rules | `(tactic| walk_at "gs1") => `(tactic| (with_reducible refine Zn.v_ucDict ?_))
local macro_rules | `(tactic| walk_at "gs1") => `(tactic| (with_reducible refine Zn.v_rgLD ?_))
local macro_rules | `(tactic| walk_at "gs1") => `(tactic| (with_reducible refine Zn.v_mcons ?_))
local macro_rules | `(tactic| walk_at "gs1") => `(tactic| (with_reducible refine Zn.v_calM ?_))
local macro_rules | `(tactic| walk_at "gs1") => `(tactic| (with_reducible refine Zn.v_dinS ?_))
local macro_rules | `(tactic| walk_at "gs1") => `(tactic| (with_reducible refine Zn.v_dinI ?_))
local macro_rules | `(tactic| walk_at "gs1") => `(tactic| (with_reducible refine Zn.v_dkv ?_))
local macro_rules | `(tactic| walk_at "gs1") => `(tactic| (with_reducible refine Zn.v_din ?_))
local macro_rules | `(tactic| walk_at "gs1") => `(tactic| (with_reducible refine Zn.v_dget ?_))
local macro_rules | `(tactic| walk_at "gs1") => `(tactic| (with_reducible refine Zn.v_putD ?_))
local macro_rules | `(tactic| walk_at "gs1") => `(tactic| (with_reducible refine Zn.v_disp1 ?_))
local macro_rules | `(tactic| walk_at "gs1") => `(tactic| (with_reducible refine Zn.v_pscons ?_))
local macro_rules | `(tactic| walk_at "gs1") => `(tactic| (with_reducible refine Zn.v_psnil ?_))
local macro_rules | `(tactic| walk_at "gs1") => `(tactic| (with_reducible refine Zn.v_disp ?_))
local macro_rules | `(tactic| walk_at "gs1") => `(tactic| (with_reducible refine Zn.v_dnew ?_))
local macro_rules | `(tactic| walk_at "gs1") => `(tactic| (with_reducible refine Zn.v_idx ?_))
local macro_rules | `(tactic| walk_at "gs1") => `(tactic| (with_reducible refine Zn.v_dget2 ?_))
local macro_rules | `(tactic| walk_at "gs1") => `(tactic| ((with_reducible refine' Zn.v_mB2 ?h ?_); (case h => exact rfl)))
local macro_rules | `(tactic| walk_at "gs1") => `(tactic| ((with_reducible refine' Zn.v_mB1 ?h ?_); (case h => exact rfl)))
local macro_rules | `(tactic| walk_at "gs1") => `(tactic| ((with_reducible refine' Zn.v_mF2 ?h ?_); (case h => exact rfl)))
local macro_rules | `(tactic| walk_at "gs1") => `(tactic| ((with_reducible refine' Zn.v_mF1 ?h ?_); (case h => exact rfl)))
local macro_rules | `(tactic| walk_at "gs1") => `(tactic| (with_reducible refine Zn.v_itLT ?_))
local macro_rules | `(tactic| walk_at "gs1") => `(tactic| ((with_reducible refine' Zn.v_extT2 ?h ?l ?_); (case h => exact rfl); (case l => walk_at "gl")))
local macro_rules | `(tactic| walk_at "gs1") => `(tactic| ((with_reducible refine' Zn.v_extT ?h ?_); (case h => exact rfl)))
local macro_rules | `(tactic| walk_at "gs1") => `(tactic| (with_reducible refine Zn.v_itET ?_))
local macro_rules | `(tactic| walk_at "gs1") => `(tactic| (with_reducible refine Zn.v_itZ ?_))
local macro_rules | `(tactic| walk_at "gs1") => `(tactic| (with_reducible refine Zn.v_itE ?_))
local macro_rules | `(tactic| walk_at "gs1") => `(tactic| (with_reducible refine Zn.v_itR ?_))
local macro_rules | `(tactic| walk_at "gs1") => `(tactic| (with_reducible refine Zn.v_itT ?_))
local macro_rules | `(tactic| walk_at "gs1") => `(tactic| (with_reducible refine Zn.v_it ?_))
local macro_rules | `(tactic| walk_at "gs1") => `(tactic| (with_reducible refine Zn.v_for ?_))
local macro_rules | `(tactic| walk_at "gs1") => `(tactic| (with_reducible refine Zn.v_vnil ?_))
local macro_rules | `(tactic| walk_at "gs1") => `(tactic| (with_reducible refine Zn.v_vcons ?_))
local macro_rules | `(tactic| walk_at "gs1") => `(tactic| (with_reducible refine Zn.v_nm ?_))
local macro_rules | `(tactic| walk_at "gs1") => `(tactic| (with_reducible refine Zn.v_asg ?_))
local macro_rules | `(tactic| walk_at "gs1") => `(tactic| (with_reducible refine Zn.v_two ?_))
local macro_rules | `(tactic| walk_at "gs1") => `(tactic| (with_reducible refine Zn.v_c2 ?_))
local macro_rules | `(tactic| walk_at "gs1") => `(tactic| (with_reducible refine Zn.v_abs ?_))
local macro_rules | `(tactic| walk_at "gs1") => `(tactic| (with_reducible refine Zn.v_intB ?_))
local macro_rules | `(tactic| walk_at "gs1") => `(tactic| (with_reducible refine Zn.v_intI ?_))
local macro_rules | `(tactic| walk_at "gs1") => `(tactic| ((with_reducible refine' Zn.v_consB2 ?h ?_); (case h => exact rfl)))
local macro_rules | `(tactic| walk_at "gs1") => `(tactic| ((with_reducible refine' Zn.v_consB ?h ?_); (case h => exact rfl)))
local macro_rules | `(tactic| walk_at "gs1") => `(tactic| (with_reducible refine Zn.v_calB ?_))
local macro_rules | `(tactic| walk_at "gs1") => `(tactic| (with_reducible refine Zn.v_1 ?_))
local macro_rules | `(tactic| walk_at "gs1") => `(tactic| (with_reducible refine Zn.v_cal ?_))
local macro_rules | `(tactic| walk_at "gs1") => `(tactic| (with_reducible refine Zn.v_tup ?_))
local macro_rules | `(tactic| walk_at "gs1") => `(tactic| (with_reducible refine Zn.v_lst ?_))
local macro_rules | `(tactic| walk_at "gs1") => `(tactic| (with_reducible refine Zn.v_cons ?_))
local macro_rules | `(tactic| walk_at "gs1") => `(tactic| (with_reducible refine Zn.v_nil ?_))
local macro_rules | `(tactic| walk_at "gs1") => `(tactic| (with_reducible refine Zn.v_iteNT ?_))
local macro_rules | `(tactic| walk_at "gs1") => `(tactic| (with_reducible refine Zn.v_iteNE0 ?_))
local macro_rules | `(tactic| walk_at "gs1") => `(tactic| (with_reducible refine Zn.v_iteNE ?_))
local macro_rules | `(tactic| walk_at "gs1") => `(tactic| (with_reducible refine Zn.v_iteE0 ?_))
local macro_rules | `(tactic| walk_at "gs1") => `(tactic| (with_reducible refine Zn.v_iteE ?_))
local macro_rules | `(tactic| walk_at "gs1") => `(tactic| (with_reducible refine Zn.v_iteNN ?_))
local macro_rules | `(tactic| walk_at "gs1") => `(tactic| (with_reducible refine Zn.v_iteNF ?_))
local macro_rules | `(tactic| walk_at "gs1") => `(tactic| (with_reducible refine Zn.v_iteNFg ?_))
local macro_rules | `(tactic| walk_at "gs1") => `(tactic| (with_reducible refine Zn.v_iteNTg ?_))
local macro_rules | `(tactic| walk_at "gs1") => `(tactic| (with_reducible refine Zn.v_iteFg ?_))
local macro_rules | `(tactic| walk_at "gs1") => `(tactic| (with_reducible refine Zn.v_iteTg ?_))
local macro_rules | `(tactic| walk_at "gs1") => `(tactic| (with_reducible refine Zn.v_iteF ?_))
local macro_rules | `(tactic| walk_at "gs1") => `(tactic| (with_reducible refine Zn.v_iteT ?_))
local macro_rules | `(tactic| walk_at "gs1") => `(tactic| (with_reducible refine Zn.v_if ?_))
local macro_rules | `(tactic| walk_at "gs1") => `(tactic| (with_reducible refine Zn.v_notV ?_))
local macro_rules | `(tactic| walk_at "gs1") => `(tactic| (with_reducible refine Zn.v_orV ?_))
local macro_rules | `(tactic| walk_at "gs1") => `(tactic| (with_reducible refine Zn.v_andV ?_))
local macro_rules | `(tactic| walk_at "gs1") => `(tactic| (with_reducible refine Zn.v_or ?_))
local macro_rules | `(tactic| walk_at "gs1") => `(tactic| (with_reducible refine Zn.v_and ?_))
local macro_rules | `(tactic| walk_at "gs1") => `(tactic| (with_reducible refine Zn.v_not ?_))
local macro_rules | `(tactic| walk_at "gs1") => `(tactic| (with_reducible refine Zn.v_int ?_))
local macro_rules | `(tactic| walk_at "gs1") => `(tactic| (with_reducible refine Zn.v_bl ?_))
local macro_rules | `(tactic| walk_at "gs1") => `(tactic| (with_reducible refine Zn.v_test ?_))
local macro_rules | `(tactic| walk_at "gs1") => `(tactic| (with_reducible refine Zn.v_2B ?_))
local macro_rules | `(tactic| walk_at "gs1") => `(tactic| (with_reducible refine Zn.v_2S ?_))
local macro_rules | `(tactic| walk_at "gs1") => `(tactic| (with_reducible refine Zn.v_20 ?_))
local macro_rules | `(tactic| walk_at "gs1") => `(tactic| (with_reducible refine Zn.v_c ?_))
local macro_rules | `(tactic| walk_at "gs1") => `(tactic| ((with_reducible refine' Zn.v_bor ?hv ?_); (case hv => exact rfl)))
local macro_rules | `(tactic| walk_at "gs1") => `(tactic| ((with_reducible refine' Zn.v_frz ?hv ?_); (case hv => exact rfl)))
local macro_rules | `(tactic| walk_at "gs1") => `(tactic| ((with_reducible refine' Zn.v_var ?hv ?_); (case hv => exact rfl)))
local macro_rules | `(tactic| walk_at "gs1") => `(tactic| (with_reducible refine Zn.v_op ?_))
local macro_rules | `(tactic| walk_at "gs1") => `(tactic| (with_reducible refine Zn.v_ifs ?_))
local macro_rules | `(tactic| walk_at "gs1") => `(tactic| (with_reducible refine Zn.v_drop ?_))
local macro_rules | `(tactic| walk_at "gs1") => `(tactic| (with_reducible refine Zn.v_ret ?_))
local macro_rules | `(tactic| walk_at "gs1") => `(tactic| (with_reducible refine Zn.v_setO ?_))
local macro_rules | `(tactic| walk_at "gs1") => `(tactic| ((with_reducible refine Zn.v_rg3b ?h ?_); (case h => first | exact ⟨by omega, by omega, by omega, by omega⟩ | decide)))
local macro_rules | `(tactic| walk_at "gs1") => `(tactic| (with_reducible refine Zn.v_rg3 ?_))
local macro_rules | `(tactic| walk_at "gs1") => `(tactic| (with_reducible refine Zn.v_calBN ?_))
local macro_rules | `(tactic| walk_at "gs1") => `(tactic| (with_reducible refine Zn.v_asgT ?_))
local macro_rules | `(tactic| walk_at "gs1") => `(tactic| ((with_reducible refine' Zn.v_retT2 ?h ?l ?_); (case h => exact rfl); (case l => decide)))
local macro_rules | `(tactic| walk_at "gs1") => `(tactic| ((with_reducible refine' Zn.v_retT ?h ?_); (case h => exact rfl)))
local macro_rules | `(tactic| walk_at "gs1") => `(tactic| ((with_reducible refine' Zn.v_retN ?h ?_); (case h => exact rfl)))
local macro_rules | `(tactic| walk_at "gs1") => `(tactic| (with_reducible refine Zn.v_seqT ?_))
local macro_rules | `(tactic| walk_at "gs1") => `(tactic| (with_reducible refine Zn.v_seqN ?_))
local macro_rules | `(tactic| walk_at "gs1") => `(tactic| (with_reducible refine Zn.v_set ?_))
local macro_rules | `(tactic| walk_at "gs1") => `(tactic| (with_reducible refine Zn.v_seq ?_))
local macro_rules | `(tactic| walk_at "gd") => `(tactic| (try dsimp only [Zn.ends0, Zn.nxOnly, List.set_cons_zero, List.set_cons_succ, Zn.wipeG, Zn.mergeG, Zn.mg1, Zn.isN, Bool.not_true, Bool.not_false, List.getElem?_cons_zero, List.getElem?_cons_succ, List.map_cons, List.map_nil, List.length_cons, List.length_nil]))
local macro_rules | `(tactic| walk_at "gs") => `(tactic| ((walk_at "gd"); (repeat ((walk_at "gs1"); (walk_at "gd")))))
local macro_rules | `(tactic| walk_at "gt") => `(tactic| ((walk_at "gd"); (repeat ((fail_if_success (with_reducible refine Zn.v_seq ?_)); (walk_at "gs1"); (walk_at "gd")))))
local macro_rules | `(tactic| walk_at "g0") => `(tactic| simp only [Zn.startR, Zn.ends0, Zn.startM, Zn.endsM, List.map_cons, List.map_nil, List.length_cons, List.length_nil, List.cons_append, List.nil_append, Nat.reduceAdd, Nat.reduceSub, List.reduceReplicate, List.replicate_succ, List.replicate_zero])
local macro_rules | `(tactic| walk_at "gz") => `(tactic| ((walk_at "gd"); (repeat ((first | (walk_at "gs1") | (with_reducible refine Zn.v_ps0 ?_) | (with_reducible refine Zn.v_px0 ?_) | (with_reducible refine Zn.v_pt0 ?_)); (walk_at "gd")))))
local macro_rules | `(tactic| walk_at "gl0") => `(tactic| simp only [Zn.startL, List.length_cons, List.length_nil, Nat.reduceAdd, Nat.reduceSub, List.replicate_succ, List.replicate_zero, List.reduceReplicate])
namespace Zn
open PySem PySem.Spec PyProof.Rows L2 TL
theorem v_dcT {p : Prop} {d : Decidable p} {A C : Prop} {i : Decidable (@decide p d = true)} (h : p) (q : A) : @ite Prop (@decide p d = true) i A C := by
  rw [if_pos (@decide_eq_true p d h)]
  exact q
theorem v_dcF {p : Prop} {d : Decidable p} {A C : Prop} {i : Decidable (@decide p d = true)} (h : ¬p) (q : C) : @ite Prop (@decide p d = true) i A C := by
  rw [if_neg (by rw [@decide_eq_false p d h]; decide)]
  exact q
theorem v_ndcT {p : Prop} {d : Decidable p} {A C : Prop} {i : Decidable ((!@decide p d) = true)} (h : p) (q : C) : @ite Prop ((!@decide p d) = true) i A C := by
  rw [if_neg (by rw [@decide_eq_true p d h]; decide)]
  exact q
theorem v_ndcF {p : Prop} {d : Decidable p} {A C : Prop} {i : Decidable ((!@decide p d) = true)} (h : ¬p) (q : A) : @ite Prop ((!@decide p d) = true) i A C := by
  rw [if_pos (by rw [@decide_eq_false p d h]; decide)]
  exact q
/-- [x] * n -/
theorem v_rep1 {x : G} {k : Int} {Q : G → Prop} (h : 0 ≤ k ∧ k ≤ 1000) (q : Q (.lst (List.replicate k.toNat x))) : u2Rep (.lst [x]) (.int k) Q :=
  ⟨[x], k, rfl, rfl, by omega, by omega, by rw [List.length_singleton]; omega, by rw [List.flatten_replicate_singleton]; exact q⟩
theorem getDG {r : List Int} {n : Nat} (h : n < r.length) : (r.map G.int)[n]? = some (.int (r.getD n 0)) := by
  rw [List.getElem?_map, List.getD_eq_getElem?_getD, List.getElem?_eq_getElem h]
  rfl
theorem v_ixLD {r : List Int} {n : Nat} {Q : G → Prop} (h : n < r.length) (q : Q (.int (r.getD n 0))) : u2IxL (.lst (r.map G.int)) (.int (n : Int)) Q := v_ixL (atG (j := n) rfl (getDG h)) q
theorem rgG_at {n k : Nat} (h : k < n) : (rgG 0 n)[k]? = some (.int (k : Int)) := by
  unfold rgG
  rw [List.getElem?_map, List.getElem?_range h]
  show some (G.int (0 + (k : Int))) = _
  rw [Int.zero_add]
theorem cutG_fr {xs : List G} (n : Nat) : cutG xs (some (n : Int)) none = xs.drop n := by
  unfold cutG
  rw [HT.sIx_nat]
  show (xs.drop (min n xs.length)).take (xs.length - min n xs.length) = _
  by_cases h : n ≤ xs.length
  · rw [Nat.min_eq_left h, List.take_of_length_le (by rw [List.length_drop]; omega)]
  · rw [Nat.min_eq_right (by omega), List.drop_of_length_le (Nat.le_refl _), List.drop_of_length_le (by omega), List.take_nil]
theorem cutG_up {xs : List G} (n : Nat) : cutG xs none (some (n : Int)) = xs.take n := by
  unfold cutG
  rw [HT.sIx_nat]
  show (xs.drop 0).take (min n xs.length - 0) = _
  rw [List.drop_zero, Nat.sub_zero]
  by_cases h : n ≤ xs.length
  · rw [Nat.min_eq_left h]
  · rw [Nat.min_eq_right (by omega), List.take_of_length_le (Nat.le_refl _), List.take_of_length_le (by omega)]
theorem any_of_none {kvs : Kv} {k : L2.Key} (h : getD kvs k = none) : (kvs.any fun kv => decide (kv.1 = k)) = false := by
  unfold getD at h
  rw [Option.map_eq_none_iff, List.find?_eq_none] at h
  rw [List.any_eq_false]
  exact fun x hx => h x hx
theorem putD_new {kvs : Kv} {k : L2.Key} {g : G} (h : getD kvs k = none) : putD kvs k g = kvs ++ [(k, g)] := by
  unfold putD
  rw [any_of_none h, if_neg Bool.false_ne_true]
theorem getD_app {kvs : Kv} {k k' : L2.Key} {g : G} : getD (kvs ++ [(k, g)]) k' = (getD kvs k').or (if k = k' then some g else none) := by
  unfold getD
  rw [List.find?_append, List.find?_singleton]
  cases kvs.find? fun kv => decide (kv.1 = k') with
  | some x => rfl
  | none => by_cases e : k = k' <;> simp [e]
section
variable {X : Cx} {K : PySem.W.Frag} {a : Expr} {ta : TE} {ua : UE} {pos : Pos}
theorem gip_mul : GIp X .Mult (rI CMul fun i j => .int (i * j)) (u2 CMul fun i j => .int (i * j)) := ⟨iop_mul, fun W S H g1 g2 v1 v2 Φ Q r1 r2 ⟨i, j, e1, e2, hc, q⟩ k => by
  subst e1
  subst e2
  exact ⟨i, j, r1, r2, hc, k _ _ q rfl⟩⟩
def ucAnyI : G → (G → Prop) → Prop := fun g Φ => ∃ ns : List Int, g = .lst (ns.map G.int) ∧ Φ (.bl (ns.any (· != 0)))
theorem gc_anyI (hc : X.calm = true) : GC X (.builtin "any") (rAnyI X.K) ucAnyI := ⟨cr_anyI hc, fun W S H g v Φ Q hk r ⟨ns, e, q⟩ k => by
  subst e
  obtain ⟨p, vs, rfl, h1, h2⟩ := r.lst
  cases h2.ints
  exact ⟨p, ns, rfl, sl_of h1, k _ _ H q (.refl _) rfl⟩⟩
theorem k_anyI (K : PySem.W.Frag) {p : Pos} (hc : X.calm = true) (hg : Gl X "any") (hm : X.mg "any" = none) (ha : GB X a ta ua) (he : starEach [a] X.env = (false, eval a X.env) :: starEach [] X.env := by rfl) (hk : X.K = K := by rfl) : GE X (.Call (.Name "any" p) [a] [] pos) (tCB (rAnyI K) (tCons ta tNil)) (u1 ucAnyI ua) := by
  subst hk
  exact ge_call1 (gc_anyI hc) hg hm (by decide +kernel) ha (by decide) (by decide) he
theorem v_anyI {ns : List Int} {Q : G → Prop} (q : Q (.bl (ns.any (· != 0)))) : ucAnyI (.lst (ns.map G.int)) Q := ⟨ns, rfl, q⟩
end
theorem v_subO {i : Nat} {ui : UE} {y : G} {ρ : RS} {Φ : RS → Prop} {f : Bool} {g : G} (h : ρ[i]? = some (.ow f g)) (q : ui ρ fun ρ1 z => ∃ f gs k j, ρ1[i]? = some (.ow f (.lst gs)) ∧ z = .int k ∧ ixN gs.length k = some j ∧ Φ (ρ1.set i (.ow f (.lst (gs.set j y))))) : vSubO i ui y ρ Φ := ⟨f, g, h, q⟩
theorem v_subN {f : Bool} {gs : List G} {m : Nat} {o : Option SG} {R : Bool → List G → Nat → Prop} (h : o = some (.ow f (.lst gs))) (l : m < gs.length) (q : R f gs m) : ∃ f gs k j, o = some (.ow f (.lst gs)) ∧ G.int (m : Int) = .int k ∧ ixN gs.length k = some j ∧ R f gs j :=
  ⟨f, gs, (m : Int), m, h, rfl, by rw [ixN_at (by omega) (by omega), Int.toNat_natCast], q⟩
theorem fst_zipIdx {α : Type} : ∀ (l : List α) (n : Nat), (l.zipIdx n).map (·.1) = l
  | [], _ => rfl
  | a :: l, n => by rw [List.zipIdx_cons, List.map_cons, fst_zipIdx l]
theorem last_app {r : List Int} (h : r ≠ []) : r.dropLast ++ [r.getLastD 0] = r := by
  rw [List.getLastD_eq_getLast?, List.getLast?_eq_some_getLast h]
  exact List.dropLast_concat_getLast h
end Zn
local macro_rules | `(tactic| walk_at "gs1") => `(tactic| ((with_reducible refine Zn.v_ixLD ?h ?_); (case h => omega)))
local macro_rules | `(tactic| walk_at "gs1") => `(tactic| ((with_reducible refine Zn.v_rep1 ?h ?_); (case h => omega)))
local macro_rules | `(tactic| walk_at "gs1") => `(tactic| ((with_reducible refine' Zn.v_subO ?h ?_); (case h => exact rfl)))
local macro_rules | `(tactic| walk_at "gs1") => `(tactic| (with_reducible refine Zn.v_sum ?_))
local macro_rules | `(tactic| walk_at "gs1") => `(tactic| (with_reducible refine Zn.v_ndcF (by with_reducible first | assumption | decide +kernel) ?_))
local macro_rules | `(tactic| walk_at "gs1") => `(tactic| (with_reducible refine Zn.v_ndcT (by with_reducible first | assumption | decide +kernel) ?_))
local macro_rules | `(tactic| walk_at "gs1") => `(tactic| (with_reducible refine Zn.v_dcF (by with_reducible first | assumption | decide +kernel) ?_))
local macro_rules | `(tactic| walk_at "gs1") => `(tactic| (with_reducible refine Zn.v_dcT (by with_reducible first | assumption | decide +kernel) ?_))
local macro_rules | `(tactic| walk_at "gs1") => `(tactic| (with_reducible refine Zn.v_retNE ?_))
local macro_rules | `(tactic| walk_at "gs1") => `(tactic| (with_reducible refine Zn.v_iS3 ?_))
local macro_rules | `(tactic| walk_at "gs1") => `(tactic| (with_reducible refine Zn.v_iS2 ?_))
local macro_rules | `(tactic| walk_at "gs1") => `(tactic| (with_reducible refine Zn.v_split ?_))
local macro_rules | `(tactic| walk_at "gs1") => `(tactic| (with_reducible refine Zn.v_dck ?_))
local macro_rules | `(tactic| walk_at "gs1") => `(tactic| (with_reducible refine Zn.v_new ?_))
local macro_rules | `(tactic| walk_at "gs1") => `(tactic| (with_reducible refine Zn.v_meth ?_))
local macro_rules | `(tactic| walk_at "gs1") => `(tactic| (with_reducible refine Zn.v_slS ?_))
local macro_rules | `(tactic| walk_at "gs1") => `(tactic| (with_reducible refine Zn.v_lc2 ?_))
local macro_rules | `(tactic| walk_at "gs1") => `(tactic| (with_reducible refine Zn.v_methB ?_))
namespace Zn
open PySem PySem.Spec PyProof.Rows L2 TL
abbrev s_Words_word : Stmt := inClass (topS 11) 5
theorem sc_Words_word : FnScope ["self", "width", "value"] ["self", "width", "value"] (defScope s_Words_word) := ⟨rfl, rfl, rfl, by decide +kernel, rfl, by decide +kernel, by decide +kernel⟩

abbrev s_Words_make : Stmt := inClass (topS 11) 6
theorem sc_Words_make : FnScope ["self", "op", "width", "parts", "words", "part"] ["self", "op", "width", "parts"] (defScope s_Words_make) := ⟨rfl, rfl, rfl, by decide +kernel, rfl, by decide +kernel, by decide +kernel⟩

abbrev s_Words_joined : Stmt := inClass (topS 11) 2
theorem sc_Words_joined : FnScope ["self", "op", "parts", "width"] ["self", "op", "parts"] (defScope s_Words_joined) := ⟨rfl, rfl, rfl, by decide +kernel, rfl, by decide +kernel, by decide +kernel⟩

abbrev s_Words_worth : Stmt := inClass (topS 11) 1
theorem sc_Words_worth : FnScope ["self", "expr", "cells", "objects", "op", "part"] ["self", "expr", "cells", "objects"] (defScope s_Words_worth) := ⟨rfl, rfl, rfl, by decide +kernel, rfl, by decide +kernel, by decide +kernel⟩

structure Tx (K : PySem.W.Frag) (mg : Str → Option Value) (aR aN : Addr) : Prop extends TDraw mg, TWord K mg aR where
  z_any : mg "any" = none
  z_bool : mg "bool" = none
  z_isinstance : mg "isinstance" = none
  z_min : mg "min" = none
  z_range : mg "range" = none
  z_str : mg "str" = none
  z_tuple : mg "tuple" = none
  z_zip : mg "zip" = none
  g_NOTHING : mg "NOTHING" = some (.ref aN)
  q_NOTHING : ∀ H, SqT K H aN [.int 0, .non]
def relG : G := .tup [.str "==", .str "!=", .str "<", .str "<="]
section
variable {K : PySem.W.Frag} {mg : Str → Option Value} {aR aN : Addr}
theorem Tx.h_RELATIONS (T : Tx K mg aR aN) : ∀ W : Wd, W.K = K → ∀ S H, Rg W S H relG (.ref aR) := fun W hk S H => ⟨aR, _, rfl, .inr (hk ▸ T.q_RELATIONS _), ⟨_, _, rfl, rfl, _, _, rfl, rfl, _, _, rfl, rfl, _, _, rfl, rfl, rfl⟩⟩
theorem Tx.h_NOTHING (T : Tx K mg aR aN) : ∀ W : Wd, W.K = K → ∀ S H, Rg W S H (.tup [.int 0, .non]) (.ref aN) := fun W hk S H => ⟨aN, _, rfl, .inr (hk ▸ T.q_NOTHING _), ⟨_, _, rfl, rfl, _, _, rfl, rfl, rfl⟩⟩
theorem Tx.r_NOTHING (_ : Tx K mg aR aN) : RelV (.ref aN) (.ref aN) := rfl
end
def ufRes : List G → (G → Prop) → Prop := fun gs Φ => ∃ (o : Str) (w z : Int) (xs : List Int), gs = .str o :: .int w :: xs.map G.int ∧ xs.length ≤ 3 ∧ 1 ≤ w ∧ w ≤ 8 ∧ Val o w xs z ∧ Φ (.int z)
theorem ints_v {W : Wd} {S : AS} {H : Hp} : ∀ {xs : List Int} {vs : List V}, RgL W S H (xs.map G.int) vs → vs = xs.map V.int
  | [], _, h => h
  | x :: xs, _, ⟨v, ws, e, r, h⟩ => by rw [e, ints_v h]; cases (show v = .int x from r); rfl
theorem res_g {K : PySem.W.Frag} {vs : List V} {H : Hp} {Q : VK} {E : XK} (h : spG K ufRes vs H Q E) : spRes vs H Q E := by
  obtain ⟨W, S, gs, Φ, hk, ⟨o, w, z, xs, rfl, l, w1, w8, v, q⟩, ow, r, k⟩ := h
  obtain ⟨v1, ws1, rfl, r1, r⟩ := r
  obtain ⟨v2, ws2, rfl, r2, r⟩ := r
  cases (show v1 = .str o from r1)
  cases (show v2 = .int w from r2)
  rw [ints_v r]
  exact ⟨o, w, z, xs, rfl, l, w1, w8, v, fun H' s => k (.int z) (.int z) H' q ⟨fun b u _ e => s b u e, fun d => (ow.dr d).2.2.same s⟩ rfl⟩
/-- words with their widths -/
abbrev Wp := Int × Int
abbrev wG (p : Wp) : G := .tup [.int p.1, .int p.2]
def ufWord (C : Addr) : List G → (G → Prop) → Prop := fun gs Φ => ∃ w v : Int, gs = [.obj C, .int w, .int v] ∧ Φ (.int v)
/-- what an operation gives: its width and its word -/
inductive Op : Str → List Wp → Wp → Prop
  | rel {o : Str} {p q : Wp} {z : Int} (h : o = "==" ∨ o = "!=" ∨ o = "<" ∨ o = "<=") (w1 : 1 ≤ p.1) (w8 : p.1 ≤ 8) (v : Val o p.1 [p.2, q.2] z) : Op o [p, q] (1, z)
  | two {o : Str} {p q : Wp} {z : Int} (h : o ∈ (["+", "-", "*", "&", "|", "^", "<<", ">>", "div", "rem"] : List Str)) (w1 : 1 ≤ p.1) (w8 : p.1 ≤ 8) (v : Val o p.1 [p.2, q.2] z) : Op o [p, q] (p.1, z)
  | one {o : Str} {p : Wp} {z : Int} (h : o = "not" ∨ o = "neg") (w1 : 1 ≤ p.1) (w8 : p.1 ≤ 8) (v : Val o p.1 [p.2] z) : Op o [p] (p.1, z)
  | pick {c p q : Wp} {z : Int} (w1 : 1 ≤ p.1) (w8 : p.1 ≤ 8) (v : Val "pick" p.1 [c.2, p.2, q.2] z) : Op "pick" [c, p, q] (p.1, z)
def mkW (o : Str) (w : Int) (p : Wp) : Int := if o ∈ (["wide", "pick"] : List Str) then w else p.1
def ufMake (C : Addr) : List G → (G → Prop) → Prop := fun gs Φ => ∃ (o : Str) (w : Int) (p : Wp) (ps : List Wp) (z : Int), gs = [.obj C, .str o, .int w, .lst ((p :: ps).map wG)] ∧ ps.length ≤ 2 ∧ 1 ≤ mkW o w p ∧ mkW o w p ≤ 8 ∧ Val o (mkW o w p) ((p :: ps).map (·.2)) z ∧ Φ (.int z)
def ufJoined (C : Addr) : List G → (G → Prop) → Prop := fun gs Φ => ∃ (o : Str) (ps : List Wp) (r : Wp), gs = [.obj C, .str o, .lst (ps.map wG)] ∧ Op o ps r ∧ Φ (wG r)
section
variable {P : Program} {w : World} {K : PySem.W.Frag} {mg : Str → Option Value} {base : Heap} {aR aN C : Addr}
theorem ok_word {f : Addr} {fd : FuncData} (F : Fun K "word" "Words.word" s_Words_word f fd) (T : Tx K mg aR aN) : FnOk P w K mg base CX0 1 f fd ["self", "width", "value"] (spG K (ufWord C)) := by
  refine g_okQ F sc_Words_word (fun gs Φ h => ?_) (fun cdv A outer s H E hr => ?_)
  · obtain ⟨_, _, rfl, _⟩ := h
    rfl
  · refine ⟨_, _, 
      (gss_one (gs_ret (Zn.gv 2))), ?_⟩
    rintro gs Φ ⟨wd, v, rfl, q⟩
    walk_at "g0"
    walk_at "gs"
    exact q
theorem ok_make {f : Addr} {fd : FuncData} (F : Fun K "make" "Words.make" s_Words_make f fd) (c_result : Cal P w K mg base "result" 3 (spG K ufRes)) (T : Tx K mg aR aN) : FnOk P w K mg base CX0 4 f fd ["self", "op", "width", "parts"] (spG K (ufMake C)) := by
  refine g_okQ F sc_Words_make (fun gs Φ h => ?_) (fun cdv A outer s H E hr => ?_)
  · obtain ⟨_, _, _, _, _, rfl, _⟩ := h
    rfl
  · refine ⟨_, _, 
      (gss_cons (gs_setLcG (own := [("part", 5)]) (i := 4) rfl sc_Words_make.nd rfl rfl (sw_true rfl rfl rfl (by decide +kernel)) (k_itL K (Zn.gv 3)) (blkOk_by (N := ["self", "op", "width", "parts", "words", "part"]) (sc := defScope s_Words_make) (by decide +kernel)) (fun _ _ _ _ _ => (gg_name (i := 5) sc_Words_make.nd rfl (Or.inl rfl))) (fun _ _ _ _ _ => gts_nil) (fun _ _ _ _ _ => (k_ixT K (Zn.gv 5) ge_int)) (by decide))
      (gss_one (gs_ret (k_calS K c_result (hr.mono (by decide)) (by rfl) (ga_cons (Zn.gv 1) (ga_cons (ge_post (ge_ifExp (kt_inS K (Zn.gv 1) (GE.gb (ge_tup (ga_cons ge_str (ga_cons ge_str ga_nil))))) (Zn.gv 2) (k_ixT K (k_ixL K (Zn.gv 3) ge_int) ge_int))) (k_star K (Zn.gv 4) ga_nil))))))), ?_⟩
    rintro gs Φ ⟨o, wd, p, ps, z, rfl, hl3, p1, p8, hv, k⟩
    have hml : ((p :: ps).map wG).length = ps.length + 1 := by simp
    walk_at "g0"
    walk_at "gs"
    refine ⟨fun i acc ρ => ρ = [.fz (.obj C), .fz (.str o), .fz (.int wd), .fz (.lst (wG p :: ps.map wG)), .un, .un] ∧ acc = (((p :: ps).map (·.2)).take i).map G.int, ⟨rfl, rfl⟩, ?_, ?_⟩
    · rintro i g acc ρ2 hg hl ⟨rfl, rfl⟩
      obtain ⟨q, hq, rfl⟩ := get_map (f := wG) (xs := p :: ps) hg
      walk_at "gs"
      refine ⟨rfl, ?_⟩
      rw [take_snoc (x := q.2) (by rw [List.getElem?_map, hq]; rfl), List.map_append]
      rfl
    rintro acc ρ2 - ⟨rfl, rfl⟩
    rw [show ((p :: ps).map (·.2)).take ((ps.map wG).length + 1) = (p :: ps).map (·.2) from List.take_of_length_le (by simp)]
    walk_at "gs"
    refine v_px (fun ρ' g => ρ' = [.fz (.obj C), .fz (.str o), .fz (.int wd), .fz (.lst (wG p :: ps.map wG)), .fz (.lst (((p :: ps).map (·.2)).map G.int)), .un] ∧ g = .int (mkW o wd p)) ?_ ?_
    · walk_at "gs"
      by_cases h : o ∈ (["wide", "pick"] : List Str)
      · rw [show mkW o wd p = wd from if_pos h]
        walk_at "gs"
        exact ⟨rfl, rfl⟩
      · rw [show mkW o wd p = p.1 from if_neg h]
        walk_at "gs"
        refine v_ixL (g := wG p) (atI_nat (j := 0) rfl) ?_
        walk_at "gs"
        exact ⟨rfl, rfl⟩
    · rintro ρ' g ⟨rfl, rfl⟩
      walk_at "gs"
      exact ⟨o, _, z, (p :: ps).map (·.2), by rw [List.append_nil], by simp only [List.length_map, List.length_cons]; omega, p1, p8, hv, k⟩
theorem ok_joined {f : Addr} {fd : FuncData} (F : Fun K "joined" "Words.joined" s_Words_joined f fd) (c_Words_word : CalM P w K mg base C "word" 1 (spG K (ufWord C))) (c_Words_make : CalM P w K mg base C "make" 4 (spG K (ufMake C))) (T : Tx K mg aR aN) : FnOk P w K mg base CX0 5 f fd ["self", "op", "parts"] (spG K (ufJoined C)) := by
  refine g_okQ F sc_Words_joined (fun gs Φ h => ?_) (fun cdv A outer s H E hr => ?_)
  · obtain ⟨_, _, _, rfl, _⟩ := h
    rfl
  · refine ⟨_, _, 
      (gss_cons (gs_post (gs_if (kt_inS K (Zn.gv 1) (GE.gb (k_glob T.g_RELATIONS T.r_RELATIONS T.h_RELATIONS))) 
       (gss_cons (gs_post (gs_if (gt_cmpR go_eqI (k_ixT K (k_ixL K (Zn.gv 2) ge_int) ge_int) ge_int (nomark _)) 
        (gss_one (gs_ret (ge_tup (ga_cons ge_int (ga_cons (k_meth K (Zn.gv 0) c_Words_word (hr.mono (by decide)) (ga_cons ge_int (ga_cons (ge_post (ge_ifExp (gt_cmpR go_eqB (k_eqD K hr.units (k_ixL K (Zn.gv 2) ge_int) (k_ixL K (Zn.gv 2) ge_int)) (ge_cmpR go_eqS (Zn.gv 1) ge_str (nomark _)) (nomark _)) ge_int ge_int)) ga_nil))) ga_nil))))) gss_nil))
       (gss_one (gs_ret (ge_tup (ga_cons ge_int (ga_cons (k_meth K (Zn.gv 0) c_Words_make (hr.mono (by decide)) (ga_cons (Zn.gv 1) (ga_cons ge_int (ga_cons (Zn.gv 2) ga_nil)))) ga_nil)))))) gss_nil))
      (gss_cons (gs_set (i := 3) sc_Words_joined.nd rfl (Or.inl rfl) (ge_post (ge_ifExp (gt_cmpR go_eqS (Zn.gv 1) ge_str (nomark _)) (k_ixT K (k_ixL K (Zn.gv 2) ge_int) ge_int) (k_ixT K (k_ixL K (Zn.gv 2) ge_int) ge_int))))
      (gss_one (gs_ret (ge_tup (ga_cons (Zn.gv 3) (ga_cons (k_meth K (Zn.gv 0) c_Words_make (hr.mono (by decide)) (ga_cons (Zn.gv 1) (ga_cons (Zn.gv 3) (ga_cons (Zn.gv 2) ga_nil)))) ga_nil))))))), ?_⟩
    rintro gs Φ ⟨o, ps, r, rfl, ho, k⟩
    cases ho with
    | @rel o p q z h w1 w8 v =>
      have hne : ¬ p.1 = 0 := by omega
      have hm : o ∈ (["==", "!=", "<", "<="] : List Str) := by rcases h with rfl | rfl | rfl | rfl <;> simp
      have hw : mkW o 1 p = p.1 := if_neg (by rcases h with rfl | rfl | rfl | rfl <;> decide)
      walk_at "g0"
      walk_at "gz"
      refine v_inS (ns := ["==", "!=", "<", "<="]) rfl ?_
      walk_at "gz"
      refine ⟨rfl, ?_⟩
      walk_at "gz"
      refine ⟨o, 1, p, [q], z, rfl, by simp, by rw [hw]; exact w1, by rw [hw]; exact w8, by rw [hw]; exact v, ?_⟩
      walk_at "gz"
      exact k
    | @two o p q z h w1 w8 v =>
      have hm : o ∉ (["==", "!=", "<", "<="] : List Str) := by
        simp only [List.mem_cons, List.not_mem_nil, or_false] at h
        rcases h with rfl | rfl | rfl | rfl | rfl | rfl | rfl | rfl | rfl | rfl <;> decide
      have hp : ¬ o = "pick" := by
        simp only [List.mem_cons, List.not_mem_nil, or_false] at h
        rcases h with rfl | rfl | rfl | rfl | rfl | rfl | rfl | rfl | rfl | rfl <;> decide
      have hw : mkW o p.1 p = p.1 := by unfold mkW; split <;> rfl
      walk_at "g0"
      walk_at "gz"
      refine v_inS (ns := ["==", "!=", "<", "<="]) rfl ?_
      walk_at "gz"
      refine ⟨rfl, ?_⟩
      walk_at "gz"
      refine ⟨o, p.1, p, [q], z, rfl, by simp, by rw [hw]; exact w1, by rw [hw]; exact w8, by rw [hw]; exact v, ?_⟩
      walk_at "gz"
      exact k
    | @one o p z h w1 w8 v =>
      have hm : o ∉ (["==", "!=", "<", "<="] : List Str) := by rcases h with rfl | rfl <;> decide
      have hp : ¬ o = "pick" := by rcases h with rfl | rfl <;> decide
      have hw : mkW o p.1 p = p.1 := by unfold mkW; split <;> rfl
      walk_at "g0"
      walk_at "gz"
      refine v_inS (ns := ["==", "!=", "<", "<="]) rfl ?_
      walk_at "gz"
      refine ⟨rfl, ?_⟩
      walk_at "gz"
      refine ⟨o, p.1, p, [], z, rfl, by simp, by rw [hw]; exact w1, by rw [hw]; exact w8, by rw [hw]; exact v, ?_⟩
      walk_at "gz"
      exact k
    | @pick c p q z w1 w8 v =>
      have hm : ("pick" : Str) ∉ (["==", "!=", "<", "<="] : List Str) := by decide
      have hw : mkW "pick" p.1 c = p.1 := if_pos (by decide)
      walk_at "g0"
      walk_at "gz"
      refine v_inS (ns := ["==", "!=", "<", "<="]) rfl ?_
      walk_at "gz"
      refine ⟨rfl, ?_⟩
      walk_at "gz"
      refine ⟨"pick", p.1, c, [p, q], z, rfl, by simp, by rw [hw]; exact w1, by rw [hw]; exact w8, by rw [hw]; exact v, ?_⟩
      walk_at "gz"
      exact k
end
end Zn
namespace Zn
open PySem PySem.Spec PyProof.Rows L2 TL
/-- an expr of words -/
inductive Ex where
  | nm (n : Str) | wd (v w : Int) | un (o : Str) (a : Ex) | bin (o : Str) (a b : Ex) | pick (c a b : Ex) | wide (a : Ex) (w : Int)
def exG : Ex → G
  | .nm n => .tup [.str "name", .str n]
  | .wd v w => .tup [.str "word", .int v, .int w]
  | .un o a => .tup [.str o, exG a]
  | .bin o a b => .tup [.str o, exG a, exG b]
  | .pick c a b => .tup [.str "pick", exG c, exG a, exG b]
  | .wide a w => .tup [.str "wide", exG a, .int w]
abbrev Wl := List (Str × Wp)
def wlG (cs : Wl) : Kv := cs.map fun c => ((Sum.inr c.1 : L2.Key), wG c.2)
/-- what an expr is worth -/
inductive Wt (cs : Wl) : Ex → Wp → Prop
  | nm {n p} : getD (wlG cs) (.inr n) = some (wG p) → Wt cs (.nm n) p
  | wd {v w} : Wt cs (.wd v w) (w, v)
  | un {o : Str} {a : Ex} {p r : Wp} : Wt cs a p → Op o [p] r → Wt cs (.un o a) r
  | bin {o : Str} {a b : Ex} {p q r : Wp} : Wt cs a p → Wt cs b q → Op o [p, q] r → Wt cs (.bin o a b) r
  | pick {c a b : Ex} {x p q r : Wp} : Wt cs c x → Wt cs a p → Wt cs b q → Op "pick" [x, p, q] r → Wt cs (.pick c a b) r
  | wide {a : Ex} {p : Wp} {w z : Int} : Wt cs a p → 1 ≤ w → w ≤ 8 → Val "wide" w [p.2] z → Wt cs (.wide a w) (w, z)
def Ex.dep : Ex → Nat
  | .nm _ => 0
  | .wd _ _ => 0
  | .un _ a => a.dep + 1
  | .bin _ a b => max a.dep b.dep + 1
  | .pick c a b => max c.dep (max a.dep b.dep) + 1
  | .wide a _ => a.dep + 1
theorem Op.not {o : Str} {ps : List Wp} {r : Wp} (h : Op o ps r) : ¬ o = "name" ∧ ¬ o = "word" ∧ ¬ o = "null" ∧ ¬ o = "item" ∧ ¬ o = "field" ∧ ¬ o = "wide" := by
  cases h with
  | rel h => rcases h with rfl | rfl | rfl | rfl <;> decide
  | two h =>
    simp only [List.mem_cons, List.not_mem_nil, or_false] at h
    rcases h with rfl | rfl | rfl | rfl | rfl | rfl | rfl | rfl | rfl | rfl <;> decide
  | one h => rcases h with rfl | rfl <;> decide
  | pick => decide
def ufWorth (C : Addr) (n : Nat) : List G → (G → Prop) → Prop := fun gs Φ => ∃ (e : Ex) (cs : Wl) (p : Wp), gs = [.obj C, exG e, dG (wlG cs), .tup []] ∧ e.dep < n ∧ Wt cs e p ∧ Φ (wG p)
def ufItem : List G → (G → Prop) → Prop := fun _ _ => False
section
variable {P : Program} {w : World} {K : PySem.W.Frag} {mg : Str → Option Value} {base : Heap} {aR aN C : Addr} {n : Nat}
theorem ok_worth {f : Addr} {fd : FuncData} (F : Fun K "worth" "Words.worth" s_Words_worth f fd) (c_Words_word : CalM P w K mg base C "word" 1 (spG K (ufWord C))) (c_Words_make : CalM P w K mg base C "make" 4 (spG K (ufMake C))) (c_Words_joined : CalM P w K mg base C "joined" 5 (spG K (ufJoined C))) (c_Words_item : CalM P w K mg base C "item" 1 (spG K ufItem)) (c_Words_worth : CalM P w K mg base C "worth" (n + 6) (spG K (ufWorth C n))) (T : Tx K mg aR aN) : FnOk P w K mg base CX0 (n + 7) f fd ["self", "expr", "cells", "objects"] (spG K (ufWorth C (n + 1))) := by
  refine g_okQ F sc_Words_worth (fun gs Φ h => ?_) (fun cdv A outer s H E hr => ?_)
  · obtain ⟨_, _, _, rfl, _⟩ := h
    rfl
  · refine ⟨_, _, 
      (gss_cons (gs_set (i := 4) sc_Words_worth.nd rfl (Or.inl rfl) (k_ixT K (Zn.gv 1) ge_int))
      (gss_cons (gs_post (gs_if (gt_cmpR go_eqS (Zn.gv 4) ge_str (nomark _)) 
       (gss_one (gs_ret (k_dget (hu_of hr) (Zn.gv 2) (k_ixT K (Zn.gv 1) ge_int)))) gss_nil))
      (gss_cons (gs_post (gs_if (gt_cmpR go_eqS (Zn.gv 4) ge_str (nomark _)) 
       (gss_one (gs_ret (ge_tup (ga_cons (k_ixT K (Zn.gv 1) ge_int) (ga_cons (k_meth K (Zn.gv 0) c_Words_word (hr.mono (by omega)) (ga_cons (k_ixT K (Zn.gv 1) ge_int) (ga_cons (k_ixT K (Zn.gv 1) ge_int) ga_nil))) ga_nil))))) gss_nil))
      (gss_cons (gs_post (gs_if (gt_cmpR go_eqS (Zn.gv 4) ge_str (nomark _)) 
       (gss_one (gs_ret (k_glob T.g_NOTHING T.r_NOTHING T.h_NOTHING))) gss_nil))
      (gss_cons (gs_post (gs_if (gt_cmpR go_eqS (Zn.gv 4) ge_str (nomark _)) 
       (gss_one (gs_ret (k_meth K (Zn.gv 0) c_Words_item (hr.mono (by omega)) (ga_cons (k_dget (hu_of hr) (Zn.gv 2) (k_ixT K (Zn.gv 1) ge_int)) (ga_cons (k_meth K (Zn.gv 0) c_Words_worth (hr.mono (by omega)) (ga_cons (k_ixT K (Zn.gv 1) ge_int) (ga_cons (Zn.gv 2) (ga_cons (Zn.gv 3) ga_nil)))) ga_nil))))) gss_nil))
      (gss_cons (gs_post (gs_if (gt_cmpR go_eqS (Zn.gv 4) ge_str (nomark _)) 
       (gss_one (gs_ret (k_ixT K (k_ixT K (Zn.gv 3) (k_ixT K (k_dget (hu_of hr) (Zn.gv 2) (k_ixT K (Zn.gv 1) ge_int)) ge_int)) (k_ixT K (Zn.gv 1) ge_int)))) gss_nil))
      (gss_cons (gs_post (gs_if (gt_cmpR go_eqS (Zn.gv 4) ge_str (nomark _)) 
       (gss_one (gs_ret (ge_tup (ga_cons (k_ixT K (Zn.gv 1) ge_int) (ga_cons (k_meth K (Zn.gv 0) c_Words_make (hr.mono (by omega)) (ga_cons (Zn.gv 4) (ga_cons (k_ixT K (Zn.gv 1) ge_int) (ga_cons (GN.ge (gn_lst (ga_cons (k_meth K (Zn.gv 0) c_Words_worth (hr.mono (by omega)) (ga_cons (k_ixT K (Zn.gv 1) ge_int) (ga_cons (Zn.gv 2) (ga_cons (Zn.gv 3) ga_nil)))) ga_nil))) ga_nil)))) ga_nil))))) gss_nil))
      (gss_one (gs_ret (k_meth K (Zn.gv 0) c_Words_joined (hr.mono (by omega)) (ga_cons (Zn.gv 4) (ga_cons (GN.ge (gn_lc (own := [("part", 5)]) rfl sc_Words_worth.nd (k_itT K (k_slT K (Zn.gv 1) (gp_some ge_int) gp_none)) (blkOk_by (N := ["self", "expr", "cells", "objects", "op", "part"]) (sc := defScope s_Words_worth) (by decide +kernel)) (fun _ _ _ _ _ => (gg_name (i := 5) sc_Words_worth.nd rfl (Or.inl rfl))) (fun _ _ _ _ _ => gts_nil) (fun _ _ _ _ _ => (k_meth K (Zn.gv 0) c_Words_worth (hr.mono (by omega)) (ga_cons (Zn.gv 5) (ga_cons (Zn.gv 2) (ga_cons (Zn.gv 3) ga_nil))))) (by decide))) ga_nil)))))))))))), ?_⟩
    rintro gs Φ ⟨e, cs, p, rfl, hd, hw, k⟩
    cases hw with
    | @nm n p hg =>
      simp only [exG]
      walk_at "g0"
      walk_at "gz"
      exact ⟨.inr n, wG p, rfl, hg, k⟩
    | @wd v wd =>
      simp only [exG]
      walk_at "g0"
      walk_at "gz"
      refine ⟨rfl, ?_⟩
      walk_at "gz"
      refine ⟨wd, v, rfl, ?_⟩
      walk_at "gz"
      exact k
    | @un o a p r ha ho =>
      obtain ⟨h1, h2, h3, h4, h5, h6⟩ := ho.not
      simp only [exG]
      walk_at "g0"
      have ec : cutG [G.str o, exG a] (some 1) none = [exG a] := rfl
      simp only [Ex.dep] at hd
      walk_at "gz"
      refine ⟨rfl, ?_⟩
      walk_at "gz"
      rw [ec]
      refine ⟨by simp, fun i acc ρ => ρ = [.fz (.obj C), .fz (.tup [.str o, exG a]), .fz (dG (wlG cs)), .fz (.tup []), .fz (.str o), .un] ∧ acc = [wG p].take i, ⟨rfl, rfl⟩, ?_, ?_⟩
      · rintro i g acc ρ2 hg hl ⟨rfl, rfl⟩
        rcases i with _ | i
        · cases hg
          walk_at "gz"
          refine ⟨rfl, ?_⟩
          walk_at "gz"
          refine ⟨a, cs, p, rfl, by omega, ha, ?_⟩
          walk_at "gz"
          exact ⟨rfl, rfl⟩
        · cases hg
      rintro acc ρ2 - ⟨rfl, rfl⟩
      walk_at "gz"
      exact ⟨o, [p], _, rfl, ho, k⟩
    | @bin o a b p q r ha hb ho =>
      obtain ⟨h1, h2, h3, h4, h5, h6⟩ := ho.not
      simp only [exG]
      walk_at "g0"
      have ec : cutG [G.str o, exG a, exG b] (some 1) none = [exG a, exG b] := rfl
      simp only [Ex.dep] at hd
      walk_at "gz"
      refine ⟨rfl, ?_⟩
      walk_at "gz"
      rw [ec]
      refine ⟨by simp, fun i acc ρ => ρ = [.fz (.obj C), .fz (.tup [.str o, exG a, exG b]), .fz (dG (wlG cs)), .fz (.tup []), .fz (.str o), .un] ∧ acc = [wG p, wG q].take i, ⟨rfl, rfl⟩, ?_, ?_⟩
      · rintro i g acc ρ2 hg hl ⟨rfl, rfl⟩
        rcases i with _ | _ | i
        · cases hg
          walk_at "gz"
          refine ⟨rfl, ?_⟩
          walk_at "gz"
          refine ⟨a, cs, p, rfl, by omega, ha, ?_⟩
          walk_at "gz"
          exact ⟨rfl, rfl⟩
        · cases hg
          walk_at "gz"
          refine ⟨rfl, ?_⟩
          walk_at "gz"
          refine ⟨b, cs, q, rfl, by omega, hb, ?_⟩
          walk_at "gz"
          exact ⟨rfl, rfl⟩
        · cases hg
      rintro acc ρ2 - ⟨rfl, rfl⟩
      walk_at "gz"
      exact ⟨o, [p, q], _, rfl, ho, k⟩
    | @pick c a b x p q r hc ha hb ho =>
      simp only [exG]
      walk_at "g0"
      have ec : cutG [G.str "pick", exG c, exG a, exG b] (some 1) none = [exG c, exG a, exG b] := rfl
      simp only [Ex.dep] at hd
      walk_at "gz"
      refine ⟨rfl, ?_⟩
      walk_at "gz"
      rw [ec]
      refine ⟨by simp, fun i acc ρ => ρ = [.fz (.obj C), .fz (.tup [.str "pick", exG c, exG a, exG b]), .fz (dG (wlG cs)), .fz (.tup []), .fz (.str "pick"), .un] ∧ acc = [wG x, wG p, wG q].take i, ⟨rfl, rfl⟩, ?_, ?_⟩
      · rintro i g acc ρ2 hg hl ⟨rfl, rfl⟩
        rcases i with _ | _ | _ | i
        · cases hg
          walk_at "gz"
          refine ⟨rfl, ?_⟩
          walk_at "gz"
          refine ⟨c, cs, x, rfl, by omega, hc, ?_⟩
          walk_at "gz"
          exact ⟨rfl, rfl⟩
        · cases hg
          walk_at "gz"
          refine ⟨rfl, ?_⟩
          walk_at "gz"
          refine ⟨a, cs, p, rfl, by omega, ha, ?_⟩
          walk_at "gz"
          exact ⟨rfl, rfl⟩
        · cases hg
          walk_at "gz"
          refine ⟨rfl, ?_⟩
          walk_at "gz"
          refine ⟨b, cs, q, rfl, by omega, hb, ?_⟩
          walk_at "gz"
          exact ⟨rfl, rfl⟩
        · cases hg
      rintro acc ρ2 - ⟨rfl, rfl⟩
      walk_at "gz"
      exact ⟨"pick", [x, p, q], _, rfl, ho, k⟩
    | @wide a p wd z ha w1 w8 hv =>
      simp only [exG]
      walk_at "g0"
      simp only [Ex.dep] at hd
      have hm : mkW "wide" wd p = wd := if_pos (by decide)
      walk_at "gz"
      refine ⟨rfl, ?_⟩
      walk_at "gz"
      refine ⟨rfl, ?_⟩
      walk_at "gz"
      refine ⟨a, cs, p, rfl, by omega, ha, ?_⟩
      walk_at "gz"
      refine ⟨"wide", wd, p, [], z, rfl, by simp, by rw [hm]; exact w1, by rw [hm]; exact w8, by rw [hm]; exact hv, ?_⟩
      walk_at "gz"
      exact k
theorem calM_worth {f : Addr} {fd : FuncData} (cC : Cls K C) (mW : Meth K C "worth" f) (F : Fun K "worth" "Words.worth" s_Words_worth f fd) (c_Words_word : CalM P w K mg base C "word" 1 (spG K (ufWord C))) (c_Words_make : CalM P w K mg base C "make" 4 (spG K (ufMake C))) (c_Words_joined : CalM P w K mg base C "joined" 5 (spG K (ufJoined C))) (c_Words_item : CalM P w K mg base C "item" 1 (spG K ufItem)) (T : Tx K mg aR aN) : ∀ n, CalM P w K mg base C "worth" (n + 6) (spG K (ufWorth C n))
  | 0 => ⟨cC, f, fd, ["self", "expr", "cells", "objects"], mW, ⟨fun vs H Q E ⟨_, _, _, _, _, ⟨_, _, _, _, h, _⟩, _⟩ => by omega, fun A outer s H args us vs Q E _ _ _ _ ⟨_, _, _, _, _, ⟨_, _, _, _, h, _⟩, _⟩ => by omega⟩, F.binds (fun _ _ _ _ _ _ us hl => match us, hl with | [_, _, _, _], _ => rfl)⟩
  | n + 1 => calM_of cC mW F (fun _ _ _ _ _ _ us hl => match us, hl with | [_, _, _, _], _ => rfl) (ok_worth F c_Words_word c_Words_make c_Words_joined c_Words_item (calM_worth cC mW F c_Words_word c_Words_make c_Words_joined c_Words_item T n) T)
end
end Zn
namespace Zn
open PySem PySem.Spec PyProof.Rows L2 TL
abbrev s__law_word : Stmt := topS 21
theorem sc__law_word : FnScope ["_law_op", "_law_width", "_law_words", "_law_left", "_law_right", "_law_full"] ["_law_op", "_law_width", "_law_words"] (defScope s__law_word) := ⟨rfl, rfl, rfl, by decide +kernel, rfl, by decide +kernel, by decide +kernel⟩

def ufLWord : List G → (G → Prop) → Prop := fun gs Φ => ∃ op w xs z, gs = [.str op, .int w, .lst (xs.map G.int)] ∧ 1 ≤ w ∧ w ≤ 8 ∧ Val op w xs z ∧ Φ (.int z)
section
variable {P : Program} {w : World} {K : PySem.W.Frag} {mg : Str → Option Value} {base : Heap} {aR aN : Addr}
theorem ok_lword {f : Addr} {fd : FuncData} (F : Fun K "_law_word" "_law_word" s__law_word f fd) (T : Tx K mg aR aN) : FnOk P w K mg base CX0 1 f fd ["_law_op", "_law_width", "_law_words"] (spG K ufLWord) := by
  refine g_ok F sc__law_word (fun gs Φ h => ?_) (fun cdv A outer s H E hr => ?_)
  · obtain ⟨op, w, xs, z, rfl, _⟩ := h
    rfl
  · refine ⟨_, _, 
      (gss_cons (gs_par (i := 3) (j := 4) (by rfl) sc__law_word.nd rfl rfl (by decide) rfl rfl (ga_cons (k_ixL K (Zn.gv 2) ge_int) (ga_cons (k_ixL K (Zn.gv 2) (ge_op go_sub (k_len K (by rfl) T.z_len (GE.gb (Zn.gv 2))) ge_int)) ga_nil)) (by rfl))
      (gss_cons (gs_set (i := 5) sc__law_word.nd rfl (Or.inl rfl) (ge_op go_sub (ge_op go_shl ge_int (Zn.gv 1)) ge_int))
      (gss_cons (gs_post (gs_if (gt_cmpR go_eqS (Zn.gv 0) ge_str (nomark _)) 
       (gss_one (gs_ret (k_ixL K (Zn.gv 2) (ge_op go_sub ge_int (Zn.gv 3))))) gss_nil))
      (gss_cons (gs_post (gs_if (kt_inS K (Zn.gv 0) (GE.gb (ge_tup (ga_cons ge_str (ga_cons ge_str (ga_cons ge_str ga_nil)))))) 
       (gss_one (gs_ret (ge_op go_and (ge_post (ge_ifExp (gt_cmpR go_eqS (Zn.gv 0) ge_str (nomark _)) (Zn.gv 3) (ge_op go_sub (ge_un un_neg (Zn.gv 3)) (ge_callTy1 gc_int (by rfl) T.z_int (by decide +kernel) (GE.gb (ge_cmpR go_eqS (Zn.gv 0) ge_str (nomark _))))))) (Zn.gv 5)))) gss_nil))
      (gss_cons (gs_post (gs_if (kt_inS K (Zn.gv 0) (GE.gb (ge_tup (ga_cons ge_str (ga_cons ge_str (ga_cons ge_str ga_nil)))))) 
       (gss_one (gs_ret (ge_op go_and (ge_post (ge_ifExp (gt_cmpR go_eqS (Zn.gv 0) ge_str (nomark _)) (ge_op go_add (Zn.gv 3) (Zn.gv 4)) (ge_post (ge_ifExp (gt_cmpR go_eqS (Zn.gv 0) ge_str (nomark _)) (ge_op go_sub (Zn.gv 3) (Zn.gv 4)) (ge_op go_mul (Zn.gv 3) (Zn.gv 4)))))) (Zn.gv 5)))) gss_nil))
      (gss_cons (gs_post (gs_if (kt_inS K (Zn.gv 0) (GE.gb (ge_tup (ga_cons ge_str (ga_cons ge_str ga_nil))))) 
       (gss_one (gs_ret (ge_callTy1 gc_int (by rfl) T.z_int (by decide +kernel) (GE.gb (ge_cmpR go_eqB (ge_cmpR go_eqI (Zn.gv 3) (Zn.gv 4) (nomark _)) (ge_cmpR go_eqS (Zn.gv 0) ge_str (nomark _)) (nomark _)))))) gss_nil))
      (gss_cons (gs_post (gs_if (kt_inS K (Zn.gv 0) (GE.gb (ge_tup (ga_cons ge_str (ga_cons ge_str ga_nil))))) 
       (gss_one (gs_ret (ge_callTy1 gc_int (by rfl) T.z_int (by decide +kernel) (GE.gb (ge_or (ge_cmpR go_lt (Zn.gv 3) (Zn.gv 4) (nomark _)) (ge_one (ge_and (ge_cmpR go_eqS (Zn.gv 0) ge_str (nomark _)) (ge_one (ge_cmpR go_eqI (Zn.gv 3) (Zn.gv 4) (nomark _)))))))))) gss_nil))
      (gss_cons (gs_post (gs_if (kt_inS K (Zn.gv 0) (GE.gb (ge_tup (ga_cons ge_str (ga_cons ge_str (ga_cons ge_str ga_nil)))))) 
       (gss_one (gs_ret (ge_post (ge_ifExp (gt_cmpR go_eqS (Zn.gv 0) ge_str (nomark _)) (ge_op go_and (Zn.gv 3) (Zn.gv 4)) (ge_post (ge_ifExp (gt_cmpR go_eqS (Zn.gv 0) ge_str (nomark _)) (ge_op go_or (Zn.gv 3) (Zn.gv 4)) (ge_op go_xor (Zn.gv 3) (Zn.gv 4)))))))) gss_nil))
      (gss_cons (gs_post (gs_if (kt_inS K (Zn.gv 0) (GE.gb (ge_tup (ga_cons ge_str (ga_cons ge_str ga_nil))))) 
       (gss_one (gs_ret (ge_post (ge_ifExp (gt_cmpR go_eqS (Zn.gv 0) ge_str (nomark _)) (ge_op go_and (ge_op go_shl (Zn.gv 3) (ge_call2 (gc_min2 rfl) (by rfl) T.z_min (by decide +kernel) (ga_cons (Zn.gv 4) (ga_cons ge_int ga_nil)))) (Zn.gv 5)) (ge_op go_shr (Zn.gv 3) (ge_call2 (gc_min2 rfl) (by rfl) T.z_min (by decide +kernel) (ga_cons (Zn.gv 4) (ga_cons ge_int ga_nil)))))))) gss_nil))
      (gss_cons (gs_post (gs_if (gt_cmpR go_eqI (Zn.gv 4) ge_int (nomark _)) 
       (gss_one (gs_ret ge_int)) gss_nil))
      (gss_one (gs_ret (ge_post (ge_ifExp (gt_cmpR go_eqS (Zn.gv 0) ge_str (nomark _)) (ge_op go_fdiv (Zn.gv 3) (Zn.gv 4)) (ge_op go_sub (Zn.gv 3) (ge_op go_mul (ge_op go_fdiv (Zn.gv 3) (Zn.gv 4)) (Zn.gv 4))))))))))))))))), ?_⟩
    rintro gs Φ ⟨op, w, xs, z, rfl, w1, w8, v, q⟩
    have hcp : CPow 1 w := ⟨by omega, by omega, by decide⟩
    have hcp1 : CPow 1 1 := ⟨by omega, by omega, by decide⟩
    walk_at "g0"
    cases v with
    | pick1 => 
      walk_at "gz"
      exact q
    | pick0 => 
      walk_at "gz"
      exact q
    | not => 
      walk_at "gz"
      rw [if_pos (decide_eq_true rfl)]
      exact q
    | neg => 
      walk_at "gz"
      rw [if_neg (by decide +kernel), Int.sub_zero]
      exact q
    | wide => 
      walk_at "gz"
      exact q
    | add => 
      walk_at "gz"
      exact q
    | sub => 
      walk_at "gz"
      exact q
    | @mul _ x y b a => 
      have hm : CMul x y := mulL a b
      walk_at "gz"
      exact q
    | and a b => 
      walk_at "gz"
      exact q
    | or a b => 
      walk_at "gz"
      exact q
    | xor a b => 
      walk_at "gz"
      exact q
    | shl a b c d e => 
      walk_at "gz"
      exact q
    | shr a b c d => 
      walk_at "gz"
      exact q
    | div0 a => 
      walk_at "gz"
      exact q
    | rem0 a => 
      walk_at "gz"
      exact q
    | @div _ x y a b c d => 
      have hy0 := b.1
      have hd : CDiv x y := ⟨by omega, by omega⟩
      have hs := small w1 w8
      have hx0 := a.1
      have hx1 := a.2
      have hq := Int.ediv_le_self y a.1
      have hq0 := Int.ediv_nonneg a.1 hy0
      have hm : CMul (x / y) y := mulL (by omega) (by omega)
      walk_at "gz"
      exact q
    | @rem _ x y a b c d => 
      have hy0 := b.1
      have hd : CDiv x y := ⟨by omega, by omega⟩
      have hs := small w1 w8
      have hx0 := a.1
      have hx1 := a.2
      have hq := Int.ediv_le_self y a.1
      have hq0 := Int.ediv_nonneg a.1 hy0
      have hm : CMul (x / y) y := mulL (by omega) (by omega)
      walk_at "gz"
      exact q
    | @eq _ x y => 
      walk_at "gz"
      have e : (if decide (decide (x = y) = decide (("==" : Str) = "==")) = true then (1 : Int) else 0) = if decide (x = y) = true then 1 else 0 := by
        rw [decide_eq_true (p := ("==" : Str) = "==") rfl]
        by_cases h : x = y <;> simp [h]
      rw [e]
      exact q
    | @ne _ x y => 
      walk_at "gz"
      have e : (if decide (decide (x = y) = decide (("!=" : Str) = "==")) = true then (1 : Int) else 0) = if decide (x = y) = true then 0 else 1 := by
        rw [decide_eq_false (p := ("!=" : Str) = "==") (by decide +kernel)]
        by_cases h : x = y <;> simp [h]
      rw [e]
      exact q
    | @lt _ x y => 
      walk_at "gz"
      by_cases h : x < y
      · walk_at "gz"
        rw [decide_eq_true h] at q
        exact q
      · walk_at "gz"
        rw [decide_eq_false h] at q
        exact q
    | @le _ x y => 
      walk_at "gz"
      by_cases h : x < y
      · walk_at "gz"
        rw [decide_eq_true (show x ≤ y by omega)] at q
        exact q
      · walk_at "gz"
        by_cases h2 : x = y
        · rw [decide_eq_true (show x ≤ y by omega)] at q
          rw [decide_eq_true h2]
          exact q
        · rw [decide_eq_false (show ¬x ≤ y by omega)] at q
          rw [decide_eq_false h2]
          exact q
end
end Zn
namespace Zn
open PySem PySem.Spec PyProof.Rows L2 TL
abbrev s__law_operands : Stmt := topS 19
theorem sc__law_operands : FnScope ["_law_expr"] ["_law_expr"] (defScope s__law_operands) := ⟨rfl, rfl, rfl, by decide +kernel, rfl, by decide +kernel, by decide +kernel⟩

abbrev s__law_worth : Stmt := topS 33
theorem sc__law_worth : FnScope ["_law_names", "_law_expr", "_law_word_here", "_law_parts", "_law_part", "_law_words", "_law_width", "_law_found"] ["_law_names", "_law_expr"] (defScope s__law_worth) := ⟨rfl, rfl, rfl, by decide +kernel, rfl, by decide +kernel, by decide +kernel⟩

def Ex.sub : Ex → List Ex
  | .un _ a => [a]
  | .bin _ a b => [a, b]
  | .pick c a b => [c, a, b]
  | .wide a _ => [a]
  | _ => []
def Ex.op : Ex → Str
  | .nm _ => "name"
  | .wd _ _ => "word"
  | .un o _ => o
  | .bin o _ _ => o
  | .pick _ _ _ => "pick"
  | .wide _ _ => "wide"
/-- an expr with parts: its parts' worth and its own -/
inductive WtL (cs : Wl) : List Ex → List Wp → Prop
  | nil : WtL cs [] []
  | cons {e es p ps} : Wt cs e p → WtL cs es ps → WtL cs (e :: es) (p :: ps)
theorem WtL.get {cs : Wl} : ∀ {es : List Ex} {ps : List Wp} {i : Nat} {e : Ex}, WtL cs es ps → es[i]? = some e → ∃ p, ps[i]? = some p ∧ Wt cs e p
  | _, _, _, _, .nil, h => by simp at h
  | _, _, 0, _, .cons h _, k => by simp at k; subst k; exact ⟨_, rfl, h⟩
  | _, _, i + 1, _, .cons _ h, k => by
    obtain ⟨p, e, w⟩ := h.get (i := i) (by simpa using k)
    exact ⟨p, by simpa using e, w⟩
theorem WtL.len {cs : Wl} : ∀ {es : List Ex} {ps : List Wp}, WtL cs es ps → ps.length = es.length
  | _, _, .nil => rfl
  | _, _, .cons _ h => by rw [List.length_cons, List.length_cons, h.len]
def ufOps : List G → (G → Prop) → Prop := fun gs Φ => ∃ e : Ex, gs = [exG e] ∧ (¬ e.op = "name" ∧ ¬ e.op = "word" ∧ ¬ e.op = "null" ∧ ¬ e.op = "item" ∧ ¬ e.op = "field" ∧ (e.op = "wide" → ∃ a w, e = .wide a w)) ∧ Φ (.tup (e.sub.map exG))
def ufLWorth (n : Nat) : List G → (G → Prop) → Prop := fun gs Φ => ∃ (e : Ex) (cs : Wl) (p : Wp), gs = [dG (wlG cs), exG e] ∧ e.dep < n ∧ Wt cs e p ∧ Φ (wG p)
section
variable {P : Program} {w : World} {K : PySem.W.Frag} {mg : Str → Option Value} {base : Heap} {aR aN C : Addr} {n : Nat}
theorem ok_loperands {f : Addr} {fd : FuncData} (F : Fun K "_law_operands" "_law_operands" s__law_operands f fd) (T : Tx K mg aR aN) : FnOk P w K mg base CX0 1 f fd ["_law_expr"] (spG K ufOps) := by
  refine g_ok F sc__law_operands (fun gs Φ h => ?_) (fun cdv A outer s H E hr => ?_)
  · obtain ⟨_, rfl, _⟩ := h
    rfl
  · refine ⟨_, _, 
      (gss_cons (gs_post (gs_if (kt_inS K (k_ixT K (Zn.gv 0) ge_int) (GE.gb (ge_tup (ga_cons ge_str (ga_cons ge_str (ga_cons ge_str (ga_cons ge_str ga_nil))))))) 
       (gss_one (gs_ret (ge_tup ga_nil))) gss_nil))
      (gss_cons (gs_post (gs_if (gt_cmpR go_eqS (k_ixT K (Zn.gv 0) ge_int) ge_str (nomark _)) 
       (gss_one (gs_ret (k_slT K (Zn.gv 0) (gp_some ge_int) gp_none))) gss_nil))
      (gss_one (gs_ret (ge_post (ge_ifExp (gt_cmpR go_eqS (k_ixT K (Zn.gv 0) ge_int) ge_str (nomark _)) (k_slT K (Zn.gv 0) (gp_some ge_int) (gp_some ge_int)) (k_slT K (Zn.gv 0) (gp_some ge_int) gp_none))))))), ?_⟩
    rintro gs Φ ⟨e, rfl, ⟨h1, h2, h3, h4, h5, h6⟩, q⟩
    have hm : e.op ∉ (["word", "name", "field", "null"] : List Str) := by simp [h1, h2, h3, h5]
    cases e with
    | nm n => exact (h1 rfl).elim
    | wd v w => exact (h2 rfl).elim
    | un o a =>
      have h7 : ¬ o = "wide" := fun z => by obtain ⟨_, _, e⟩ := h6 z; cases e
      simp only [Ex.op] at h4 hm
      simp only [exG, Ex.sub, List.map_cons, List.map_nil] at q ⊢
      walk_at "g0"
      walk_at "gz"
      refine v_inS (ns := ["word", "name", "field", "null"]) rfl ?_
      walk_at "gz"
      exact q
    | bin o a b =>
      have h7 : ¬ o = "wide" := fun z => by obtain ⟨_, _, e⟩ := h6 z; cases e
      simp only [Ex.op] at h4 hm
      simp only [exG, Ex.sub, List.map_cons, List.map_nil] at q ⊢
      walk_at "g0"
      walk_at "gz"
      refine v_inS (ns := ["word", "name", "field", "null"]) rfl ?_
      walk_at "gz"
      exact q
    | pick c a b =>
      have hm : ("pick" : Str) ∉ (["word", "name", "field", "null"] : List Str) := by decide
      simp only [exG, Ex.sub, List.map_cons, List.map_nil] at q ⊢
      walk_at "g0"
      walk_at "gz"
      refine v_inS (ns := ["word", "name", "field", "null"]) rfl ?_
      walk_at "gz"
      exact q
    | wide a w =>
      have hm : ("wide" : Str) ∉ (["word", "name", "field", "null"] : List Str) := by decide
      simp only [exG, Ex.sub, List.map_cons, List.map_nil] at q ⊢
      walk_at "g0"
      walk_at "gz"
      refine v_inS (ns := ["word", "name", "field", "null"]) rfl ?_
      walk_at "gz"
      exact q
end
end Zn
namespace Zn
open PySem PySem.Spec PyProof.Rows L2 TL
theorem exG_hd (e : Ex) : ∃ gs, exG e = .tup (.str e.op :: gs) := by
  cases e <;> exact ⟨_, rfl⟩
/-- an expr with parts is worth what its operation gives of its parts -/
theorem Wt.parts {cs : Wl} {e : Ex} {r : Wp} (h : Wt cs e r) : (∃ n, e = .nm n) ∨ (∃ v w, e = .wd v w) ∨ (∃ a w, e = .wide a w) ∨ ∃ ps, WtL cs e.sub ps ∧ Op e.op ps r := by
  cases h with
  | nm => exact .inl ⟨_, rfl⟩
  | wd => exact .inr (.inl ⟨_, _, rfl⟩)
  | un a o => exact .inr (.inr (.inr ⟨_, .cons a .nil, o⟩))
  | bin a b o => exact .inr (.inr (.inr ⟨_, .cons a (.cons b .nil), o⟩))
  | pick c a b o => exact .inr (.inr (.inr ⟨_, .cons c (.cons a (.cons b .nil)), o⟩))
  | wide => exact .inr (.inr (.inl ⟨_, _, rfl⟩))
theorem sub_dep {e e' : Ex} (h : e' ∈ e.sub) : e'.dep < e.dep := by
  cases e <;> simp only [Ex.sub, List.mem_cons, List.not_mem_nil, or_false] at h <;> simp only [Ex.dep]
  · subst h; omega
  · rcases h with rfl | rfl <;> omega
  · rcases h with rfl | rfl | rfl <;> omega
  · subst h; omega
section
variable {P : Program} {w : World} {K : PySem.W.Frag} {mg : Str → Option Value} {base : Heap} {aR aN C : Addr} {n : Nat}
theorem ok_lworth {f : Addr} {fd : FuncData} (F : Fun K "_law_worth" "_law_worth" s__law_worth f fd) (c__law_operands : Cal P w K mg base "_law_operands" 1 (spG K ufOps)) (c__law_word : Cal P w K mg base "_law_word" 1 (spG K ufLWord)) (c__law_worth : Cal P w K mg base "_law_worth" (n + 2) (spG K (ufLWorth n))) (T : Tx K mg aR aN) : FnOk P w K mg base CX0 (n + 3) f fd ["_law_names", "_law_expr"] (spG K (ufLWorth (n + 1))) := by
  refine g_ok F sc__law_worth (fun gs Φ h => ?_) (fun cdv A outer s H E hr => ?_)
  · obtain ⟨_, _, _, rfl, _⟩ := h
    rfl
  · refine ⟨_, _, 
      (gss_cons (gs_set (i := 2) sc__law_worth.nd rfl (Or.inl rfl) (k_ixT K (Zn.gv 1) ge_int))
      (gss_cons (gs_post (gs_if (gt_cmpR go_eqS (Zn.gv 2) ge_str (nomark _)) 
       (gss_one (gs_ret (ge_tup (ga_cons (k_ixT K (Zn.gv 1) ge_int) (ga_cons (k_ixT K (Zn.gv 1) ge_int) ga_nil))))) gss_nil))
      (gss_cons (gs_post (gs_if (gt_cmpR go_eqS (Zn.gv 2) ge_str (nomark _)) 
       (gss_one (gs_ret (k_dget (hu_of hr) (Zn.gv 0) (k_ixT K (Zn.gv 1) ge_int)))) gss_nil))
      (gss_cons (gs_setLcG (own := [("_law_part", 4)]) (i := 3) rfl sc__law_worth.nd rfl rfl (sw_true rfl rfl rfl (by decide +kernel)) (k_itT K (k_cal K c__law_operands (hr.mono (by omega)) (by rfl) (ga_cons (Zn.gv 1) ga_nil))) (blkOk_by (N := ["_law_names", "_law_expr", "_law_word_here", "_law_parts", "_law_part", "_law_words", "_law_width", "_law_found"]) (sc := defScope s__law_worth) (by decide +kernel)) (fun _ _ _ _ _ => (gg_name (i := 4) sc__law_worth.nd rfl (Or.inl rfl))) (fun _ _ _ _ _ => gts_nil) (fun _ _ _ _ _ => (k_cal K c__law_worth (hr.mono (by omega)) (by rfl) (ga_cons (Zn.gv 0) (ga_cons (Zn.gv 4) ga_nil)))) (by decide))
      (gss_cons (gs_setLcG (own := [("_law_part", 4)]) (i := 5) rfl sc__law_worth.nd rfl rfl (sw_true rfl rfl rfl (by decide +kernel)) (k_itL K (Zn.gv 3)) (blkOk_by (N := ["_law_names", "_law_expr", "_law_word_here", "_law_parts", "_law_part", "_law_words", "_law_width", "_law_found"]) (sc := defScope s__law_worth) (by decide +kernel)) (fun _ _ _ _ _ => (gg_name (i := 4) sc__law_worth.nd rfl (Or.inl rfl))) (fun _ _ _ _ _ => gts_nil) (fun _ _ _ _ _ => (k_ixT K (Zn.gv 4) ge_int)) (by decide))
      (gss_cons (gs_post (gs_if (gt_cmpR go_eqS (Zn.gv 2) ge_str (nomark _)) 
       (gss_one (gs_ret (ge_tup (ga_cons (k_ixT K (Zn.gv 1) ge_int) (ga_cons (k_cal K c__law_word (hr.mono (by omega)) (by rfl) (ga_cons (Zn.gv 2) (ga_cons (k_ixT K (Zn.gv 1) ge_int) (ga_cons (Zn.gv 5) ga_nil)))) ga_nil))))) gss_nil))
      (gss_cons (gs_set (i := 6) sc__law_worth.nd rfl (Or.inl rfl) (ge_post (ge_ifExp (gt_cmpR go_eqS (Zn.gv 2) ge_str (nomark _)) (k_ixT K (k_ixL K (Zn.gv 3) ge_int) ge_int) (k_ixT K (k_ixL K (Zn.gv 3) ge_int) ge_int))))
      (gss_cons (gs_set (i := 7) sc__law_worth.nd rfl (Or.inl rfl) (k_cal K c__law_word (hr.mono (by omega)) (by rfl) (ga_cons (Zn.gv 2) (ga_cons (Zn.gv 6) (ga_cons (Zn.gv 5) ga_nil)))))
      (gss_one (gs_ret (ge_tup (ga_cons (ge_post (ge_ifExp (kt_inS K (Zn.gv 2) (GE.gb (ge_tup (ga_cons ge_str (ga_cons ge_str (ga_cons ge_str (ga_cons ge_str ga_nil))))))) ge_int (Zn.gv 6))) (ga_cons (Zn.gv 7) ga_nil))))))))))))), ?_⟩
    rintro gs Φ ⟨e, cs, r, rfl, hd, hw, k⟩
    rcases hw.parts with ⟨nm, rfl⟩ | ⟨v, wd, rfl⟩ | ⟨a, wd, rfl⟩ | ⟨ps, hl, ho⟩
    · cases hw with
      | nm hg =>
        simp only [exG]
        walk_at "g0"
        walk_at "gz"
        exact ⟨.inr nm, _, rfl, hg, k⟩
    · cases hw
      simp only [exG]
      walk_at "g0"
      walk_at "gz"
      exact k
    · cases hw with
      | @wide _ p _ z ha w1 w8 hv =>
        have hd' := hd
        simp only [Ex.dep] at hd'
        have e1 : exG (.wide a wd) = .tup [.str "wide", exG a, .int wd] := rfl
        walk_at "g0"
        rw [e1]
        walk_at "gz"
        refine ⟨.wide a wd, rfl, ⟨by simp only [Ex.op]; decide, by simp only [Ex.op]; decide, by simp only [Ex.op]; decide, by simp only [Ex.op]; decide, by simp only [Ex.op]; decide, fun _ => ⟨a, wd, rfl⟩⟩, ?_⟩
        rw [show (Ex.wide a wd).sub.map exG = [exG a] from rfl]
        walk_at "gz"
        refine ⟨fun i acc ρ => ρ = [.fz (dG (wlG cs)), .fz (.tup [.str "wide", exG a, .int wd]), .fz (.str "wide"), .un, .un, .un, .un, .un] ∧ acc = [wG p].take i, ⟨rfl, rfl⟩, ?_, ?_⟩
        · rintro i g acc ρ2 hg hl ⟨rfl, rfl⟩
          rcases i with _ | i
          · cases hg
            walk_at "gz"
            refine ⟨a, cs, p, rfl, by omega, ha, ?_⟩
            walk_at "gz"
            exact ⟨rfl, rfl⟩
          · cases hg
        rintro acc ρ2 - ⟨rfl, rfl⟩
        walk_at "gz"
        refine ⟨fun i acc ρ => ρ = [.fz (dG (wlG cs)), .fz (.tup [.str "wide", exG a, .int wd]), .fz (.str "wide"), .fz (.lst [wG p]), .un, .un, .un, .un] ∧ acc = [G.int p.2].take i, ⟨rfl, rfl⟩, ?_, ?_⟩
        · rintro i g acc ρ2 hg hl ⟨rfl, rfl⟩
          rcases i with _ | i
          · cases hg
            walk_at "gz"
            exact ⟨rfl, rfl⟩
          · cases hg
        rintro acc ρ2 - ⟨rfl, rfl⟩
        walk_at "gz"
        refine ⟨"wide", wd, [p.2], z, rfl, w1, w8, hv, ?_⟩
        walk_at "gz"
        exact k
    · obtain ⟨h1, h2, h3, h4, h5, h6⟩ := ho.not
      obtain ⟨gs0, eg⟩ := exG_hd e
      have hps := hl.len
      walk_at "g0"
      rw [eg]
      walk_at "gz"
      refine v_ixT (g := .str e.op) (atI_nat (j := 0) rfl) ?_
      walk_at "gz"
      refine ⟨e, by rw [eg], ⟨h1, h2, h3, h4, h5, fun z => (h6 z).elim⟩, ?_⟩
      have hsl : (e.sub.map exG).length = e.sub.length := List.length_map ..
      have hl3 : e.sub.length ≤ 3 := by cases e <;> simp [Ex.sub]
      walk_at "gz"
      refine ⟨fun i acc ρ => ρ = [.fz (dG (wlG cs)), .fz (.tup (.str e.op :: gs0)), .fz (.str e.op), .un, .un, .un, .un, .un] ∧ acc = (ps.take i).map wG, ⟨rfl, rfl⟩, ?_, ?_⟩
      · rintro i g acc ρ2 hg hl' ⟨rfl, rfl⟩
        obtain ⟨a, ha, rfl⟩ := get_map hg
        obtain ⟨p, hp, wa⟩ := hl.get ha
        have hda := sub_dep (List.mem_of_getElem? ha)
        walk_at "gz"
        refine ⟨a, cs, p, rfl, by omega, wa, ?_⟩
        walk_at "gz"
        exact ⟨rfl, by rw [take_snoc hp, List.map_append]; rfl⟩
      rintro acc ρ2 - ⟨rfl, rfl⟩
      rw [hsl, ← hps, List.take_length]
      have hpl : (ps.map wG).length = ps.length := List.length_map ..
      walk_at "gz"
      refine ⟨fun i acc ρ => ρ = [.fz (dG (wlG cs)), .fz (.tup (.str e.op :: gs0)), .fz (.str e.op), .fz (.lst (ps.map wG)), .un, .un, .un, .un] ∧ acc = ((ps.map (·.2)).take i).map G.int, ⟨rfl, rfl⟩, ?_, ?_⟩
      · rintro i g acc ρ2 hg hl' ⟨rfl, rfl⟩
        obtain ⟨p, hp, rfl⟩ := get_map hg
        walk_at "gz"
        refine ⟨rfl, ?_⟩
        rw [take_snoc (x := p.2) (by rw [List.getElem?_map, hp]; rfl), List.map_append]
        rfl
      rintro acc ρ2 - ⟨rfl, rfl⟩
      rw [hpl, List.take_of_length_le (by rw [List.length_map]; exact Nat.le_refl _)]
      generalize e.op = o at *
      cases ho with
      | @rel o p q z h w1 w8 v =>
        have hm : o ∈ (["==", "!=", "<", "<="] : List Str) := by rcases h with rfl | rfl | rfl | rfl <;> simp
        have hp : ¬ o = "pick" := by rcases h with rfl | rfl | rfl | rfl <;> decide
        walk_at "gz"
        refine ⟨o, p.1, [p.2, q.2], z, rfl, w1, w8, v, ?_⟩
        walk_at "gz"
        refine v_inS (ns := ["==", "!=", "<", "<="]) rfl ?_
        walk_at "gz"
        exact k
      | @two o p q z h w1 w8 v =>
        have hm : o ∉ (["==", "!=", "<", "<="] : List Str) := by
          simp only [List.mem_cons, List.not_mem_nil, or_false] at h
          rcases h with rfl | rfl | rfl | rfl | rfl | rfl | rfl | rfl | rfl | rfl <;> decide
        have hp : ¬ o = "pick" := by
          simp only [List.mem_cons, List.not_mem_nil, or_false] at h
          rcases h with rfl | rfl | rfl | rfl | rfl | rfl | rfl | rfl | rfl | rfl <;> decide
        walk_at "gz"
        refine ⟨o, p.1, [p.2, q.2], z, rfl, w1, w8, v, ?_⟩
        walk_at "gz"
        refine v_inS (ns := ["==", "!=", "<", "<="]) rfl ?_
        walk_at "gz"
        exact k
      | @one o p z h w1 w8 v =>
        have hm : o ∉ (["==", "!=", "<", "<="] : List Str) := by rcases h with rfl | rfl <;> decide
        have hp : ¬ o = "pick" := by rcases h with rfl | rfl <;> decide
        walk_at "gz"
        refine ⟨o, p.1, [p.2], z, rfl, w1, w8, v, ?_⟩
        walk_at "gz"
        refine v_inS (ns := ["==", "!=", "<", "<="]) rfl ?_
        walk_at "gz"
        exact k
      | @pick c p q z w1 w8 v =>
        have hm : ("pick" : Str) ∉ (["==", "!=", "<", "<="] : List Str) := by decide
        walk_at "gz"
        refine ⟨"pick", p.1, [c.2, p.2, q.2], z, rfl, w1, w8, v, ?_⟩
        walk_at "gz"
        refine v_inS (ns := ["==", "!=", "<", "<="]) rfl ?_
        walk_at "gz"
        exact k
theorem cal_lworth {f : Addr} {fd : FuncData} (hm : mg "_law_worth" = some (.ref f)) (F : Fun K "_law_worth" "_law_worth" s__law_worth f fd) (c__law_operands : Cal P w K mg base "_law_operands" 1 (spG K ufOps)) (c__law_word : Cal P w K mg base "_law_word" 1 (spG K ufLWord)) (T : Tx K mg aR aN) : ∀ n, Cal P w K mg base "_law_worth" (n + 2) (spG K (ufLWorth n))
  | 0 => cal_none hm F.kp fun gs Φ ⟨e, cs, p, h, hl, _⟩ => by omega
  | n + 1 => cal_of (N := []) hm F (fun _ _ _ _ _ _ us hl => match us, hl with | [_, _], _ => rfl) (ok_lworth F c__law_operands c__law_word (cal_lworth hm F c__law_operands c__law_word T n) T)
end
end Zn
namespace Zn
open PySem PySem.Spec PyProof.Rows L2 TL
abbrev s_all_words : Stmt := topS 3
theorem sc_all_words : FnScope ["widths", "rows", "width", "row", "word"] ["widths"] (defScope s_all_words) := ⟨rfl, rfl, rfl, by decide +kernel, rfl, by decide +kernel, by decide +kernel⟩

/-- all rows of words of these widths, in order -/
def rowsW : List Nat → List (List Int)
  | ws => ws.foldl (fun rows w => rows.flatMap fun r => (List.range (2 ^ w)).map fun a : Nat => r ++ [(a : Int)]) [[]]
abbrev gWs (r : List Int) : G := .tup (r.map G.int)
theorem rowsW_snoc (ws : List Nat) (w : Nat) : rowsW (ws ++ [w]) = (rowsW ws).flatMap fun r => (List.range (2 ^ w)).map fun a : Nat => r ++ [(a : Int)] := by
  unfold rowsW
  rw [List.foldl_append]
  rfl
theorem flatW_len (l : List (List Int)) (k : Nat) : (l.flatMap fun r => (List.range (2 ^ k)).map fun a : Nat => r ++ [(a : Int)]).length = l.length * 2 ^ k := by
  induction l with
  | nil => simp
  | cons a l ih => rw [List.flatMap_cons, List.length_append, ih, List.length_map, List.length_range, List.length_cons, Nat.succ_mul]; omega
theorem sum_take_le (ws : List Nat) (i : Nat) : (ws.take i).sum ≤ ws.sum := by
  conv => rhs; rw [← List.take_append_drop i ws, List.sum_append]
  omega
theorem rowsW_len (ws : List Nat) : (rowsW ws).length = 2 ^ ws.sum := by
  have key : ∀ n (ws : List Nat), ws.length = n → (rowsW ws).length = 2 ^ ws.sum := fun n => by
    induction n with
    | zero => intro ws h; rw [List.eq_nil_of_length_eq_zero h]; rfl
    | succ n ih =>
      intro ws h
      have hn : ws ≠ [] := by intro z; rw [z] at h; cases h
      rw [← List.dropLast_concat_getLast hn, rowsW_snoc, List.sum_append]
      have h1 := ih ws.dropLast (by rw [List.length_dropLast]; omega)
      rw [flatW_len, h1, List.sum_cons, List.sum_nil, Nat.add_zero, Nat.pow_add]
  exact key _ ws rfl
theorem rowsW_mem {ws : List Nat} {r : List Int} (h : r ∈ rowsW ws) : r.length = ws.length := by
  have key : ∀ n (ws : List Nat) (r : List Int), ws.length = n → r ∈ rowsW ws → r.length = n := fun n => by
    induction n with
    | zero =>
      intro ws r h hr
      rw [List.eq_nil_of_length_eq_zero h] at hr
      rw [List.mem_singleton.mp hr]
      rfl
    | succ n ih =>
      intro ws r h hr
      have hn : ws ≠ [] := by intro z; rw [z] at h; cases h
      rw [← List.dropLast_concat_getLast hn, rowsW_snoc] at hr
      obtain ⟨r', hr', h2⟩ := List.mem_flatMap.mp hr
      obtain ⟨a, _, rfl⟩ := List.mem_map.mp h2
      rw [List.length_append, ih ws.dropLast r' (by rw [List.length_dropLast]; omega) hr']
      rfl
  exact key _ ws r rfl h
def ufAll : List G → (G → Prop) → Prop := fun gs Φ => ∃ ws : List Nat, gs = [.lst (ws.map fun w : Nat => G.int (w : Int))] ∧ ws.sum ≤ 16 ∧ ws.length ≤ 8 ∧ Φ (.lst ((rowsW ws).map gWs))
section
variable {P : Program} {w : World} {K : PySem.W.Frag} {mg : Str → Option Value} {base : Heap} {aR aN C : Addr} {n : Nat}
theorem ok_allw {f : Addr} {fd : FuncData} (F : Fun K "all_words" "all_words" s_all_words f fd) (T : Tx K mg aR aN) : FnOk P w K mg base CX0 1 f fd ["widths"] (spG K ufAll) := by
  refine g_ok F sc_all_words (fun gs Φ h => ?_) (fun cdv A outer s H E hr => ?_)
  · obtain ⟨_, rfl, _⟩ := h
    rfl
  · refine ⟨_, _, 
      (gss_cons (gs_set (i := 1) sc_all_words.nd rfl (Or.inl rfl) (GN.ge (gn_lst (ga_cons (ge_tup ga_nil) ga_nil))))
      (gss_cons (gs_for PassesOwn.never rfl (k_itL K (Zn.gv 0)) (gg_name (i := 2) sc_all_words.nd rfl (Or.inr rfl)) 
       (gss_one (gs_setLc2 (own := [("row", 3), ("word", 4)]) (vs1 := [4]) (i := 1) rfl sc_all_words.nd rfl rfl (sw_true rfl rfl rfl (by decide +kernel)) (k_itL K (Zn.gv 1)) (blkOk_by (N := ["widths", "rows", "width", "row", "word"]) (sc := defScope s_all_words) (by decide +kernel)) (by decide) (fun _ _ _ _ _ => (gg_name (i := 3) sc_all_words.nd rfl (Or.inl rfl))) (fun _ _ _ _ _ => gts_nil) (fun _ _ _ _ _ => (gi_range1 (by rfl) T.z_range (ge_op go_shl ge_int (Zn.gv 2)))) (fun _ _ _ _ _ => (gg_name (i := 4) sc_all_words.nd rfl (Or.inl rfl))) (fun _ _ _ _ _ => gts_nil) (fun _ _ _ _ _ => (ge_tup (k_star K (Zn.gv 3) (ga_cons (Zn.gv 4) ga_nil)))) (by decide) (by decide))))
      (gss_one (gs_ret (Zn.gv 1))))), ?_⟩
    rintro gs Φ ⟨ws, rfl, hs, hl, q⟩
    walk_at "g0"
    walk_at "gs"
    refine ⟨fun i ρ => ∃ v2, ρ = [.fz (.lst (ws.map fun w : Nat => G.int (w : Int))), .fz (.lst ((rowsW (ws.take i)).map gWs)), v2, .un, .un], ⟨_, rfl⟩, ?_, ?_⟩
    · rintro i g ρ hi ⟨v2, rfl⟩
      obtain ⟨k, hk, rfl⟩ := get_map hi
      walk_at "gs"
      have hcp : CPow 1 (k : Int) := ⟨by omega, by
        have h1 := sum_take_le ws (i + 1)
        rw [take_snoc hk, List.sum_append] at h1
        simp only [List.sum_cons, List.sum_nil] at h1
        omega, by decide⟩
      have hsum : (rowsW (ws.take i)).length * 2 ^ k ≤ 65536 := by
        have h1 := sum_take_le ws (i + 1)
        rw [take_snoc hk, List.sum_append] at h1
        simp only [List.sum_cons, List.sum_nil, Nat.add_zero] at h1
        rw [rowsW_len, ← Nat.pow_add, show 65536 = 2 ^ 16 from rfl]
        exact Nat.pow_le_pow_right (by decide) (by omega)
      refine ⟨fun i' acc ρ => ρ = [.fz (.lst (ws.map fun w : Nat => G.int (w : Int))), .fz (.lst ((rowsW (ws.take i)).map gWs)), .fz (.int (k : Int)), .un, .un] ∧ acc = (((rowsW (ws.take i)).take i').flatMap fun r => (List.range (2 ^ k)).map fun a : Nat => r ++ [(a : Int)]).map gWs, ⟨rfl, rfl⟩, ?_, ?_⟩
      · rintro i' g acc ρ2 hg ⟨rfl, rfl⟩
        obtain ⟨r, hr, rfl⟩ := get_map hg
        have hil := getL hr
        have hr' := List.mem_of_getElem? hr
        walk_at "gs"
        have e2 : (1 : Int) * 2 ^ ((k : Int)).toNat = ((2 ^ k : Nat) : Int) := by
          rw [Int.one_mul, Int.toNat_natCast, Int.natCast_pow]
          rfl
        have hk16 : (2 : Nat) ^ k ≤ 65536 := by
          have : 0 < (rowsW (ws.take i)).length := by omega
          exact Nat.le_trans (Nat.le_mul_of_pos_left _ this) hsum
        rw [e2]
        refine ⟨Int.le_trans (by decide : (-2 ^ 62 : Int) ≤ 0) (Int.natCast_nonneg _), by omega, fun j acc ρ => ρ = [.fz (.lst (ws.map fun w : Nat => G.int (w : Int))), .fz (.lst ((rowsW (ws.take i)).map gWs)), .fz (.int (k : Int)), .fz (gWs r), .un] ∧ acc = ((((rowsW (ws.take i)).take i').flatMap fun r => (List.range (2 ^ k)).map fun a : Nat => r ++ [(a : Int)]) ++ (List.range j).map fun a : Nat => r ++ [(a : Int)]).map gWs, ⟨rfl, by simp⟩, ?_, ?_⟩
        · rintro j h acc ρ6 hj ⟨rfl, rfl⟩
          obtain ⟨hj, rfl⟩ := rgG_get hj
          have hrl := rowsW_mem hr'
          rw [List.length_take] at hrl
          walk_at "gs"
          refine ⟨?_, rfl, ?_⟩
          · rw [List.length_map, List.length_append, flatW_len, List.length_take, List.length_map, List.length_range]
            have h1 : (i' + 1) * 2 ^ k ≤ (rowsW (ws.take i)).length * 2 ^ k := Nat.mul_le_mul_right _ hil
            rw [Nat.succ_mul] at h1
            rw [Nat.min_eq_left (Nat.le_of_lt hil)]
            omega
          · rw [List.range_succ]
            simp only [List.map_append, List.map_cons, List.map_nil, List.append_assoc, gWs, Int.zero_add]
        · rintro acc ρ6 ⟨rfl, rfl⟩
          walk_at "gs"
          refine ⟨rfl, ?_⟩
          rw [rgG_len, Int.toNat_natCast, take_snoc hr, List.flatMap_append]
          simp
      · rintro acc ρ2 ⟨rfl, rfl⟩
        rw [List.length_map, List.take_length, ← rowsW_snoc, ← take_snoc hk]
        walk_at "gs"
        exact ⟨_, rfl⟩
    · rintro ρ ⟨v2, rfl⟩
      rw [List.length_map, List.take_length]
      walk_at "gs"
      exact q
end
end Zn
namespace Zn
open PySem PySem.Spec PyProof.Rows L2 TL
abbrev s_outer_cells : Stmt := topS 17
theorem sc_outer_cells : FnScope ["external", "args", "name", "kind", "word"] ["external", "args"] (defScope s_outer_cells) := ⟨rfl, rfl, rfl, by decide +kernel, rfl, by decide +kernel, by decide +kernel⟩

/-- an external -/
structure Pt where
  nm : Str
  rows : List (Str × Nat)
  wd : Nat
  st : Int
  needs : Ex
  gives : Ex
abbrev gRw (r : Str × Nat) : G := .tup [.str r.1, .int (r.2 : Int)]
abbrev gP (p : Pt) : G := .tup [.str "external", .str p.nm, .tup (p.rows.map gRw), .int (p.wd : Int), .int p.st, exG p.needs, exG p.gives]
def envOf (rows : List (Str × Nat)) (ws : List Int) : Wl := (rows.zip ws).map fun p => (p.1.1, ((p.1.2 : Int), p.2))
def ufOuter : List G → (G → Prop) → Prop := fun gs Φ => ∃ (p : Pt) (ws : List Int), gs = [gP p, gWs ws] ∧ ws.length = p.rows.length ∧ p.rows.length ≤ 8 ∧ (p.rows.map (·.1)).Nodup ∧ Φ (dG (wlG (envOf p.rows ws)))
section
variable {P : Program} {w : World} {K : PySem.W.Frag} {mg : Str → Option Value} {base : Heap} {aR aN C : Addr} {n : Nat}
theorem ok_outer {f : Addr} {fd : FuncData} (F : Fun K "outer_cells" "outer_cells" s_outer_cells f fd) (T : Tx K mg aR aN) : FnOk P w K mg base CX0 1 f fd ["external", "args"] (spN K ufOuter) := by
  refine g_okN F sc_outer_cells (fun gs Φ h => ?_) (fun cdv A outer s H E hr => ?_)
  · obtain ⟨_, _, rfl, _⟩ := h
    rfl
  · refine ⟨_, _, 
      (gsn_retE (gn_dk (own := [("word", 4), ("name", 2), ("kind", 3)]) rfl sc_outer_cells.nd (k_itZT K (by rfl) T.z_zip (ga_cons (k_ixT K (Zn.gv 0) ge_int) (ga_cons (Zn.gv 1) ga_nil))) (blkOk_by (N := ["external", "args", "name", "kind", "word"]) (sc := defScope s_outer_cells) (by decide +kernel)) (fun _ _ _ _ _ => (k_gtup K (n := 2) (by rfl) (ggs_cons (k_gtup K (n := 2) (by rfl) (ggs_cons (gg_name (i := 2) sc_outer_cells.nd rfl (Or.inl rfl)) (ggs_cons (gg_name (i := 3) sc_outer_cells.nd rfl (Or.inl rfl)) ggs_nil))) (ggs_cons (gg_name (i := 4) sc_outer_cells.nd rfl (Or.inl rfl)) ggs_nil)))) (fun _ _ _ _ _ => gts_nil) (fun _ _ _ _ _ => (Zn.gv 2)) (fun _ _ _ _ _ => (ge_tup (ga_cons (Zn.gv 3) (ga_cons (Zn.gv 4) ga_nil)))) (by decide))), ?_⟩
    rintro gs Φ ⟨p, ws, rfl, hw, hr8, hnd, q⟩
    walk_at "g0"
    walk_at "gs"
    have hz : ∀ (i : Nat) (g : G), (zipG (p.rows.map gRw) (ws.map G.int))[i]? = some g → ∃ r x, p.rows[i]? = some r ∧ ws[i]? = some x ∧ g = .tup [gRw r, .int x] := fun i g h => by
      unfold zipG at h
      obtain ⟨a, b, h1, h2, e⟩ := List.getElem?_zipWith_eq_some.mp h
      obtain ⟨r, hr, rfl⟩ := get_map h1
      obtain ⟨x, hx, rfl⟩ := get_map h2
      exact ⟨r, x, hr, hx, e.symm⟩
    have hzl : (zipG (p.rows.map gRw) (ws.map G.int)).length = p.rows.length := by
      unfold zipG
      rw [List.length_zipWith, List.length_map, List.length_map, hw, Nat.min_self]
    refine ⟨p.rows.map gRw, ws.map G.int, rfl, by omega, fun i acc ρ => ρ = [.fz (gP p), .fz (gWs ws), .un, .un, .un] ∧ acc = wlG ((envOf p.rows ws).take i), ⟨rfl, rfl⟩, ?_, ?_⟩
    · rintro i g acc ρ hg hl ⟨rfl, rfl⟩
      obtain ⟨r, x, hr, hx, rfl⟩ := hz i g hg
      walk_at "gs"
      refine ⟨rfl, ?_⟩
      have he : (envOf p.rows ws)[i]? = some (r.1, ((r.2 : Int), x)) := by
        unfold envOf
        rw [List.getElem?_map, (List.getElem?_zip_eq_some (z := (r, x))).mpr ⟨hr, hx⟩]
        rfl
      rw [take_snoc he]
      unfold putD
      rw [if_neg]
      · unfold wlG
        rw [List.map_append]
        rfl
      · intro z
        obtain ⟨kv, hkv, e⟩ := List.any_eq_true.mp z
        have e := of_decide_eq_true e
        unfold wlG at hkv
        obtain ⟨c, hc, rfl⟩ := List.mem_map.mp hkv
        obtain ⟨j, hj⟩ := List.mem_iff_getElem?.mp hc
        have hji : j < i := by
          have := getL hj
          rw [List.length_take] at this
          omega
        rw [List.getElem?_take, if_pos hji] at hj
        unfold envOf at hj
        rw [List.getElem?_map] at hj
        obtain ⟨ab, hab, e2⟩ := Option.map_eq_some_iff.mp hj
        have h1 := (List.getElem?_zip_eq_some.mp hab).1
        have e3 : c.1 = r.1 := Sum.inr.inj e
        have e4 : ab.1.1 = r.1 := by rw [← e3, ← e2]
        have := (List.getElem?_inj (i := j) (j := i) (l := p.rows.map (·.1)) (by rw [List.length_map]; exact getL h1) hnd).mp (by rw [List.getElem?_map, List.getElem?_map, h1, hr]; simp [e4])
        omega
    · rintro acc ρ hl ⟨rfl, rfl⟩
      rw [hzl, List.take_of_length_le (by unfold envOf; rw [List.length_map, List.length_zip]; exact Nat.min_le_left _ _)]
      exact q
end
end Zn
namespace Zn
open PySem PySem.Spec PyProof.Rows L2 TL
abbrev s_needs_hold : Stmt := topS 15
theorem sc_needs_hold : FnScope ["external", "args"] ["external", "args"] (defScope s_needs_hold) := ⟨rfl, rfl, rfl, by decide +kernel, rfl, by decide +kernel, by decide +kernel⟩

abbrev s__given : Stmt := topS 16
theorem sc__given : FnScope ["external", "args", "cells", "words", "width", "answers", "answer"] ["external", "args"] (defScope s__given) := ⟨rfl, rfl, rfl, by decide +kernel, rfl, by decide +kernel, by decide +kernel⟩

open Classical in
/-- what an expr is worth, where it is worth something -/
noncomputable def W (cs : Wl) (e : Ex) : Wp := if h : ∃ p, Wt cs e p then Classical.choose h else (0, 0)
theorem W_spec {cs : Wl} {e : Ex} (h : ∃ p, Wt cs e p) : Wt cs e (W cs e) := by
  unfold W
  rw [dif_pos h]
  exact Classical.choose_spec h
def Fit (rows : List (Str × Nat)) (ws : List Int) : Prop := ws.length = rows.length ∧ ∀ (i : Nat) r x, rows[i]? = some r → ws[i]? = some x → 0 ≤ x ∧ x < 2 ^ r.2
abbrev resW (p : Pt) (a : Nat) : Str × Wp := ("result", ((p.wd : Int), (a : Int)))
structure OkPt (p : Pt) : Prop where
  rl : p.rows.length ≤ 8
  nd : (p.rows.map (·.1)).Nodup
  nr : ("result" : Str) ∉ p.rows.map (·.1)
  wd : p.wd ≤ 8
  d1 : p.needs.dep < 8
  d2 : p.gives.dep < 8
  h1 : ∀ ws, Fit p.rows ws → ∃ r, Wt (envOf p.rows ws) p.needs r
  h2 : ∀ ws (a : Nat), Fit p.rows ws → a < 2 ^ p.wd → ∃ r, Wt (envOf p.rows ws ++ [resW p a]) p.gives r
noncomputable def nee (p : Pt) (ws : List Int) : Bool := decide ((W (envOf p.rows ws) p.needs).2 = 1)
noncomputable def giv (p : Pt) (ws : List Int) : List Int := ((List.range (2 ^ p.wd)).filter fun a => decide ((W (envOf p.rows ws ++ [resW p a]) p.gives).2 = 1)).map fun a : Nat => (a : Int)
def ufNeeds : List G → (G → Prop) → Prop := fun gs Φ => ∃ (p : Pt) (ws : List Int), gs = [gP p, gWs ws] ∧ OkPt p ∧ Fit p.rows ws ∧ Φ (.bl (nee p ws))
def ufGiven : List G → (G → Prop) → Prop := fun gs Φ => ∃ (p : Pt) (ws : List Int), gs = [gP p, gWs ws] ∧ OkPt p ∧ Fit p.rows ws ∧ Φ (.lst ((giv p ws).map G.int))
section
variable {P : Program} {w : World} {K : PySem.W.Frag} {mg : Str → Option Value} {base : Heap} {aR aN C : Addr} {n : Nat}
theorem ok_needs {f : Addr} {fd : FuncData} (F : Fun K "needs_hold" "needs_hold" s_needs_hold f fd) (M_Words : Mk0 K C) (m_Words : mg "Words" = some (.ref C)) (c_Words_worth : CalM P w K mg base C "worth" 14 (spG K (ufWorth C 8))) (c_outer_cells : Cal P w K mg base "outer_cells" 1 (spN K ufOuter)) (T : Tx K mg aR aN) : FnOk P w K mg base CX0 15 f fd ["external", "args"] (spG K ufNeeds) := by
  refine g_ok F sc_needs_hold (fun gs Φ h => ?_) (fun cdv A outer s H E hr => ?_)
  · obtain ⟨_, _, rfl, _⟩ := h
    rfl
  · refine ⟨_, _, 
      (gss_one (gs_ret (ge_cmpR go_eqI (k_ixT K (k_meth K (k_new K M_Words (by rfl) m_Words) c_Words_worth (hr.mono (by decide)) (ga_cons (k_ixT K (Zn.gv 0) ge_int) (ga_cons (GN.ge (k_calN K c_outer_cells (hr.mono (by decide)) (by rfl) (ga_cons (Zn.gv 0) (ga_cons (Zn.gv 1) ga_nil)))) (ga_cons (ge_tup ga_nil) ga_nil)))) ge_int) ge_int (nomark _)))), ?_⟩
    rintro gs Φ ⟨p, ws, rfl, ok, ft, q⟩
    walk_at "g0"
    walk_at "gz"
    refine ⟨rfl, ?_⟩
    walk_at "gz"
    refine ⟨p, ws, rfl, ft.1, ok.rl, ok.nd, ?_⟩
    walk_at "gz"
    refine ⟨p.needs, envOf p.rows ws, W (envOf p.rows ws) p.needs, rfl, ok.d1, W_spec (ok.h1 ws ft), ?_⟩
    walk_at "gz"
    exact q
theorem env_nr {p : Pt} {ws : List Int} (ok : OkPt p) : ∀ c ∈ envOf p.rows ws, c.1 ≠ "result" := fun c hc e => by
  unfold envOf at hc
  obtain ⟨ab, hab, rfl⟩ := List.mem_map.mp hc
  exact ok.nr (List.mem_map.mpr ⟨ab.1, (List.of_mem_zip hab).1, e⟩)
theorem put_res {p : Pt} {ws : List Int} (ok : OkPt p) (a : Nat) {kv : Kv} (h : kv = wlG (envOf p.rows ws) ∨ ∃ b, kv = wlG (envOf p.rows ws ++ [resW p b])) : putD kv (.inr "result") (.tup [.int (p.wd : Int), .int (a : Int)]) = wlG (envOf p.rows ws ++ [resW p a]) := by
  have hne : ∀ kv ∈ wlG (envOf p.rows ws), ¬ kv.1 = (.inr "result" : L2.Key) := fun kv hkv e => by
    unfold wlG at hkv
    obtain ⟨c, hc, rfl⟩ := List.mem_map.mp hkv
    exact env_nr ok c hc (Sum.inr.inj e)
  rcases h with rfl | ⟨b, rfl⟩
  · unfold putD
    rw [if_neg]
    · unfold wlG
      rw [List.map_append]
      rfl
    · intro z
      obtain ⟨kv, hkv, e⟩ := List.any_eq_true.mp z
      exact hne kv hkv (of_decide_eq_true e)
  · have e1 : ∀ b, wlG (envOf p.rows ws ++ [resW p b]) = wlG (envOf p.rows ws) ++ [((.inr "result" : L2.Key), wG ((p.wd : Int), (b : Int)))] := fun b => by
      unfold wlG
      rw [List.map_append]
      rfl
    rw [e1, e1]
    unfold putD
    rw [if_pos (by simp), List.map_append]
    congr 1
    conv => rhs; rw [← List.map_id (wlG (envOf p.rows ws))]
    exact List.map_congr_left fun kv hkv => if_neg (hne kv hkv)
theorem ok_given {f : Addr} {fd : FuncData} (F : Fun K "_given" "_given" s__given f fd) (M_Words : Mk0 K C) (m_Words : mg "Words" = some (.ref C)) (c_Words_worth : CalM P w K mg base C "worth" 14 (spG K (ufWorth C 8))) (c_outer_cells : Cal P w K mg base "outer_cells" 1 (spN K ufOuter)) (T : Tx K mg aR aN) : FnOk P w K mg base CX0 15 f fd ["external", "args"] (spG K ufGiven) := by
  refine g_ok F sc__given (fun gs Φ h => ?_) (fun cdv A outer s H E hr => ?_)
  · obtain ⟨_, _, rfl, _⟩ := h
    rfl
  · refine ⟨_, _, 
      (gss_cons (gs_setO (i := 2) sc__given.nd rfl (Or.inl rfl) (k_calN K c_outer_cells (hr.mono (by decide)) (by rfl) (ga_cons (Zn.gv 0) (ga_cons (Zn.gv 1) ga_nil))))
      (gss_cons (gs_set (i := 3) sc__given.nd rfl (Or.inl rfl) (k_new K M_Words (by rfl) m_Words))
      (gss_cons (gs_set (i := 4) sc__given.nd rfl (Or.inl rfl) (k_ixT K (Zn.gv 0) ge_int))
      (gss_cons (gs_setO (i := 5) sc__given.nd rfl (Or.inl rfl) (gn_lst ga_nil))
      (gss_cons (gs_for PassesOwn.never rfl (gi_range1 (by rfl) T.z_range (ge_op go_shl ge_int (Zn.gv 4))) (gg_name (i := 6) sc__given.nd rfl (Or.inl rfl)) 
       (gss_cons (gs_putD (hu_of hr) 2 ge_str (ge_tup (ga_cons (Zn.gv 4) (ga_cons (Zn.gv 6) ga_nil))))
       (gss_one (gs_post (gs_if (gt_cmpR go_eqI (k_ixT K (k_methB K (Zn.gv 3) c_Words_worth (hr.mono (by decide)) (gab_cons (k_ixT K (Zn.gv 0) ge_int) (gab_own 2 (gab_cons (ge_tup ga_nil) (gab ga_nil))))) ge_int) ge_int (nomark _)) 
        (gss_one (gs_expr (k_app K 5 (Zn.gv 6)))) gss_nil)))))
      (gss_one (gs_ret (Zn.gvF 5)))))))), ?_⟩
    rintro gs Φ ⟨p, ws, rfl, ok, ft, q⟩
    walk_at "g0"
    walk_at "gz"
    refine ⟨p, ws, rfl, ft.1, ok.rl, ok.nd, ?_⟩
    have hwd := ok.wd
    have hcp : CPow 1 (p.wd : Int) := ⟨by omega, by omega, by decide⟩
    have e2 : (1 : Int) * 2 ^ ((p.wd : Int)).toNat = ((2 ^ p.wd : Nat) : Int) := by
      rw [Int.one_mul, Int.toNat_natCast, Int.natCast_pow]
      rfl
    have h256 : (2 : Nat) ^ p.wd ≤ 256 := Nat.le_trans (Nat.pow_le_pow_right (by decide) hwd) (by decide : (2 : Nat) ^ 8 ≤ 256)
    walk_at "gz"
    rw [e2]
    refine ⟨Int.le_trans (by decide : (-2 ^ 62 : Int) ≤ 0) (Int.natCast_nonneg _), by omega, fun i ρ => ∃ (kv : Kv) (v6 : SG), ρ = [.fz (gP p), .fz (gWs ws), .ow true (dG kv), .fz (.obj C), .fz (.int (p.wd : Int)), .ow true (.lst ((((List.range i).filter fun a => decide ((W (envOf p.rows ws ++ [resW p a]) p.gives).2 = 1)).map fun a : Nat => (a : Int)).map G.int)), v6] ∧ (kv = wlG (envOf p.rows ws) ∨ ∃ b, kv = wlG (envOf p.rows ws ++ [resW p b])), ⟨_, _, rfl, .inl rfl⟩, ?_, ?_⟩
    · rintro i g ρ hi ⟨kv, v6, rfl, hkv⟩
      obtain ⟨hi, rfl⟩ := rgG_get hi
      have hi : i < 2 ^ p.wd := by omega
      have hpr := put_res ok i hkv
      have hkl : kv.length ≤ 9 := by
        have : (envOf p.rows ws).length ≤ 8 := by unfold envOf; rw [List.length_map, List.length_zip]; exact Nat.le_trans (Nat.min_le_left _ _) ok.rl
        rcases hkv with rfl | ⟨b, rfl⟩
        · unfold wlG; rw [List.length_map]; omega
        · unfold wlG; rw [List.length_map, List.length_append]; simp only [List.length_cons, List.length_nil]; omega
      have hfl : ((((List.range i).filter fun a => decide ((W (envOf p.rows ws ++ [resW p a]) p.gives).2 = 1)).map fun a : Nat => (a : Int)).map G.int).length ≤ 256 := by
        rw [List.length_map, List.length_map]
        have := List.length_filter_le (fun a => decide ((W (envOf p.rows ws ++ [resW p a]) p.gives).2 = 1)) (List.range i)
        rw [List.length_range] at this
        omega
      walk_at "gz"
      rw [Int.zero_add, hpr]
      refine ⟨rfl, ?_⟩
      walk_at "gz"
      have hw := W_spec (ok.h2 ws i ft hi)
      have e3 : (List.range (i + 1)).filter (fun a => decide ((W (envOf p.rows ws ++ [resW p a]) p.gives).2 = 1)) = (List.range i).filter (fun a => decide ((W (envOf p.rows ws ++ [resW p a]) p.gives).2 = 1)) ++ if (W (envOf p.rows ws ++ [resW p i]) p.gives).2 = 1 then [i] else [] := by
        rw [List.range_succ, List.filter_append]
        congr 1
        by_cases c : (W (envOf p.rows ws ++ [resW p i]) p.gives).2 = 1
        · simp [List.filter_cons, c]
        · simp [List.filter_cons, c]
      refine ⟨p.gives, _, _, rfl, ok.d2, hw, flat_tup (fun g hg => ?_), ?_⟩
      · simp only [List.mem_cons, List.not_mem_nil, or_false] at hg
        rcases hg with rfl | rfl <;> exact flat_int
      walk_at "gz"
      by_cases c : (W (envOf p.rows ws ++ [resW p i]) p.gives).2 = 1
      · walk_at "gz"
        refine ⟨wlG (envOf p.rows ws ++ [resW p i]), .fz (.int (i : Int)), ?_, .inr ⟨i, rfl⟩⟩
        rw [e3, if_pos c, List.map_append, List.map_append]
        rfl
      · walk_at "gz"
        refine ⟨wlG (envOf p.rows ws ++ [resW p i]), .fz (.int (i : Int)), ?_, .inr ⟨i, rfl⟩⟩
        rw [e3, if_neg c, List.append_nil]
    · rintro ρ ⟨kv, v6, rfl, hkv⟩
      rw [rgG_len, Int.toNat_natCast]
      walk_at "gz"
      exact q
end
end Zn
namespace Zn
open PySem PySem.Spec PyProof.Rows L2 TL
abbrev s_unmet : Stmt := topS 13
theorem sc_unmet : FnScope ["external", "words", "_", "kind"] ["external"] (defScope s_unmet) := ⟨rfl, rfl, rfl, by decide +kernel, rfl, by decide +kernel, by decide +kernel⟩

theorem rowsW_fit {ws : List Nat} {r : List Int} (h : r ∈ rowsW ws) : ∀ (i : Nat) w x, ws[i]? = some w → r[i]? = some x → 0 ≤ x ∧ x < 2 ^ w := by
  have key : ∀ n (ws : List Nat) (r : List Int), ws.length = n → r ∈ rowsW ws → ∀ (i : Nat) w x, ws[i]? = some w → r[i]? = some x → 0 ≤ x ∧ x < 2 ^ w := fun n => by
    induction n with
    | zero => intro ws r h hr i w x hw _; rw [List.eq_nil_of_length_eq_zero h] at hw; simp at hw
    | succ n ih =>
      intro ws r h hr i w x hw hx
      have hn : ws ≠ [] := by intro z; rw [z] at h; cases h
      have hd : ws.dropLast.length = n := by rw [List.length_dropLast]; omega
      rw [← List.dropLast_concat_getLast hn] at hr hw
      rw [rowsW_snoc] at hr
      obtain ⟨r', hr', h2⟩ := List.mem_flatMap.mp hr
      obtain ⟨a, ha, rfl⟩ := List.mem_map.mp h2
      have hl := rowsW_mem hr'
      by_cases c : i < n
      · rw [List.getElem?_append_left (by omega)] at hw hx
        exact ih _ r' hd hr' i w x hw hx
      · have e : i = n := by
          have := getL hx
          rw [List.length_append, hl, hd] at this
          simp only [List.length_cons, List.length_nil] at this
          omega
        subst e
        rw [List.getElem?_append_right (by omega), hd, Nat.sub_self] at hw
        rw [List.getElem?_append_right (by omega), hl, hd, Nat.sub_self] at hx
        cases hw
        cases hx
        have := List.mem_range.mp ha
        exact ⟨Int.natCast_nonneg _, by exact_mod_cast this⟩
  exact key _ ws r rfl h
theorem rowsW_Fit {rows : List (Str × Nat)} {r : List Int} (h : r ∈ rowsW (rows.map (·.2))) : Fit rows r := by
  refine ⟨by rw [rowsW_mem h, List.length_map], fun i q x hq hx => rowsW_fit h i q.2 x (by rw [List.getElem?_map, hq]; rfl) hx⟩
noncomputable def unm (p : Pt) : Option (List Int) := (rowsW (p.rows.map (·.2))).find? fun r => nee p r && (giv p r).isEmpty
def oWs : Option (List Int) → G
  | none => .non
  | some r => gWs r
def ufUnmet : List G → (G → Prop) → Prop := fun gs Φ => ∃ p : Pt, gs = [gP p] ∧ OkPt p ∧ (p.rows.map (·.2)).sum ≤ 16 ∧ Φ (oWs (unm p))
section
variable {P : Program} {w : World} {K : PySem.W.Frag} {mg : Str → Option Value} {base : Heap} {aR aN C : Addr} {n : Nat}
theorem ok_unmet {f : Addr} {fd : FuncData} (F : Fun K "unmet" "unmet" s_unmet f fd) (c_all_words : Cal P w K mg base "all_words" 1 (spG K ufAll)) (c_needs_hold : Cal P w K mg base "needs_hold" 15 (spG K ufNeeds)) (c__given : Cal P w K mg base "_given" 15 (spG K ufGiven)) (T : Tx K mg aR aN) : FnOk P w K mg base CX0 16 f fd ["external"] (spG K ufUnmet) := by
  refine g_ok F sc_unmet (fun gs Φ h => ?_) (fun cdv A outer s H E hr => ?_)
  · obtain ⟨_, rfl, _⟩ := h
    rfl
  · refine ⟨_, _, 
      (gss_cons (gs_for PassesOwn.never rfl (k_itL K (k_cal K c_all_words (hr.mono (by decide)) (by rfl) (ga_cons (GN.ge (gn_lc (own := [("_", 2), ("kind", 3)]) rfl sc_unmet.nd (k_itT K (k_ixT K (Zn.gv 0) ge_int)) (blkOk_by (N := ["external", "words", "_", "kind"]) (sc := defScope s_unmet) (by decide +kernel)) (fun _ _ _ _ _ => (k_gtup K (n := 2) (by rfl) (ggs_cons (gg_name (i := 2) sc_unmet.nd rfl (Or.inl rfl)) (ggs_cons (gg_name (i := 3) sc_unmet.nd rfl (Or.inl rfl)) ggs_nil)))) (fun _ _ _ _ _ => gts_nil) (fun _ _ _ _ _ => (Zn.gv 3)) (by decide))) ga_nil))) (gg_name (i := 1) sc_unmet.nd rfl (Or.inl rfl)) 
       (gss_one (gs_post (gs_if (GW.gt (gw_and (gt_val (k_cal K c_needs_hold (hr.mono (by decide)) (by rfl) (ga_cons (Zn.gv 0) (ga_cons (Zn.gv 1) ga_nil)))) (gw_and1 (gt_not (k_truth K (GE.gb (k_cal K c__given (hr.mono (by decide)) (by rfl) (ga_cons (Zn.gv 0) (ga_cons (Zn.gv 1) ga_nil))))))))) 
        (gss_one (gs_ret (Zn.gv 1))) gss_nil))))
      (gss_one (gs_ret ge_non))), ?_⟩
    rintro gs Φ ⟨p, rfl, ok, hs, q⟩
    have hrl : (p.rows.map gRw).length = p.rows.length := List.length_map ..
    have hr8 := ok.rl
    walk_at "g0"
    walk_at "gz"
    refine ⟨fun i acc ρ => ρ = [.fz (gP p), .un, .un, .un] ∧ acc = ((p.rows.map (·.2)).take i).map fun w : Nat => G.int (w : Int), ⟨rfl, rfl⟩, ?_, ?_⟩
    · rintro i g acc ρ hg hl ⟨rfl, rfl⟩
      obtain ⟨r, hr, rfl⟩ := get_map hg
      walk_at "gz"
      refine ⟨rfl, ?_⟩
      rw [take_snoc (x := r.2) (by rw [List.getElem?_map, hr]; rfl), List.map_append]
      rfl
    rintro acc ρ hl ⟨rfl, rfl⟩
    rw [hrl, List.take_of_length_le (by rw [List.length_map]; exact Nat.le_refl _)]
    walk_at "gz"
    refine ⟨p.rows.map (·.2), rfl, hs, by rw [List.length_map]; exact hr8, _, rfl, fun i ρ => ∃ v1, ρ = [.fz (gP p), v1, .un, .un] ∧ ∀ r ∈ (rowsW (p.rows.map (·.2))).take i, (nee p r && (giv p r).isEmpty) = false, ⟨_, rfl, by simp⟩, ?_, ?_⟩
    · rintro i g ρ hi ⟨v1, rfl, hno⟩
      obtain ⟨r, hr, rfl⟩ := get_map hi
      have ft := rowsW_Fit (List.mem_of_getElem? hr)
      have nxt : (nee p r && (giv p r).isEmpty) = false → ∀ r ∈ (rowsW (p.rows.map (·.2))).take (i + 1), (nee p r && (giv p r).isEmpty) = false := fun h x hx => by
        rw [take_snoc hr] at hx
        rcases List.mem_append.mp hx with m | m
        · exact hno x m
        · rw [List.mem_singleton.mp m]; exact h
      walk_at "gz"
      refine ⟨p, r, rfl, ok, ft, ?_⟩
      walk_at "gz"
      cases hn : nee p r with
      | false =>
        walk_at "gz"
        exact ⟨_, rfl, nxt (by rw [hn]; rfl)⟩
      | true =>
        walk_at "gz"
        refine ⟨p, r, rfl, ok, ft, ?_⟩
        walk_at "gz"
        cases hg : giv p r with
        | nil =>
          walk_at "gz"
          have e : unm p = some r := by
            unfold unm
            have hil := getL hr
            have hs2 : rowsW (p.rows.map (·.2)) = (rowsW (p.rows.map (·.2))).take i ++ (r :: (rowsW (p.rows.map (·.2))).drop (i + 1)) := by
              have := List.drop_eq_getElem_cons hil
              rw [show (rowsW (p.rows.map (·.2)))[i] = r from (List.getElem?_eq_some_iff.mp hr).2] at this
              rw [← this, List.take_append_drop]
            rw [hs2, List.find?_append, List.find?_eq_none.mpr (fun x hx => by rw [hno x hx]; decide)]
            simp [hn, hg]
          rw [e] at q
          rw [if_pos (by rfl)]
          walk_at "gz"
          exact q
        | cons a l =>
          walk_at "gz"
          try rw [if_neg (by intro z; cases z)]
          exact ⟨_, rfl, nxt (by rw [hn, hg]; rfl)⟩
    · rintro ρ ⟨v1, rfl, hno⟩
      rw [List.length_map, List.take_length] at hno
      walk_at "gz"
      unfold unm at q
      rw [List.find?_eq_none.mpr (fun x hx => by rw [hno x hx]; decide)] at q
      exact q
end
end Zn
namespace Zn
open PySem PySem.Spec PyProof.Rows L2 TL
abbrev s_let_answers : Stmt := topS 14
theorem sc_let_answers : FnScope ["external", "args", "asked", "answers", "words", "answer", "one"] ["external", "args", "asked"] (defScope s_let_answers) := ⟨rfl, rfl, rfl, by decide +kernel, rfl, by decide +kernel, by decide +kernel⟩

abbrev Lg := List (List Int × Int)
abbrev gLe (e : List Int × Int) : G := .tup [gWs e.1, .int e.2]
noncomputable def ans (p : Pt) (ws : List Int) (lg : Lg) : List Int := if p.st = 1 then lg.foldl (fun as e => if e.1 = ws then as.filter fun a => decide (a = e.2) else as) (giv p ws) else giv p ws
def ufLet : List G → (G → Prop) → Prop := fun gs Φ => ∃ (p : Pt) (ws : List Int) (lg : Lg), gs = [gP p, gWs ws, .tup (lg.map gLe)] ∧ OkPt p ∧ Fit p.rows ws ∧ lg.length ≤ 1000 ∧ (∀ e ∈ lg, e.1.length ≤ 100) ∧ Φ (.tup ((ans p ws lg).map G.int))
theorem giv_len {p : Pt} (ok : OkPt p) (ws : List Int) : (giv p ws).length ≤ 256 := by
  unfold giv
  rw [List.length_map]
  have := List.length_filter_le (fun a => decide ((W (envOf p.rows ws ++ [resW p a]) p.gives).2 = 1)) (List.range (2 ^ p.wd))
  rw [List.length_range] at this
  have h : (2 : Nat) ^ p.wd ≤ 256 := Nat.le_trans (Nat.pow_le_pow_right (by decide) ok.wd) (by decide : (2 : Nat) ^ 8 ≤ 256)
  omega
theorem pdL_int : ∀ ns : List Int, pdL (ns.map G.int) = some (ns.map PyData.int)
  | [] => by simp [pdL]
  | n :: ns => by simp [pdL, pd, pdL_int ns]
theorem eqv_int : ∀ ns ms : List Int, PyData.eqvAll (ns.map PyData.int) (ms.map PyData.int) = decide (ns = ms)
  | [], [] => by simp [PyData.eqvAll]
  | [], _ :: _ => by simp [PyData.eqvAll]
  | _ :: _, [] => by simp [PyData.eqvAll]
  | n :: ns, m :: ms => by
    rw [List.map_cons, List.map_cons, PyData.eqvAll, eqv_int ns ms]
    by_cases h : n = m <;> by_cases h2 : ns = ms <;> simp [PyData.eqv, h, h2]
theorem ws_ok (ns : List Int) : okG 1 (gWs ns) = true := by
  simp [okG]
theorem v_eqW {ns ms : List Int} {Q : G → Prop} (q : Q (.bl (decide (ns = ms)))) : u2EqD false (gWs ns) (gWs ms) Q := by
  obtain ⟨d, e1, s1, _⟩ := okG_sh (ws_ok ns) (by decide)
  obtain ⟨d', e2, s2, _⟩ := okG_sh (ws_ok ms) (by decide)
  have f1 : pd (gWs ns) = some (.tuple (ns.map PyData.int)) := by simp [gWs, pd, pdL_int]
  have f2 : pd (gWs ms) = some (.tuple (ms.map PyData.int)) := by simp [gWs, pd, pdL_int]
  rw [f1] at e1
  rw [f2] at e2
  cases e1
  cases e2
  refine v_eqD f1 f2 s1 s2 ?_
  rw [show PyData.eqv (.tuple (ns.map PyData.int)) (.tuple (ms.map PyData.int)) = decide (ns = ms) by rw [PyData.eqv, eqv_int]]
  exact q
section
variable {P : Program} {w : World} {K : PySem.W.Frag} {mg : Str → Option Value} {base : Heap} {aR aN C : Addr} {n : Nat}
theorem ok_let {f : Addr} {fd : FuncData} (F : Fun K "let_answers" "let_answers" s_let_answers f fd) (c__given : Cal P w K mg base "_given" 15 (spG K ufGiven)) (T : Tx K mg aR aN) : FnOk P w K mg base CX0 16 f fd ["external", "args", "asked"] (spG K ufLet) := by
  refine g_ok F sc_let_answers (fun gs Φ h => ?_) (fun cdv A outer s H E hr => ?_)
  · obtain ⟨_, _, _, rfl, _⟩ := h
    rfl
  · refine ⟨_, _, 
      (gss_cons (gs_set (i := 3) sc_let_answers.nd rfl (Or.inl rfl) (k_cal K c__given (hr.mono (by decide)) (by rfl) (ga_cons (Zn.gv 0) (ga_cons (Zn.gv 1) ga_nil))))
      (gss_cons (gs_post (gs_if (gt_cmpR go_eqI (k_ixT K (Zn.gv 0) ge_int) ge_int (nomark _)) 
       (gss_one (gs_for PassesOwn.never rfl (k_itT K (Zn.gv 2)) (k_gtup K (n := 2) (by rfl) (ggs_cons (gg_name (i := 4) sc_let_answers.nd rfl (Or.inl rfl)) (ggs_cons (gg_name (i := 5) sc_let_answers.nd rfl (Or.inr rfl)) ggs_nil))) 
        (gss_one (gs_post (gs_if (kt_eqD K hr.units (Zn.gv 4) (Zn.gv 1)) 
         (gss_one (gs_setLcG (own := [("one", 6)]) (i := 3) rfl sc_let_answers.nd rfl rfl (sw_true rfl rfl rfl (by decide +kernel)) (k_itL K (Zn.gv 3)) (blkOk_by (N := ["external", "args", "asked", "answers", "words", "answer", "one"]) (sc := defScope s_let_answers) (by decide +kernel)) (fun _ _ _ _ _ => (gg_name (i := 6) sc_let_answers.nd rfl (Or.inl rfl))) (fun _ _ _ _ _ => (gts_one (gt_cmpR go_eqI (Zn.gv 6) (Zn.gv 5) (nomark _)))) (fun _ _ _ _ _ => (Zn.gv 6)) (by decide))) gss_nil))))) gss_nil))
      (gss_one (gs_ret (k_tuple K (by rfl) T.z_tuple (GE.gb (Zn.gv 3))))))), ?_⟩
    rintro gs Φ ⟨p, ws, lg, rfl, ok, ft, hl, he, q⟩
    have hgl := giv_len ok ws
    walk_at "g0"
    walk_at "gs"
    refine ⟨p, ws, rfl, ok, ft, ?_⟩
    walk_at "gs"
    refine v_ps (fun ρ' => ∃ v4 v5, ρ' = [.fz (gP p), .fz (gWs ws), .fz (.tup (lg.map gLe)), .fz (.lst ((ans p ws lg).map G.int)), v4, v5, .un]) ?_ ?_
    · walk_at "gz"
      by_cases hst : p.st = 1
      · have ea : ans p ws lg = lg.foldl (fun as e => if e.1 = ws then as.filter fun a => decide (a = e.2) else as) (giv p ws) := if_pos hst
        walk_at "gz"
        refine ⟨fun i ρ => ∃ v4 v5, ρ = [.fz (gP p), .fz (gWs ws), .fz (.tup (lg.map gLe)), .fz (.lst (((lg.take i).foldl (fun as e => if e.1 = ws then as.filter fun a => decide (a = e.2) else as) (giv p ws)).map G.int)), v4, v5, .un] ∧ ((lg.take i).foldl (fun as e => if e.1 = ws then as.filter fun a => decide (a = e.2) else as) (giv p ws)).length ≤ 256, ⟨_, _, rfl, hgl⟩, ?_, ?_⟩
        · rintro i g ρ hi ⟨v4, v5, rfl, hl256⟩
          obtain ⟨e, hee, rfl⟩ := get_map hi
          dsimp only
          rw [take_snoc hee, List.foldl_append, List.foldl_cons, List.foldl_nil]
          generalize (lg.take i).foldl (fun as e => if e.1 = ws then as.filter fun a => decide (a = e.2) else as) (giv p ws) = as at hl256 ⊢
          have hal : (as.map G.int).length = as.length := List.length_map ..
          walk_at "gz"
          refine v_eqW ?_
          by_cases hc : e.1 = ws
          · rw [decide_eq_true hc, if_pos hc]
            walk_at "gz"
            refine ⟨fun j acc ρ => ρ = [.fz (gP p), .fz (gWs ws), .fz (.tup (lg.map gLe)), .fz (.lst (as.map G.int)), .fz (gWs e.1), .fz (.int e.2), .un] ∧ acc = ((as.take j).filter fun a => decide (a = e.2)).map G.int, ⟨rfl, rfl⟩, ?_, ?_⟩
            · rintro j g acc ρ hj hl' ⟨rfl, rfl⟩
              obtain ⟨a, ha, rfl⟩ := get_map hj
              walk_at "gz"
              rw [take_snoc ha, List.filter_append, List.map_append]
              by_cases h2 : a = e.2
              · walk_at "gz"
                refine ⟨rfl, ?_⟩
                simp [h2]
              · walk_at "gz"
                refine ⟨rfl, ?_⟩
                simp [h2]
            · rintro acc ρ hl' ⟨rfl, rfl⟩
              rw [hal, List.take_length]
              walk_at "gz"
              exact ⟨_, _, rfl, Nat.le_trans (List.length_filter_le _ _) hl256⟩
          · rw [decide_eq_false hc, if_neg hc]
            walk_at "gz"
            exact ⟨_, _, rfl, hl256⟩
        · rintro ρ ⟨v4, v5, rfl, _⟩
          rw [List.length_map, List.take_length, ← ea]
          exact ⟨_, _, rfl⟩
      · have ea : ans p ws lg = giv p ws := if_neg hst
        rw [ea]
        walk_at "gz"
        exact ⟨_, _, rfl⟩
    · rintro ρ' ⟨v4, v5, rfl⟩
      walk_at "gz"
      exact q
end
end Zn
namespace Zn
open PySem PySem.Spec PyProof.Rows L2 TL
abbrev s__law_pick_one : Stmt := topS 24
theorem sc__law_pick_one : FnScope ["_law_source_here", "_law_rows"] ["_law_source_here", "_law_rows"] (defScope s__law_pick_one) := ⟨rfl, rfl, rfl, by decide +kernel, rfl, by decide +kernel, by decide +kernel⟩

abbrev s__law_salts : Stmt := topS 32
theorem sc__law_salts : FnScope ["_law_source_here", "_law_first"] ["_law_source_here"] (defScope s__law_salts) := ⟨rfl, rfl, rfl, by decide +kernel, rfl, by decide +kernel, by decide +kernel⟩

abbrev s__law_tuples : Stmt := topS 20
theorem sc__law_tuples : FnScope ["_law_widths", "_law_rows", "_law_width", "_law_longer", "_law_row", "_law_word_here"] ["_law_widths"] (defScope s__law_tuples) := ⟨rfl, rfl, rfl, by decide +kernel, rfl, by decide +kernel, by decide +kernel⟩

def ufPick : List G → (G → Prop) → Prop := fun gs Φ => ∃ x xs, gs = [.drw, x] ∧ sq x = some xs ∧ 0 < xs.length ∧ xs.length < 100000 ∧ ∀ g ∈ xs, Φ g
def ufSalts : List G → (G → Prop) → Prop := fun gs Φ => gs = [.drw] ∧ ∀ a b c : Nat, a < 40000 → b < 40000 → c < 40000 → Φ (.lst [.int (a : Int), .int (b : Int), .int (c : Int)])
section
variable {P : Program} {w : World} {K : PySem.W.Frag} {mg : Str → Option Value} {base : Heap} {aR aN C : Addr} {n : Nat}
theorem atI_in {gs : List G} {n : Int} (h0 : 0 ≤ n) (h1 : n < (gs.length : Int)) : ∃ g, atI gs n = some g ∧ g ∈ gs := by
  have l : n.toNat < gs.length := by omega
  exact ⟨gs[n.toNat], atG (j := n.toNat) (by omega) (List.getElem?_eq_getElem l), List.getElem_mem l⟩
theorem ok_pick {f : Addr} {fd : FuncData} (F : Fun K "_law_pick_one" "_law_pick_one" s__law_pick_one f fd) (c__law_digit : Cal P w K mg base "_law_digit" 1 (spG K ufDraw)) (T : Tx K mg aR aN) : FnOk P w K mg base CX0 2 f fd ["_law_source_here", "_law_rows"] (spG K ufPick) := by
  refine g_ok F sc__law_pick_one (fun gs Φ h => ?_) (fun cdv A outer s H E hr => ?_)
  · obtain ⟨x, xs, rfl, _⟩ := h
    rfl
  · refine ⟨_, _, 
      (gss_one (gs_ret (k_ixE K (Zn.gv 1) (k_cal K c__law_digit (hr.mono (by decide)) (by rfl) (ga_cons (Zn.gv 0) (ga_cons (k_len K (by rfl) T.z_len (GE.gb (Zn.gv 1))) ga_nil)))))), ?_⟩
    rintro gs Φ ⟨x, xs, rfl, hx, l0, l1, q⟩
    walk_at "g0"
    walk_at "gs"
    refine v_len hx ?_
    walk_at "gs"
    intro n n0 n1
    obtain ⟨g, e, m⟩ := atI_in n0 n1
    walk_at "gs"
    refine v_ixE hx e ?_
    exact q g m
theorem ok_salts {f : Addr} {fd : FuncData} (F : Fun K "_law_salts" "_law_salts" s__law_salts f fd) (c__law_digit : Cal P w K mg base "_law_digit" 1 (spG K ufDraw)) (T : Tx K mg aR aN) : FnOk P w K mg base CX0 2 f fd ["_law_source_here"] (spG K ufSalts) := by
  refine g_ok F sc__law_salts (fun gs Φ h => ?_) (fun cdv A outer s H E hr => ?_)
  · obtain ⟨rfl, _⟩ := h
    rfl
  · refine ⟨_, _, 
      (gss_cons (gs_set (i := 1) sc__law_salts.nd rfl (Or.inl rfl) (k_cal K c__law_digit (hr.mono (by decide)) (by rfl) (ga_cons (Zn.gv 0) (ga_cons ge_int ga_nil))))
      (gss_cons (gs_post (gs_if (gt_cmpR go_eqI (k_cal K c__law_digit (hr.mono (by decide)) (by rfl) (ga_cons (Zn.gv 0) (ga_cons ge_int ga_nil))) ge_int (nomark _)) 
       (gss_one (gs_ret (GN.ge (gn_lst (ga_cons (Zn.gv 1) (ga_cons (Zn.gv 1) (ga_cons (Zn.gv 1) ga_nil))))))) gss_nil))
      (gss_one (gs_ret (GN.ge (gn_lst (ga_cons (Zn.gv 1) (ga_cons (k_cal K c__law_digit (hr.mono (by decide)) (by rfl) (ga_cons (Zn.gv 0) (ga_cons ge_int ga_nil))) (ga_cons (k_cal K c__law_digit (hr.mono (by decide)) (by rfl) (ga_cons (Zn.gv 0) (ga_cons ge_int ga_nil))) ga_nil))))))))), ?_⟩
    rintro gs Φ ⟨rfl, q⟩
    walk_at "g0"
    walk_at "gz"
    intro a a0 a1
    obtain ⟨a, rfl⟩ := Int.eq_ofNat_of_zero_le a0
    walk_at "gz"
    intro b b0 b1
    walk_at "gz"
    refine v_ite (fun h => ?_) (fun h => ?_)
    · walk_at "gz"
      exact q a a a (by omega) (by omega) (by omega)
    · walk_at "gz"
      intro x x0 x1
      obtain ⟨x, rfl⟩ := Int.eq_ofNat_of_zero_le x0
      walk_at "gz"
      intro y y0 y1
      obtain ⟨y, rfl⟩ := Int.eq_ofNat_of_zero_le y0
      walk_at "gz"
      exact q a x y (by omega) (by omega) (by omega)
end
end Zn
namespace Zn
open PySem PySem.Spec PyProof.Rows L2 TL
abbrev s__law_given : Stmt := topS 34
theorem sc__law_given : FnScope ["_law_part", "_law_words", "_law_names", "_law_row", "_law_word_here", "_law_found"] ["_law_part", "_law_words"] (defScope s__law_given) := ⟨rfl, rfl, rfl, by decide +kernel, rfl, by decide +kernel, by decide +kernel⟩

theorem env_step {p : Pt} {ws : List Int} (hnd : (p.rows.map (·.1)).Nodup) {i : Nat} {r : Str × Nat} {x : Int} (hr : p.rows[i]? = some r) (hx : ws[i]? = some x) :
    putD (wlG ((envOf p.rows ws).take i)) (.inr r.1) (.tup [.int (r.2 : Int), .int x]) = wlG ((envOf p.rows ws).take (i + 1)) := by
  have he : (envOf p.rows ws)[i]? = some (r.1, ((r.2 : Int), x)) := by
    unfold envOf
    rw [List.getElem?_map, (List.getElem?_zip_eq_some (z := (r, x))).mpr ⟨hr, hx⟩]
    rfl
  rw [take_snoc he]
  unfold putD
  rw [if_neg]
  · unfold wlG
    rw [List.map_append]
    rfl
  · intro z
    obtain ⟨kv, hkv, e⟩ := List.any_eq_true.mp z
    have e := of_decide_eq_true e
    unfold wlG at hkv
    obtain ⟨c, hc, rfl⟩ := List.mem_map.mp hkv
    obtain ⟨j, hj⟩ := List.mem_iff_getElem?.mp hc
    have hji : j < i := by
      have := getL hj
      rw [List.length_take] at this
      omega
    rw [List.getElem?_take, if_pos hji] at hj
    unfold envOf at hj
    rw [List.getElem?_map] at hj
    obtain ⟨ab, hab, e2⟩ := Option.map_eq_some_iff.mp hj
    have h1 := (List.getElem?_zip_eq_some.mp hab).1
    have e3 : c.1 = r.1 := Sum.inr.inj e
    have e4 : ab.1.1 = r.1 := by rw [← e3, ← e2]
    have := (List.getElem?_inj (i := j) (j := i) (l := p.rows.map (·.1)) (by rw [List.length_map]; exact getL h1) hnd).mp (by rw [List.getElem?_map, List.getElem?_map, h1, hr]; simp [e4])
    omega
theorem zip_at {rows : List (Str × Nat)} {ws : List Int} {i : Nat} {g : G} (h : (zipG (rows.map gRw) (ws.map G.int))[i]? = some g) : ∃ r x, rows[i]? = some r ∧ ws[i]? = some x ∧ g = .tup [gRw r, .int x] := by
  unfold zipG at h
  obtain ⟨a, b, h1, h2, e⟩ := List.getElem?_zipWith_eq_some.mp h
  obtain ⟨r, hr, rfl⟩ := get_map h1
  obtain ⟨x, hx, rfl⟩ := get_map h2
  exact ⟨r, x, hr, hx, e.symm⟩
theorem zip_len {rows : List (Str × Nat)} {ws : List Int} (hw : ws.length = rows.length) : (zipG (rows.map gRw) (ws.map G.int)).length = rows.length := by
  unfold zipG
  rw [List.length_zipWith, List.length_map, List.length_map, hw, Nat.min_self]
theorem env_all {rows : List (Str × Nat)} {ws : List Int} : (envOf rows ws).take rows.length = envOf rows ws := List.take_of_length_le (by unfold envOf; rw [List.length_map, List.length_zip]; exact Nat.min_le_left _ _)
theorem env_len (rows : List (Str × Nat)) (ws : List Int) : (envOf rows ws).length ≤ rows.length := by
  unfold envOf
  rw [List.length_map, List.length_zip]
  exact Nat.min_le_left _ _
theorem wlG_len (cs : Wl) : (wlG cs).length = cs.length := List.length_map ..
section
variable {P : Program} {w : World} {K : PySem.W.Frag} {mg : Str → Option Value} {base : Heap} {aR aN C : Addr} {n : Nat}
theorem ok_lgiven {f : Addr} {fd : FuncData} (F : Fun K "_law_given" "_law_given" s__law_given f fd) (c__law_worth : Cal P w K mg base "_law_worth" 10 (spG K (ufLWorth 8))) (T : Tx K mg aR aN) : FnOk P w K mg base CX0 11 f fd ["_law_part", "_law_words"] (spG K ufGiven) := by
  refine g_ok F sc__law_given (fun gs Φ h => ?_) (fun cdv A outer s H E hr => ?_)
  · obtain ⟨_, _, rfl, _⟩ := h
    rfl
  · refine ⟨_, _, 
      (gss_cons (gs_setO (i := 2) sc__law_given.nd rfl (Or.inl rfl) gn_dnew)
      (gss_cons (gs_for PassesOwn.never rfl (k_itZT K (by rfl) T.z_zip (ga_cons (k_ixT K (Zn.gv 0) ge_int) (ga_cons (Zn.gv 1) ga_nil))) (k_gtup K (n := 2) (by rfl) (ggs_cons (gg_name (i := 3) sc__law_given.nd rfl (Or.inl rfl)) (ggs_cons (gg_name (i := 4) sc__law_given.nd rfl (Or.inl rfl)) ggs_nil))) 
       (gss_one (gs_putD (hu_of hr) 2 (k_ixT K (Zn.gv 3) ge_int) (ge_tup (ga_cons (k_ixT K (Zn.gv 3) ge_int) (ga_cons (Zn.gv 4) ga_nil))))))
      (gss_cons (gs_setO (i := 5) sc__law_given.nd rfl (Or.inl rfl) (gn_lst ga_nil))
      (gss_cons (gs_for PassesOwn.never rfl (gi_range1 (by rfl) T.z_range (ge_op go_shl ge_int (k_ixT K (Zn.gv 0) ge_int))) (gg_name (i := 4) sc__law_given.nd rfl (Or.inl rfl)) 
       (gss_cons (gs_putD (hu_of hr) 2 ge_str (ge_tup (ga_cons (k_ixT K (Zn.gv 0) ge_int) (ga_cons (Zn.gv 4) ga_nil))))
       (gss_one (gs_post (gs_if (gt_cmpR go_eqI (k_ixT K (k_calB K c__law_worth (hr.mono (by decide)) (by rfl) (gab_own 2 (gab_cons (k_ixT K (Zn.gv 0) ge_int) (gab ga_nil)))) ge_int) ge_int (nomark _)) 
        (gss_one (gs_expr (k_app K 5 (Zn.gv 4)))) gss_nil)))))
      (gss_one (gs_ret (Zn.gvF 5))))))), ?_⟩
    rintro gs Φ ⟨p, ws, rfl, ok, ft, q⟩
    have hwd := ok.wd
    have hr8 := ok.rl
    have hcp : CPow 1 (p.wd : Int) := ⟨by omega, by omega, by decide⟩
    have e2 : (1 : Int) * 2 ^ ((p.wd : Int)).toNat = ((2 ^ p.wd : Nat) : Int) := by
      rw [Int.one_mul, Int.toNat_natCast, Int.natCast_pow]
      rfl
    have h256 : (2 : Nat) ^ p.wd ≤ 256 := Nat.le_trans (Nat.pow_le_pow_right (by decide) hwd) (by decide : (2 : Nat) ^ 8 ≤ 256)
    walk_at "g0"
    walk_at "gz"
    refine ⟨p.rows.map gRw, ws.map G.int, rfl, fun i ρ => ∃ v3 v4, ρ = [.fz (gP p), .fz (gWs ws), .ow true (dG (wlG ((envOf p.rows ws).take i))), v3, v4, .un], ⟨_, _, rfl⟩, ?_, ?_⟩
    · rintro i g ρ hg ⟨v3, v4, rfl⟩
      obtain ⟨r, x, hr, hx, rfl⟩ := zip_at hg
      have hil := getL hr
      have hst := env_step ok.nd hr hx
      have hkl : (wlG ((envOf p.rows ws).take i)).length ≤ 8 := by
        rw [wlG_len, List.length_take]
        omega
      walk_at "gz"
      exact ⟨_, _, by rw [hst]⟩
    · rintro ρ ⟨v3, v4, rfl⟩
      rw [zip_len ft.1, env_all]
      walk_at "gz"
      rw [e2]
      refine ⟨Int.le_trans (by decide : (-2 ^ 62 : Int) ≤ 0) (Int.natCast_nonneg _), by omega, fun i ρ => ∃ (kv : Kv) (v4 : SG), ρ = [.fz (gP p), .fz (gWs ws), .ow true (dG kv), v3, v4, .ow true (.lst ((((List.range i).filter fun a => decide ((W (envOf p.rows ws ++ [resW p a]) p.gives).2 = 1)).map fun a : Nat => (a : Int)).map G.int))] ∧ (kv = wlG (envOf p.rows ws) ∨ ∃ b, kv = wlG (envOf p.rows ws ++ [resW p b])), ⟨_, _, rfl, .inl rfl⟩, ?_, ?_⟩
      · rintro i g ρ hi ⟨kv, v4, rfl, hkv⟩
        obtain ⟨hi, rfl⟩ := rgG_get hi
        have hi : i < 2 ^ p.wd := by omega
        have hpr := put_res ok i hkv
        have hkl : kv.length ≤ 9 := by
          have : (envOf p.rows ws).length ≤ 8 := by unfold envOf; rw [List.length_map, List.length_zip]; exact Nat.le_trans (Nat.min_le_left _ _) ok.rl
          rcases hkv with rfl | ⟨b, rfl⟩
          · unfold wlG; rw [List.length_map]; omega
          · unfold wlG; rw [List.length_map, List.length_append]; simp only [List.length_cons, List.length_nil]; omega
        have hfl : ((((List.range i).filter fun a => decide ((W (envOf p.rows ws ++ [resW p a]) p.gives).2 = 1)).map fun a : Nat => (a : Int)).map G.int).length ≤ 256 := by
          rw [List.length_map, List.length_map]
          have := List.length_filter_le (fun a => decide ((W (envOf p.rows ws ++ [resW p a]) p.gives).2 = 1)) (List.range i)
          rw [List.length_range] at this
          omega
        walk_at "gz"
        rw [Int.zero_add, hpr]
        have hw := W_spec (ok.h2 ws i ft hi)
        have e3 : (List.range (i + 1)).filter (fun a => decide ((W (envOf p.rows ws ++ [resW p a]) p.gives).2 = 1)) = (List.range i).filter (fun a => decide ((W (envOf p.rows ws ++ [resW p a]) p.gives).2 = 1)) ++ if (W (envOf p.rows ws ++ [resW p i]) p.gives).2 = 1 then [i] else [] := by
          rw [List.range_succ, List.filter_append]
          congr 1
          by_cases c : (W (envOf p.rows ws ++ [resW p i]) p.gives).2 = 1
          · simp [List.filter_cons, c]
          · simp [List.filter_cons, c]
        refine ⟨p.gives, _, _, rfl, ok.d2, hw, flat_tup (fun g hg => ?_), ?_⟩
        · simp only [List.mem_cons, List.not_mem_nil, or_false] at hg
          rcases hg with rfl | rfl <;> exact flat_int
        walk_at "gz"
        by_cases c : (W (envOf p.rows ws ++ [resW p i]) p.gives).2 = 1
        · walk_at "gz"
          refine ⟨wlG (envOf p.rows ws ++ [resW p i]), .fz (.int (i : Int)), ?_, .inr ⟨i, rfl⟩⟩
          rw [e3, if_pos c, List.map_append, List.map_append]
          rfl
        · walk_at "gz"
          refine ⟨wlG (envOf p.rows ws ++ [resW p i]), .fz (.int (i : Int)), ?_, .inr ⟨i, rfl⟩⟩
          rw [e3, if_neg c, List.append_nil]
      · rintro ρ ⟨kv, v4, rfl, hkv⟩
        rw [rgG_len, Int.toNat_natCast]
        walk_at "gz"
        exact q
end
end Zn
namespace Zn
open PySem PySem.Spec PyProof.Rows L2 TL
abbrev s__law_needed_words : Stmt := topS 35
theorem sc__law_needed_words : FnScope ["_law_part", "_law_found", "_law_words", "_law_row", "_law_names", "_law_word_here"] ["_law_part"] (defScope s__law_needed_words) := ⟨rfl, rfl, rfl, by decide +kernel, rfl, by decide +kernel, by decide +kernel⟩

abbrev s__law_unmet_words : Stmt := topS 36
theorem sc__law_unmet_words : FnScope ["_law_part", "_law_words"] ["_law_part"] (defScope s__law_unmet_words) := ⟨rfl, rfl, rfl, by decide +kernel, rfl, by decide +kernel, by decide +kernel⟩

noncomputable def need (p : Pt) : List (List Int) := (rowsW (p.rows.map (·.2))).filter (nee p)
def ufNeeded : List G → (G → Prop) → Prop := fun gs Φ => ∃ p : Pt, gs = [gP p] ∧ OkPt p ∧ (p.rows.map (·.2)).sum ≤ 16 ∧ Φ (.lst ((need p).map gWs))
section
variable {P : Program} {w : World} {K : PySem.W.Frag} {mg : Str → Option Value} {base : Heap} {aR aN C : Addr} {n : Nat}
theorem ok_tuples {f : Addr} {fd : FuncData} (F : Fun K "_law_tuples" "_law_tuples" s__law_tuples f fd) (T : Tx K mg aR aN) : FnOk P w K mg base CX0 1 f fd ["_law_widths"] (spG K ufAll) := by
  refine g_ok F sc__law_tuples (fun gs Φ h => ?_) (fun cdv A outer s H E hr => ?_)
  · obtain ⟨_, rfl, _⟩ := h
    rfl
  · refine ⟨_, _, 
      (gss_cons (gs_set (i := 1) sc__law_tuples.nd rfl (Or.inl rfl) (GN.ge (gn_lst (ga_cons (ge_tup ga_nil) ga_nil))))
      (gss_cons (gs_for PassesOwn.never rfl (k_itL K (Zn.gv 0)) (gg_name (i := 2) sc__law_tuples.nd rfl (Or.inl rfl)) 
       (gss_cons (gs_setO (i := 3) sc__law_tuples.nd rfl (Or.inl rfl) (gn_lst ga_nil))
       (gss_cons (gs_for PassesOwn.never rfl (k_itL K (Zn.gv 1)) (gg_name (i := 4) sc__law_tuples.nd rfl (Or.inr rfl)) 
        (gss_one (gs_expr (k_ext K 3 (GN.ge (gn_lc (own := [("_law_word_here", 5)]) rfl sc__law_tuples.nd (gi_range1 (by rfl) T.z_range (ge_op go_shl ge_int (Zn.gv 2))) (blkOk_by (N := ["_law_widths", "_law_rows", "_law_width", "_law_longer", "_law_row", "_law_word_here"]) (sc := defScope s__law_tuples) (by decide +kernel)) (fun _ _ _ _ _ => (gg_name (i := 5) sc__law_tuples.nd rfl (Or.inl rfl))) (fun _ _ _ _ _ => gts_nil) (fun _ _ _ _ _ => (k_catA K (Zn.gv 4) (ge_tup (ga_cons (Zn.gv 5) ga_nil)))) (by decide)))))))
       (gss_one (gs_set (i := 1) sc__law_tuples.nd rfl (Or.inl rfl) (Zn.gvF 3))))))
      (gss_one (gs_ret (Zn.gv 1))))), ?_⟩
    rintro gs Φ ⟨ws, rfl, hs, hl, q⟩
    walk_at "g0"
    walk_at "gs"
    refine ⟨fun i ρ => ∃ v2 v3 v4, ρ = [.fz (.lst (ws.map fun w : Nat => G.int (w : Int))), .fz (.lst ((rowsW (ws.take i)).map gWs)), v2, v3, v4, .un], ⟨_, _, _, rfl⟩, ?_, ?_⟩
    · rintro i g ρ hi ⟨v2, v3, v4, rfl⟩
      obtain ⟨k, hk, rfl⟩ := get_map hi
      walk_at "gs"
      have hcp : CPow 1 (k : Int) := ⟨by omega, by
        have h1 := sum_take_le ws (i + 1)
        rw [take_snoc hk, List.sum_append] at h1
        simp only [List.sum_cons, List.sum_nil] at h1
        omega, by decide⟩
      have hsum : (rowsW (ws.take i)).length * 2 ^ k ≤ 65536 := by
        have h1 := sum_take_le ws (i + 1)
        rw [take_snoc hk, List.sum_append] at h1
        simp only [List.sum_cons, List.sum_nil, Nat.add_zero] at h1
        rw [rowsW_len, ← Nat.pow_add, show 65536 = 2 ^ 16 from rfl]
        exact Nat.pow_le_pow_right (by decide) (by omega)
      refine ⟨fun i' ρ => ∃ v4, ρ = [.fz (.lst (ws.map fun w : Nat => G.int (w : Int))), .fz (.lst ((rowsW (ws.take i)).map gWs)), .fz (.int (k : Int)), .ow true (.lst ((((rowsW (ws.take i)).take i').flatMap fun r => (List.range (2 ^ k)).map fun a : Nat => r ++ [(a : Int)]).map gWs)), v4, .un], ⟨_, rfl⟩, ?_, ?_⟩
      · rintro i' g ρ2 hg ⟨v4, rfl⟩
        obtain ⟨r, hr, rfl⟩ := get_map hg
        have hil := getL hr
        have hr' := List.mem_of_getElem? hr
        have e2 : (1 : Int) * 2 ^ ((k : Int)).toNat = ((2 ^ k : Nat) : Int) := by
          rw [Int.one_mul, Int.toNat_natCast, Int.natCast_pow]
          rfl
        have hk16 : (2 : Nat) ^ k ≤ 65536 := by
          have : 0 < (rowsW (ws.take i)).length := by omega
          exact Nat.le_trans (Nat.le_mul_of_pos_left _ this) hsum
        walk_at "gs"
        rw [e2]
        refine ⟨Int.le_trans (by decide : (-2 ^ 62 : Int) ≤ 0) (Int.natCast_nonneg _), by omega, by rw [rgG_len, Int.toNat_natCast]; omega, fun j acc ρ => ρ = [.fz (.lst (ws.map fun w : Nat => G.int (w : Int))), .fz (.lst ((rowsW (ws.take i)).map gWs)), .fz (.int (k : Int)), .ow true (.lst ((((rowsW (ws.take i)).take i').flatMap fun r => (List.range (2 ^ k)).map fun a : Nat => r ++ [(a : Int)]).map gWs)), .fz (gWs r), .un] ∧ acc = ((List.range j).map fun a : Nat => r ++ [(a : Int)]).map gWs, ⟨rfl, by simp⟩, ?_, ?_⟩
        · rintro j h acc ρ6 hj hl' ⟨rfl, rfl⟩
          obtain ⟨hj, rfl⟩ := rgG_get hj
          have hrl := rowsW_mem hr'
          rw [List.length_take] at hrl
          walk_at "gs"
          refine ⟨rfl, ?_⟩
          rw [List.range_succ]
          simp only [List.map_append, List.map_cons, List.map_nil, gWs, Int.zero_add]
        · rintro acc ρ6 hl' ⟨rfl, rfl⟩
          have h1 : (i' + 1) * 2 ^ k ≤ (rowsW (ws.take i)).length * 2 ^ k := Nat.mul_le_mul_right _ hil
          rw [Nat.succ_mul] at h1
          refine ⟨_, _, _, rfl, rfl, ?_, ?_⟩
          · rw [List.length_map, flatW_len, List.length_take, List.length_map, List.length_map, List.length_range, rgG_len, Int.toNat_natCast, Nat.min_eq_left (Nat.le_of_lt hil)]
            omega
          · rw [rgG_len, Int.toNat_natCast, ← List.map_append, take_snoc hr, List.flatMap_append]
            exact ⟨.fz (gWs r), by simp⟩
      · rintro ρ2 ⟨v4, rfl⟩
        rw [List.length_map, List.take_length, ← rowsW_snoc, ← take_snoc hk]
        walk_at "gs"
        exact ⟨_, _, _, rfl⟩
    · rintro ρ ⟨v2, v3, v4, rfl⟩
      rw [List.length_map, List.take_length]
      walk_at "gs"
      exact q
theorem ok_needed {f : Addr} {fd : FuncData} (F : Fun K "_law_needed_words" "_law_needed_words" s__law_needed_words f fd) (c__law_tuples : Cal P w K mg base "_law_tuples" 1 (spG K ufAll)) (c__law_worth : Cal P w K mg base "_law_worth" 10 (spG K (ufLWorth 8))) (T : Tx K mg aR aN) : FnOk P w K mg base CX0 11 f fd ["_law_part"] (spG K ufNeeded) := by
  refine g_ok F sc__law_needed_words (fun gs Φ h => ?_) (fun cdv A outer s H E hr => ?_)
  · obtain ⟨_, rfl, _⟩ := h
    rfl
  · refine ⟨_, _, 
      (gss_cons (gs_setO (i := 1) sc__law_needed_words.nd rfl (Or.inl rfl) (gn_lst ga_nil))
      (gss_cons (gs_for PassesOwn.never rfl (k_itL K (k_cal K c__law_tuples (hr.mono (by decide)) (by rfl) (ga_cons (GN.ge (gn_lc (own := [("_law_row", 3)]) rfl sc__law_needed_words.nd (k_itT K (k_ixT K (Zn.gv 0) ge_int)) (blkOk_by (N := ["_law_part", "_law_found", "_law_words", "_law_row", "_law_names", "_law_word_here"]) (sc := defScope s__law_needed_words) (by decide +kernel)) (fun _ _ _ _ _ => (gg_name (i := 3) sc__law_needed_words.nd rfl (Or.inl rfl))) (fun _ _ _ _ _ => gts_nil) (fun _ _ _ _ _ => (k_ixT K (Zn.gv 3) ge_int)) (by decide))) ga_nil))) (gg_name (i := 2) sc__law_needed_words.nd rfl (Or.inl rfl)) 
       (gss_cons (gs_setO (i := 4) sc__law_needed_words.nd rfl (Or.inl rfl) gn_dnew)
       (gss_cons (gs_for PassesOwn.never rfl (k_itZT K (by rfl) T.z_zip (ga_cons (k_ixT K (Zn.gv 0) ge_int) (ga_cons (Zn.gv 2) ga_nil))) (k_gtup K (n := 2) (by rfl) (ggs_cons (gg_name (i := 3) sc__law_needed_words.nd rfl (Or.inl rfl)) (ggs_cons (gg_name (i := 5) sc__law_needed_words.nd rfl (Or.inl rfl)) ggs_nil))) 
        (gss_one (gs_putD (hu_of hr) 4 (k_ixT K (Zn.gv 3) ge_int) (ge_tup (ga_cons (k_ixT K (Zn.gv 3) ge_int) (ga_cons (Zn.gv 5) ga_nil))))))
       (gss_one (gs_post (gs_if (gt_cmpR go_eqI (k_ixT K (k_calB K c__law_worth (hr.mono (by decide)) (by rfl) (gab_own 4 (gab_cons (k_ixT K (Zn.gv 0) ge_int) (gab ga_nil)))) ge_int) ge_int (nomark _)) 
        (gss_one (gs_expr (k_app K 1 (Zn.gv 2)))) gss_nil))))))
      (gss_one (gs_ret (Zn.gvF 1))))), ?_⟩
    rintro gs Φ ⟨p, rfl, ok, hs, q⟩
    have hrl : (p.rows.map gRw).length = p.rows.length := List.length_map ..
    have hr8 := ok.rl
    walk_at "g0"
    walk_at "gz"
    refine ⟨fun i acc ρ => ρ = [.fz (gP p), .ow true (.lst []), .un, .un, .un, .un] ∧ acc = ((p.rows.map (·.2)).take i).map fun w : Nat => G.int (w : Int), ⟨rfl, rfl⟩, ?_, ?_⟩
    · rintro i g acc ρ hg hl ⟨rfl, rfl⟩
      obtain ⟨r, hr, rfl⟩ := get_map hg
      walk_at "gz"
      refine ⟨rfl, ?_⟩
      rw [take_snoc (x := r.2) (by rw [List.getElem?_map, hr]; rfl), List.map_append]
      rfl
    rintro acc ρ hl ⟨rfl, rfl⟩
    rw [hrl, List.take_of_length_le (by rw [List.length_map]; exact Nat.le_refl _)]
    walk_at "gz"
    refine ⟨p.rows.map (·.2), rfl, hs, by rw [List.length_map]; exact hr8, _, rfl, fun i ρ => ∃ v2 v3 v4 v5, ρ = [.fz (gP p), .ow true (.lst ((((rowsW (p.rows.map (·.2))).take i).filter (nee p)).map gWs)), v2, v3, v4, v5], ⟨_, _, _, _, rfl⟩, ?_, ?_⟩
    · rintro i g ρ hi ⟨v2, v3, v4, v5, rfl⟩
      obtain ⟨r, hr, rfl⟩ := get_map hi
      have ft := rowsW_Fit (List.mem_of_getElem? hr)
      have hil := getL hr
      have hrw := rowsW_len (p.rows.map (·.2))
      have h16 : (2 : Nat) ^ (p.rows.map (·.2)).sum ≤ 65536 := by
        rw [show 65536 = 2 ^ 16 from rfl]
        exact Nat.pow_le_pow_right (by decide) hs
      have hfl : ((((rowsW (p.rows.map (·.2))).take i).filter (nee p)).map gWs).length < 100000 := by
        rw [List.length_map]
        have := List.length_filter_le (nee p) ((rowsW (p.rows.map (·.2))).take i)
        rw [List.length_take] at this
        omega
      walk_at "gz"
      refine ⟨p.rows.map gRw, r.map G.int, rfl, fun j ρ => ∃ v3 v5, ρ = [.fz (gP p), .ow true (.lst ((((rowsW (p.rows.map (·.2))).take i).filter (nee p)).map gWs)), .fz (gWs r), v3, .ow true (dG (wlG ((envOf p.rows r).take j))), v5], ⟨_, _, rfl⟩, ?_, ?_⟩
      · rintro j g ρ hg ⟨v3, v5, rfl⟩
        obtain ⟨q', x, hr', hx, rfl⟩ := zip_at hg
        have hil := getL hr'
        have hst := env_step ok.nd hr' hx
        have hkl : (wlG ((envOf p.rows r).take j)).length ≤ 8 := by
          rw [wlG_len, List.length_take]
          omega
        walk_at "gz"
        exact ⟨_, _, by rw [hst]⟩
      · rintro ρ ⟨v3, v5, rfl⟩
        rw [zip_len ft.1, env_all]
        have hw := W_spec (ok.h1 r ft)
        walk_at "gz"
        refine ⟨p.needs, _, _, rfl, ok.d1, hw, flat_tup (fun g hg => ?_), ?_⟩
        · simp only [List.mem_cons, List.not_mem_nil, or_false] at hg
          rcases hg with rfl | rfl <;> exact flat_int
        walk_at "gz"
        rw [take_snoc hr, List.filter_append, List.map_append]
        by_cases c : (W (envOf p.rows r) p.needs).2 = 1
        · have hn : nee p r = true := decide_eq_true c
          walk_at "gz"
          refine ⟨.fz (gWs r), v3, .ow true (dG (wlG (envOf p.rows r))), v5, ?_⟩
          rw [List.filter_cons, if_pos hn]
          rfl
        · have hn : nee p r = false := decide_eq_false c
          walk_at "gz"
          refine ⟨.fz (gWs r), v3, .ow true (dG (wlG (envOf p.rows r))), v5, ?_⟩
          rw [List.filter_cons, if_neg (by rw [hn]; decide), List.filter_nil, List.map_nil, List.append_nil]
    · rintro ρ ⟨v2, v3, v4, v5, rfl⟩
      rw [List.length_map, List.take_length]
      walk_at "gz"
      exact q
theorem ok_unmetw {f : Addr} {fd : FuncData} (F : Fun K "_law_unmet_words" "_law_unmet_words" s__law_unmet_words f fd) (c__law_needed_words : Cal P w K mg base "_law_needed_words" 11 (spG K ufNeeded)) (c__law_given : Cal P w K mg base "_law_given" 11 (spG K ufGiven)) (T : Tx K mg aR aN) : FnOk P w K mg base CX0 12 f fd ["_law_part"] (spG K ufUnmet) := by
  refine g_ok F sc__law_unmet_words (fun gs Φ h => ?_) (fun cdv A outer s H E hr => ?_)
  · obtain ⟨_, rfl, _⟩ := h
    rfl
  · refine ⟨_, _, 
      (gss_cons (gs_for PassesOwn.never rfl (k_itL K (k_cal K c__law_needed_words (hr.mono (by decide)) (by rfl) (ga_cons (Zn.gv 0) ga_nil))) (gg_name (i := 1) sc__law_unmet_words.nd rfl (Or.inl rfl)) 
       (gss_one (gs_post (gs_if (gt_not (k_truth K (GE.gb (k_cal K c__law_given (hr.mono (by decide)) (by rfl) (ga_cons (Zn.gv 0) (ga_cons (Zn.gv 1) ga_nil)))))) 
        (gss_one (gs_ret (Zn.gv 1))) gss_nil))))
      (gss_one (gs_ret ge_non))), ?_⟩
    rintro gs Φ ⟨p, rfl, ok, hs, q⟩
    have hun : unm p = (need p).find? fun r => (giv p r).isEmpty := by
      unfold unm need
      rw [List.find?_filter]
      congr 1
      funext r
      cases nee p r <;> cases (giv p r).isEmpty <;> rfl
    rw [hun] at q
    walk_at "g0"
    walk_at "gz"
    refine ⟨p, rfl, ok, hs, _, rfl, fun i ρ => ∃ v1, ρ = [.fz (gP p), v1] ∧ ∀ r ∈ (need p).take i, (giv p r).isEmpty = false, ⟨_, rfl, by simp⟩, ?_, ?_⟩
    · rintro i g ρ hi ⟨v1, rfl, hno⟩
      obtain ⟨r, hr, rfl⟩ := get_map hi
      have ft := rowsW_Fit (List.mem_filter.mp (List.mem_of_getElem? hr)).1
      have nxt : (giv p r).isEmpty = false → ∀ r ∈ (need p).take (i + 1), (giv p r).isEmpty = false := fun h x hx => by
        rw [take_snoc hr] at hx
        rcases List.mem_append.mp hx with m | m
        · exact hno x m
        · rw [List.mem_singleton.mp m]; exact h
      walk_at "gz"
      refine ⟨p, r, rfl, ok, ft, ?_⟩
      walk_at "gz"
      cases hg : giv p r with
      | nil =>
        walk_at "gz"
        have e : ((need p).find? fun r => (giv p r).isEmpty) = some r := by
          have hil := getL hr
          have hs2 : need p = (need p).take i ++ (r :: (need p).drop (i + 1)) := by
            have := List.drop_eq_getElem_cons hil
            rw [show (need p)[i] = r from (List.getElem?_eq_some_iff.mp hr).2] at this
            rw [← this, List.take_append_drop]
          rw [hs2, List.find?_append, List.find?_eq_none.mpr (fun x hx => by rw [hno x hx]; decide)]
          simp [hg]
        rw [e] at q
        rw [if_pos (by rfl)]
        walk_at "gz"
        exact q
      | cons a l =>
        walk_at "gz"
        try rw [if_neg (by intro z; cases z)]
        exact ⟨_, rfl, nxt (by rw [hg]; rfl)⟩
    · rintro ρ ⟨v1, rfl, hno⟩
      rw [List.length_map, List.take_length] at hno
      walk_at "gz"
      rw [List.find?_eq_none.mpr (fun x hx => by rw [hno x hx]; decide)] at q
      exact q
end
end Zn
namespace Zn
open PySem PySem.Spec PyProof.Rows L2 TL
abbrev s__law_own_answers : Stmt := topS 38
theorem sc__law_own_answers : FnScope ["_law_part", "_law_words", "_law_log", "_law_row"] ["_law_part", "_law_words", "_law_log"] (defScope s__law_own_answers) := ⟨rfl, rfl, rfl, by decide +kernel, rfl, by decide +kernel, by decide +kernel⟩

abbrev s__law_plain : Stmt := topS 39
theorem sc__law_plain : FnScope ["_law_told", "_law_due", "_law_word_here"] ["_law_told", "_law_due"] (defScope s__law_plain) := ⟨rfl, rfl, rfl, by decide +kernel, rfl, by decide +kernel, by decide +kernel⟩

/-- what is kept of the answers that were given -/
def LogOk (p : Pt) (lg : Lg) : Prop := ∀ e ∈ lg, e.2 ∈ giv p e.1 ∧ (p.st = 1 → ∀ e' ∈ lg, e'.1 = e.1 → e'.2 = e.2)
theorem giv_nodup (p : Pt) (ws : List Int) : (giv p ws).Nodup := by
  unfold giv
  refine List.Pairwise.map _ (fun a b h => ?_) ((List.nodup_range).filter _)
  omega
theorem filter_one {l : List Int} (h : l.Nodup) {a : Int} (m : a ∈ l) : l.filter (fun x => decide (x = a)) = [a] := by
  induction l with
  | nil => cases m
  | cons x l ih =>
    obtain ⟨h1, h2⟩ := List.nodup_cons.mp h
    rcases List.mem_cons.mp m with e | m
    · subst e
      rw [List.filter_cons, if_pos (by simp)]
      rw [List.filter_eq_nil_iff.mpr (fun y hy => by intro z; exact h1 (of_decide_eq_true z ▸ hy))]
    · have hx : ¬ x = a := fun e => h1 (e ▸ m)
      rw [List.filter_cons, if_neg (by simp [hx])]
      exact ih h2 m
theorem fold_miss {ws : List Int} : ∀ (lg : Lg) (as : List Int), (∀ e ∈ lg, e.1 ≠ ws) → lg.foldl (fun as e => if e.1 = ws then as.filter fun a => decide (a = e.2) else as) as = as
  | [], _, _ => rfl
  | e :: lg, as, h => by
    rw [List.foldl_cons, if_neg (h e (List.mem_cons_self ..))]
    exact fold_miss lg as fun e' he => h e' (List.mem_cons_of_mem _ he)
theorem fold_one {ws : List Int} {a : Int} : ∀ (lg : Lg), (∀ e ∈ lg, e.1 = ws → e.2 = a) → lg.foldl (fun as e => if e.1 = ws then as.filter fun a => decide (a = e.2) else as) [a] = [a]
  | [], _ => rfl
  | e :: lg, h => by
    rw [List.foldl_cons]
    have : (if e.1 = ws then [a].filter (fun x => decide (x = e.2)) else [a]) = [a] := by
      by_cases c : e.1 = ws
      · rw [if_pos c, h e (List.mem_cons_self ..) c]
        simp
      · rw [if_neg c]
    rw [this]
    exact fold_one lg fun e' he => h e' (List.mem_cons_of_mem _ he)
theorem fold_hit {ws : List Int} {a : Int} : ∀ (lg : Lg) (as : List Int), as.Nodup → a ∈ as → (∀ e ∈ lg, e.1 = ws → e.2 = a) → (∃ e ∈ lg, e.1 = ws) → lg.foldl (fun as e => if e.1 = ws then as.filter fun a => decide (a = e.2) else as) as = [a]
  | [], _, _, _, _, ⟨_, h, _⟩ => by cases h
  | e :: lg, as, nd, m, h, hx => by
    rw [List.foldl_cons]
    by_cases c : e.1 = ws
    · rw [if_pos c, h e (List.mem_cons_self ..) c, filter_one nd m]
      exact fold_one lg fun e' he => h e' (List.mem_cons_of_mem _ he)
    · rw [if_neg c]
      refine fold_hit lg as nd m (fun e' he => h e' (List.mem_cons_of_mem _ he)) ?_
      obtain ⟨e', he, hw⟩ := hx
      rcases List.mem_cons.mp he with z | z
      · exact (c (z ▸ hw)).elim
      · exact ⟨e', z, hw⟩
theorem ans_hit {p : Pt} {ws : List Int} {lg : Lg} (ok : LogOk p lg) (hst : p.st = 1) {e : List Int × Int} (he : e ∈ lg) (hw : e.1 = ws) : ans p ws lg = [e.2] := by
  unfold ans
  rw [if_pos hst]
  refine fold_hit lg _ (giv_nodup p ws) (hw ▸ (ok e he).1) (fun e' he' hw' => (ok e he).2 hst e' he' (hw'.trans hw.symm)) ⟨e, he, hw⟩
theorem ans_miss {p : Pt} {ws : List Int} {lg : Lg} (h : ∀ e ∈ lg, e.1 ≠ ws) : ans p ws lg = giv p ws := by
  unfold ans
  split
  · exact fold_miss lg _ h
  · rfl
theorem ans_sub {p : Pt} {ws : List Int} {lg : Lg} {a : Int} (h : a ∈ ans p ws lg) : a ∈ giv p ws := by
  unfold ans at h
  split at h
  · have key : ∀ (lg : Lg) (as : List Int), a ∈ lg.foldl (fun as e => if e.1 = ws then as.filter fun a => decide (a = e.2) else as) as → a ∈ as := fun lg => by
      induction lg with
      | nil => exact fun as h => h
      | cons e lg ih =>
        intro as h
        rw [List.foldl_cons] at h
        have := ih _ h
        split at this
        · exact (List.mem_filter.mp this).1
        · exact this
    exact key lg _ h
  · exact h
theorem ans_in {p : Pt} {ws : List Int} {lg : Lg} {a : Int} (hst : p.st = 1) (h : a ∈ ans p ws lg) : ∀ e ∈ lg, e.1 = ws → e.2 = a := by
  unfold ans at h
  rw [if_pos hst] at h
  have key : ∀ (lg : Lg) (as : List Int), a ∈ lg.foldl (fun as e => if e.1 = ws then as.filter fun a => decide (a = e.2) else as) as → a ∈ as ∧ ∀ e ∈ lg, e.1 = ws → e.2 = a := fun lg => by
    induction lg with
    | nil => exact fun as h => ⟨h, fun e he => by cases he⟩
    | cons e lg ih =>
      intro as h
      rw [List.foldl_cons] at h
      obtain ⟨h1, h2⟩ := ih _ h
      split at h1
      · rename_i c
        obtain ⟨m1, m2⟩ := List.mem_filter.mp h1
        refine ⟨m1, fun e' he hw => ?_⟩
        rcases List.mem_cons.mp he with z | z
        · rw [z]; exact (of_decide_eq_true m2).symm
        · exact h2 e' z hw
      · rename_i c
        refine ⟨h1, fun e' he hw => ?_⟩
        rcases List.mem_cons.mp he with z | z
        · exact (c (z ▸ hw)).elim
        · exact h2 e' z hw
  exact (key lg _ h).2
theorem log_snoc {p : Pt} {ws : List Int} {lg : Lg} {a : Int} (ok : LogOk p lg) (h : a ∈ ans p ws lg) : LogOk p (lg ++ [(ws, a)]) := by
  intro e he
  refine ⟨?_, fun hst e' he' hw => ?_⟩
  · rcases List.mem_append.mp he with m | m
    · exact (ok e m).1
    · rw [List.mem_singleton.mp m]; exact ans_sub h
  · rcases List.mem_append.mp he with m | m <;> rcases List.mem_append.mp he' with m' | m'
    · exact (ok e m).2 hst e' m' hw
    · rw [List.mem_singleton.mp m'] at hw ⊢
      exact (ans_in hst h e m hw.symm).symm
    · rw [List.mem_singleton.mp m] at hw ⊢
      exact ans_in hst h e' m' hw
    · rw [List.mem_singleton.mp m, List.mem_singleton.mp m']
theorem ans_len {p : Pt} (ok : OkPt p) (ws : List Int) (lg : Lg) : (ans p ws lg).length ≤ 256 := by
  have hg := giv_len ok ws
  unfold ans
  split
  · have key : ∀ (lg : Lg) (as : List Int), (lg.foldl (fun as e => if e.1 = ws then as.filter fun a => decide (a = e.2) else as) as).length ≤ as.length := fun lg => by
      induction lg with
      | nil => exact fun as => Nat.le_refl _
      | cons e lg ih =>
        intro as
        rw [List.foldl_cons]
        refine Nat.le_trans (ih _) ?_
        split
        · exact List.length_filter_le _ _
        · exact Nat.le_refl _
    exact Nat.le_trans (key lg _) hg
  · exact hg
def ufOwn : List G → (G → Prop) → Prop := fun gs Φ => ∃ (p : Pt) (ws : List Int) (lg : Lg), gs = [gP p, gWs ws, .lst (lg.map gLe)] ∧ OkPt p ∧ Fit p.rows ws ∧ LogOk p lg ∧ Φ (.tup ((ans p ws lg).map G.int))
def ufPlain : List G → (G → Prop) → Prop := fun gs Φ => ∃ ns : List Int, gs = [gWs ns, gWs ns] ∧ ns.length ≤ 1000 ∧ Φ (.bl true)
section
variable {P : Program} {w : World} {K : PySem.W.Frag} {mg : Str → Option Value} {base : Heap} {aR aN C : Addr} {n : Nat}
theorem ok_own {f : Addr} {fd : FuncData} (F : Fun K "_law_own_answers" "_law_own_answers" s__law_own_answers f fd) (c__law_given : Cal P w K mg base "_law_given" 11 (spG K ufGiven)) (T : Tx K mg aR aN) : FnOk P w K mg base CX0 12 f fd ["_law_part", "_law_words", "_law_log"] (spG K ufOwn) := by
  refine g_ok F sc__law_own_answers (fun gs Φ h => ?_) (fun cdv A outer s H E hr => ?_)
  · obtain ⟨_, _, _, rfl, _⟩ := h
    rfl
  · refine ⟨_, _, 
      (gss_cons (gs_post (gs_if (gt_cmpR go_eqI (k_ixT K (Zn.gv 0) ge_int) ge_int (nomark _)) 
       (gss_one (gs_for PassesOwn.never rfl (k_itL K (Zn.gv 2)) (gg_name (i := 3) sc__law_own_answers.nd rfl (Or.inl rfl)) 
        (gss_one (gs_post (gs_if (kt_eqD K hr.units (k_ixT K (Zn.gv 3) ge_int) (Zn.gv 1)) 
         (gss_one (gs_ret (ge_tup (ga_cons (k_ixT K (Zn.gv 3) ge_int) ga_nil)))) gss_nil))))) gss_nil))
      (gss_one (gs_ret (k_tuple K (by rfl) T.z_tuple (GE.gb (k_cal K c__law_given (hr.mono (by decide)) (by rfl) (ga_cons (Zn.gv 0) (ga_cons (Zn.gv 1) ga_nil)))))))), ?_⟩
    rintro gs Φ ⟨p, ws, lg, rfl, ok, ft, lk, q⟩
    have hgl := giv_len ok ws
    walk_at "g0"
    walk_at "gs"
    refine v_ps (fun ρ' => ∃ v3, ρ' = [.fz (gP p), .fz (gWs ws), .fz (.lst (lg.map gLe)), v3] ∧ ans p ws lg = giv p ws) ?_ ?_
    · walk_at "gz"
      by_cases hst : p.st = 1
      · walk_at "gz"
        refine ⟨fun i ρ => ∃ v3, ρ = [.fz (gP p), .fz (gWs ws), .fz (.lst (lg.map gLe)), v3] ∧ ∀ e ∈ lg.take i, e.1 ≠ ws, ⟨_, rfl, by simp⟩, ?_, ?_⟩
        · rintro i g ρ hi ⟨v3, rfl, hno⟩
          obtain ⟨e, hee, rfl⟩ := get_map hi
          walk_at "gz"
          refine v_eqW ?_
          by_cases hc : e.1 = ws
          · rw [decide_eq_true hc]
            rw [ans_hit lk hst (List.mem_of_getElem? hee) hc] at q
            walk_at "gz"
            exact q
          · rw [decide_eq_false hc]
            walk_at "gz"
            refine ⟨_, rfl, fun x hx => ?_⟩
            rw [take_snoc hee] at hx
            rcases List.mem_append.mp hx with m | m
            · exact hno x m
            · rw [List.mem_singleton.mp m]; exact hc
        · rintro ρ ⟨v3, rfl, hno⟩
          rw [List.length_map, List.take_length] at hno
          exact ⟨_, rfl, ans_miss hno⟩
      · walk_at "gz"
        exact ⟨_, rfl, if_neg hst⟩
    · rintro ρ' ⟨v3, rfl, ea⟩
      rw [ea] at q
      walk_at "gz"
      refine ⟨p, ws, rfl, ok, ft, ?_⟩
      walk_at "gz"
      exact q
theorem ok_plain {f : Addr} {fd : FuncData} (F : Fun K "_law_plain" "_law_plain" s__law_plain f fd) (T : Tx K mg aR aN) : FnOk P w K mg base CX0 1 f fd ["_law_told", "_law_due"] (spG K ufPlain) := by
  refine g_ok F sc__law_plain (fun gs Φ h => ?_) (fun cdv A outer s H E hr => ?_)
  · obtain ⟨_, rfl, _⟩ := h
    rfl
  · refine ⟨_, _, 
      (gss_cons (gs_post (gs_if (GW.gt (gw_or (gt_not (gt_val (k_isi K (by rfl) T.z_isinstance (Zn.gv 0) (pe_bltn (v := .ty "tuple") (by rfl) T.z_tuple (by decide +kernel) rfl)))) (gw_or1 (gt_val (k_any K rfl (by rfl) T.z_any (GE.gb (GN.ge (gn_lc (own := [("_law_word_here", 2)]) rfl sc__law_plain.nd (k_itT K (Zn.gv 0)) (blkOk_by (N := ["_law_told", "_law_due", "_law_word_here"]) (sc := defScope s__law_plain) (by decide +kernel)) (fun _ _ _ _ _ => (gg_name (i := 2) sc__law_plain.nd rfl (Or.inl rfl))) (fun _ _ _ _ _ => gts_nil) (fun _ _ _ _ _ => (k_isi K (by rfl) T.z_isinstance (Zn.gv 2) (pe_bltn (v := .ty "bool") (by rfl) T.z_bool (by decide +kernel) rfl))) (by decide))))))))) 
       (gss_one (gs_ret ge_bl)) gss_nil))
      (gss_one (gs_ret (k_eqD K hr.units (Zn.gv 0) (Zn.gv 1))))), ?_⟩
    rintro gs Φ ⟨ns, rfl, hl, q⟩
    have hm : (ns.map G.int).length = ns.length := List.length_map ..
    walk_at "g0"
    walk_at "gz"
    refine ⟨fun i acc ρ => ρ = [.fz (gWs ns), .fz (gWs ns), .un] ∧ acc = List.replicate i (.bl false), ⟨rfl, rfl⟩, ?_, ?_⟩
    · rintro i g acc ρ hg hl' ⟨rfl, rfl⟩
      obtain ⟨a, ha, rfl⟩ := get_map hg
      walk_at "gz"
      refine ⟨rfl, ?_⟩
      rw [List.replicate_succ']
    rintro acc ρ hl' ⟨rfl, rfl⟩
    walk_at "gz"
    refine ⟨List.replicate (ns.map G.int).length false, by rw [List.map_replicate], ?_⟩
    rw [show (List.replicate (ns.map G.int).length false).any id = false by rw [List.any_replicate]; simp]
    walk_at "gz"
    refine v_eqW ?_
    rw [decide_eq_true rfl]
    exact q
end
end Zn
namespace Zn
open PySem PySem.Spec PyProof.Rows L2 TL
abbrev s__law_label : Stmt := topS 25
theorem sc__law_label : FnScope ["_law_salt", "_law_k", "_law_letters", "_law_signs", "_law_words", "_law_word_here", "_law_spot", "_law_number"] ["_law_salt", "_law_k"] (defScope s__law_label) := ⟨rfl, rfl, rfl, by decide +kernel, rfl, by decide +kernel, by decide +kernel⟩

def ufLabel : List G → (G → Prop) → Prop := fun gs Φ => ∃ s k : Nat, gs = [.int (s : Int), .int (k : Int)] ∧ s < 40000 ∧ k < 100 ∧ ∀ t : Str, t.cps[s % 4]? = some (97 + (s / 4 + 17 * k) % 26) → t ≠ "result" → Φ (.str t)
theorem letters_at {j : Nat} (h : j < 26) : (("abcdefghijklmnopqrstuvwxyz" : Str)).cps[j]? = some (97 + j) := by
  have key : ∀ j : Fin 26, (("abcdefghijklmnopqrstuvwxyz" : Str)).cps[j.val]? = some (97 + j.val) := by decide +kernel
  exact key ⟨j, h⟩
theorem signs_at {j : Nat} (h : j < 36) : ∃ c, (("abcdefghijklmnopqrstuvwxyz" : Str) ++ ("0123456789" : Str)).cps[j]? = some c := by
  have key : ∀ j : Fin 36, ((("abcdefghijklmnopqrstuvwxyz" : Str) ++ ("0123456789" : Str)).cps[j.val]?).isSome = true := by decide +kernel
  exact Option.isSome_iff_exists.mp (key ⟨j, h⟩)
theorem len_one (u : Str) (c : Nat) : (u ++ (⟨#[c]⟩ : Str)).length = u.length + 1 := by
  show (u.cps ++ #[c]).size = u.cps.size + 1
  simp
theorem at_oldC {u v : Str} {i : Nat} {c : Nat} (h : u.cps[i]? = some c) : (u ++ v).cps[i]? = some c := by
  show (u.cps ++ v.cps)[i]? = some c
  rw [Array.getElem?_append_left (Array.getElem?_eq_some_iff.mp h).1]
  exact h
theorem at_newC (u : Str) (c : Nat) : (u ++ (⟨#[c]⟩ : Str)).cps[u.length]? = some c := by
  show (u.cps ++ #[c])[u.cps.size]? = some c
  rw [Array.getElem?_append_right (Nat.le_refl _)]
  simp
theorem v_ixSn {z : Str} {i : Int} {j c : Nat} {Q : G → Prop} (e : i = (j : Int)) (hj : j < 1000) (hc : z.cps[j]? = some c) (q : Q (.str ⟨#[c]⟩)) : u2IxS (.str z) (.int i) Q := by
  subst e
  have hz : j < z.length := (Array.getElem?_eq_some_iff.mp hc).1
  exact v_ixS (by omega) (by omega) (by omega) (by rw [Int.toNat_natCast]; exact hc) q
theorem v_addC {u : Str} {c : Nat} {Q : G → Prop} (h : u.length ≤ 1000) (q : Q (.str (u ++ (⟨#[c]⟩ : Str)))) : u2AddS (.str u) (.str ⟨#[c]⟩) Q := v_addS (Nat.le_trans (Nat.add_le_add_right h _) (show 1000 + 1 ≤ sizeLine by decide +kernel)) q
theorem result_in : ("result" : Str) ∈ Txt.split (("record external steady needs gives entry function var let make call if else while return raise try catch " : Str) ++ ("assert null pick wide div rem result" : Str)) (" " : Str) := by decide +kernel
theorem cut8 (u : Str) : (cutS (u ++ ("00000000" : Str)) none (some 8)).length = 8 ∧ ∀ i c, i < 8 → u.cps[i]? = some c → (cutS (u ++ ("00000000" : Str)) none (some 8)).cps[i]? = some c := by
  have hl : (u ++ ("00000000" : Str)).length = u.length + 8 := by
    show (u.cps ++ ("00000000" : Str).cps).size = u.cps.size + 8
    rw [Array.size_append]
    rfl
  have e8 : HT.sIx (u.length + 8) (u.length + 8) (some 8) = 8 := by
    rw [show (8 : Int) = ((8 : Nat) : Int) from rfl, HT.sIx_nat]
    omega
  have e0 : HT.sIx (u.length + 8) 0 none = 0 := rfl
  constructor
  · unfold cutS Str.length
    rw [List.size_toArray, List.length_take, List.length_drop, Array.length_toList]
    show min (HT.sIx (u ++ ("00000000" : Str)).length (u ++ ("00000000" : Str)).length (some 8) - HT.sIx (u ++ ("00000000" : Str)).length 0 none) ((u ++ ("00000000" : Str)).length - HT.sIx (u ++ ("00000000" : Str)).length 0 none) = 8
    rw [hl, e8, e0]
    omega
  · intro i c hi h
    unfold cutS
    rw [hl, e8, e0, List.drop_zero, Nat.sub_zero]
    rw [List.getElem?_toArray, List.getElem?_take, if_pos hi, Array.getElem?_toList]
    exact at_oldC h
section
variable {P : Program} {w : World} {K : PySem.W.Frag} {mg : Str → Option Value} {base : Heap} {aR aN C : Addr} {n : Nat}
theorem ok_label {f : Addr} {fd : FuncData} (F : Fun K "_law_label" "_law_label" s__law_label f fd) (T : Tx K mg aR aN) : FnOk P w K mg base CX0 1 f fd ["_law_salt", "_law_k"] (spG K ufLabel) := by
  refine g_ok F sc__law_label (fun gs Φ h => ?_) (fun cdv A outer s H E hr => ?_)
  · obtain ⟨_, _, rfl, _⟩ := h
    rfl
  · refine ⟨_, _, 
      (gss_cons (gs_set (i := 2) sc__law_label.nd rfl (Or.inl rfl) ge_str)
      (gss_cons (gs_set (i := 3) sc__law_label.nd rfl (Or.inl rfl) (ge_op go_add_str (Zn.gv 2) ge_str))
      (gss_cons (gs_set (i := 4) sc__law_label.nd rfl (Or.inl rfl) ge_str)
      (gss_cons (gs_set (i := 5) sc__law_label.nd rfl (Or.inl rfl) ge_str)
      (gss_cons (gs_for PassesOwn.never rfl (gi_range1 (by rfl) T.z_range (ge_op go_mod (ge_callTy1 gc_int (by rfl) T.z_int (by decide +kernel) (GE.gb (Zn.gv 0))) ge_int)) (gg_name (i := 6) sc__law_label.nd rfl (Or.inl rfl)) 
       (gss_one (gs_set (i := 5) sc__law_label.nd rfl (Or.inl rfl) (ge_op go_add_str (Zn.gv 5) (k_ixS (Zn.gv 2) (ge_op go_mod (ge_callTy1 gc_int (by rfl) T.z_int (by decide +kernel) (GE.gb (ge_op go_add (ge_op go_fdiv (Zn.gv 0) ge_int) (ge_op go_mul ge_int (Zn.gv 6))))) ge_int))))))
      (gss_cons (gs_set (i := 7) sc__law_label.nd rfl (Or.inl rfl) (ge_op go_add (ge_op go_fdiv (Zn.gv 0) ge_int) (ge_op go_mul ge_int (Zn.gv 1))))
      (gss_cons (gs_set (i := 5) sc__law_label.nd rfl (Or.inl rfl) (ge_op go_add_str (Zn.gv 5) (k_ixS (Zn.gv 2) (ge_op go_mod (ge_callTy1 gc_int (by rfl) T.z_int (by decide +kernel) (GE.gb (Zn.gv 7))) ge_int))))
      (gss_cons (gs_for PassesOwn.never rfl (gi_range1 (by rfl) T.z_range (ge_op go_mod (ge_callTy1 gc_int (by rfl) T.z_int (by decide +kernel) (GE.gb (ge_op go_add (ge_op go_fdiv (Zn.gv 0) ge_int) (Zn.gv 1)))) ge_int)) (gg_name (i := 6) sc__law_label.nd rfl (Or.inl rfl)) 
       (gss_cons (gs_set (i := 7) sc__law_label.nd rfl (Or.inl rfl) (ge_op go_fdiv (Zn.gv 7) ge_int))
       (gss_one (gs_set (i := 5) sc__law_label.nd rfl (Or.inl rfl) (ge_op go_add_str (Zn.gv 5) (k_ixS (Zn.gv 3) (ge_op go_mod (ge_callTy1 gc_int (by rfl) T.z_int (by decide +kernel) (GE.gb (Zn.gv 7))) ge_int)))))))
      (gss_cons (gs_post (gs_if (kt_inS K (Zn.gv 5) (GE.gb (GN.ge (gn_split (ge_op go_add_str (Zn.gv 4) ge_str) ge_str)))) 
       (gss_one (gs_set (i := 5) sc__law_label.nd rfl (Or.inl rfl) (k_slS (ge_op go_add_str (Zn.gv 5) ge_str) gp_none (gp_some ge_int)))) gss_nil))
      (gss_one (gs_ret (Zn.gv 5)))))))))))), ?_⟩
    rintro gs Φ ⟨s, k, rfl, hs, hk, q⟩
    have l26 : (("abcdefghijklmnopqrstuvwxyz" : Str)).length = 26 := by decide +kernel
    have l36 : (("abcdefghijklmnopqrstuvwxyz" : Str) ++ ("0123456789" : Str)).length = 36 := by decide +kernel
    obtain ⟨sg, hsg⟩ : ∃ sg, sg = ("abcdefghijklmnopqrstuvwxyz" : Str) ++ ("0123456789" : Str) := ⟨_, rfl⟩
    have sgA : ∀ {j : Nat}, j < 36 → ∃ c, sg.cps[j]? = some c := fun h => hsg ▸ signs_at h
    rw [← hsg] at l36
    have e4 : ((s : Int) % 4) = ((s % 4 : Nat) : Int) := by omega
    walk_at "g0"
    walk_at "gz"
    refine v_addS (by decide +kernel) ?_
    rw [← hsg]
    clear hsg
    walk_at "gz"
    rw [e4]
    refine ⟨fun i ρ => ∃ (u : Str) (v6 : SG), ρ = [.fz (.int (s : Int)), .fz (.int (k : Int)), .fz (.str "abcdefghijklmnopqrstuvwxyz"), .fz (.str sg), .fz (.str "record external steady needs gives entry function var let make call if else while return raise try catch "), .fz (.str u), v6, .un] ∧ u.length = i, ⟨_, _, rfl, by decide +kernel⟩, ?_, ?_⟩
    · rintro i g ρ hi ⟨u, v6, rfl, hu⟩
      obtain ⟨hi, rfl⟩ := rgG_get hi
      walk_at "gz"
      refine v_ixSn (j := (s / 4 + 5 * i) % 26) (by omega) (by omega) (letters_at (Nat.mod_lt _ (by decide))) ?_
      refine v_addC (by omega) ?_
      exact ⟨_, _, rfl, by rw [len_one, hu]⟩
    · rintro ρ ⟨u, v6, rfl, hu⟩
      rw [rgG_len, Int.toNat_natCast] at hu
      walk_at "gz"
      refine v_ixSn (j := (s / 4 + 17 * k) % 26) (by omega) (by omega) (letters_at (Nat.mod_lt _ (by decide))) ?_
      refine v_addC (by omega) ?_
      have hat : (u ++ (⟨#[97 + (s / 4 + 17 * k) % 26]⟩ : Str)).cps[s % 4]? = some (97 + (s / 4 + 17 * k) % 26) := hu ▸ at_newC u _
      have hul := len_one u (97 + (s / 4 + 17 * k) % 26)
      generalize u ++ (⟨#[97 + (s / 4 + 17 * k) % 26]⟩ : Str) = u1 at hat hul ⊢
      have e3 : (((s : Int) / 3 + (k : Int)) % 4) = (((s / 3 + k) % 4 : Nat) : Int) := by omega
      walk_at "gz"
      rw [e3]
      refine ⟨fun i ρ => ∃ (u : Str) (v6 : SG) (m : Nat), ρ = [.fz (.int (s : Int)), .fz (.int (k : Int)), .fz (.str "abcdefghijklmnopqrstuvwxyz"), .fz (.str sg), .fz (.str "record external steady needs gives entry function var let make call if else while return raise try catch "), .fz (.str u), v6, .fz (.int (m : Int))] ∧ u.length ≤ 4 + i ∧ m ≤ 100000 ∧ u.cps[s % 4]? = some (97 + (s / 4 + 17 * k) % 26), ⟨u1, v6, s / 4 + 17 * k, ?_, by omega, by omega, hat⟩, ?_, ?_⟩
      · rw [show ((s / 4 + 17 * k : Nat) : Int) = (s : Int) / 4 + 17 * (k : Int) by omega]
      · rintro i g ρ hi ⟨u, v6, m, rfl, hu2, hm, hat2⟩
        obtain ⟨hi, rfl⟩ := rgG_get hi
        walk_at "gz"
        obtain ⟨c, hc⟩ := sgA (j := m / 36 % 36) (Nat.mod_lt _ (by decide))
        refine v_ixSn (j := m / 36 % 36) (by omega) (by omega) hc ?_
        refine v_addC (by omega) ?_
        refine ⟨u ++ (⟨#[c]⟩ : Str), .fz (.int (0 + (i : Nat))), m / 36, ?_, ?_, by omega, at_oldC hat2⟩
        · rw [show ((m / 36 : Nat) : Int) = (m : Int) / 36 by omega]
        · rw [len_one]; omega
      · rintro ρ ⟨u2, v6', m, rfl, hu2, hm, hat2⟩
        rw [rgG_len, Int.toNat_natCast] at hu2
        walk_at "gz"
        refine v_addS (by decide +kernel) ?_
        refine ⟨_, rfl, ?_⟩
        walk_at "gz"
        refine ⟨_, rfl, by decide, by decide +kernel, ?_⟩
        refine v_inS rfl ?_
        have hres := result_in
        generalize Txt.split _ _ = ns at hres ⊢
        by_cases hin : u2 ∈ ns
        · walk_at "gz"
          refine v_addS (j := ("00000000" : Str)) (Nat.le_trans (Nat.add_le_add_right (show u2.length ≤ 1000 by omega) _) (by decide +kernel)) ?_
          walk_at "gz"
          refine ⟨_, rfl, ?_, ?_⟩
          · show (u2.cps ++ ("00000000" : Str).cps).size ≤ 100000
            rw [Array.size_append]
            show u2.length + 8 ≤ 100000
            omega
          walk_at "gz"
          obtain ⟨c1, c2⟩ := cut8 u2
          refine q _ (c2 _ _ (by omega) hat2) fun e => ?_
          rw [e] at c1
          exact absurd c1 (by decide +kernel)
        · walk_at "gz"
          exact q _ hat2 fun e => hin (e ▸ hres)
end
end Zn
namespace Zn
open PySem PySem.Spec PyProof.Rows L2 TL
abbrev s__law_bare : Stmt := topS 26
theorem sc__law_bare : FnScope ["_law_rows", "_law_spares"] ["_law_rows", "_law_spares"] (defScope s__law_bare) := ⟨rfl, rfl, rfl, by decide +kernel, rfl, by decide +kernel, by decide +kernel⟩

abbrev s__law_leaves : Stmt := topS 27
theorem sc__law_leaves : FnScope ["_law_scope", "_law_sought", "_law_found", "_law_row"] ["_law_scope", "_law_sought"] (defScope s__law_leaves) := ⟨rfl, rfl, rfl, by decide +kernel, rfl, by decide +kernel, by decide +kernel⟩

abbrev Rws := List (Str × Nat)
abbrev scG (rows : Rws) (a b : Str) : G := .tup [.lst (rows.map gRw), .lst [], .bl true, .int 3, .str a, .str b]
def ufBare : List G → (G → Prop) → Prop := fun gs Φ => ∃ (rows : Rws) (a b : Str), gs = [.lst (rows.map gRw), .tup [.str a, .str b]] ∧ Φ (scG rows a b)
def lvs (rows : Rws) (w : Nat) : List Ex := (rows.filter fun r => decide (r.2 = w)).map fun r => Ex.nm r.1
def ufLeaves : List G → (G → Prop) → Prop := fun gs Φ => ∃ (rows : Rws) (a b : Str) (w : Nat), gs = [scG rows a b, .int (w : Int)] ∧ rows.length ≤ 8 ∧ Φ (.lst ((lvs rows w).map exG))
section
variable {P : Program} {w : World} {K : PySem.W.Frag} {mg : Str → Option Value} {base : Heap} {aR aN C : Addr} {n : Nat}
theorem ok_bare {f : Addr} {fd : FuncData} (F : Fun K "_law_bare" "_law_bare" s__law_bare f fd) (T : Tx K mg aR aN) : FnOk P w K mg base CX0 1 f fd ["_law_rows", "_law_spares"] (spG K ufBare) := by
  refine g_ok F sc__law_bare (fun gs Φ h => ?_) (fun cdv A outer s H E hr => ?_)
  · obtain ⟨_, _, _, rfl, _⟩ := h
    rfl
  · refine ⟨_, _, 
      (gss_one (gs_ret (ge_tup (ga_cons (Zn.gv 0) (ga_cons (GN.ge (gn_lst ga_nil)) (ga_cons ge_bl (ga_cons ge_int (ga_cons (k_ixT K (Zn.gv 1) ge_int) (ga_cons (k_ixT K (Zn.gv 1) ge_int) ga_nil))))))))), ?_⟩
    rintro gs Φ ⟨rows, a, b, rfl, q⟩
    walk_at "g0"
    walk_at "gz"
    exact q
theorem ok_leaves {f : Addr} {fd : FuncData} (F : Fun K "_law_leaves" "_law_leaves" s__law_leaves f fd) (T : Tx K mg aR aN) : FnOk P w K mg base CX0 1 f fd ["_law_scope", "_law_sought"] (spG K ufLeaves) := by
  refine g_ok F sc__law_leaves (fun gs Φ h => ?_) (fun cdv A outer s H E hr => ?_)
  · obtain ⟨_, _, _, _, rfl, _⟩ := h
    rfl
  · refine ⟨_, _, 
      (gss_cons (gs_setLcG (own := [("_law_row", 3)]) (i := 2) rfl sc__law_leaves.nd rfl rfl (sw_true rfl rfl rfl (by decide +kernel)) (k_itL K (k_ixT K (Zn.gv 0) ge_int)) (blkOk_by (N := ["_law_scope", "_law_sought", "_law_found", "_law_row"]) (sc := defScope s__law_leaves) (by decide +kernel)) (fun _ _ _ _ _ => (gg_name (i := 3) sc__law_leaves.nd rfl (Or.inl rfl))) (fun _ _ _ _ _ => (gts_one (GW.gt (gw_and (gt_cmpR go_eqI (k_len K (by rfl) T.z_len (GE.gb (Zn.gv 3))) ge_int (nomark _)) (gw_and1 (gt_cmpR go_eqI (k_ixT K (Zn.gv 3) ge_int) (Zn.gv 1) (nomark _))))))) (fun _ _ _ _ _ => (ge_tup (ga_cons ge_str (ga_cons (k_ixT K (Zn.gv 3) ge_int) ga_nil)))) (by decide))
      (gss_one (gs_ret (GN.ge (gn_op go_cat (Zn.gv 2) (GE.gb (GN.ge (gn_lc (own := [("_law_row", 3)]) rfl sc__law_leaves.nd (k_itL K (k_ixT K (Zn.gv 0) ge_int)) (blkOk_by (N := ["_law_scope", "_law_sought", "_law_found", "_law_row"]) (sc := defScope s__law_leaves) (by decide +kernel)) (fun _ _ _ _ _ => (gg_name (i := 3) sc__law_leaves.nd rfl (Or.inl rfl))) (fun _ _ _ _ _ => (gts_one (gt_cmpR go_eqI (k_ixT K (Zn.gv 3) ge_int) (Zn.gv 1) (nomark _)))) (fun _ _ _ _ _ => (ge_tup (ga_cons ge_str (ga_cons (k_ixT K (Zn.gv 3) ge_int) (ga_cons (k_ixT K (Zn.gv 3) ge_int) ga_nil))))) (by decide))))))))), ?_⟩
    rintro gs Φ ⟨rows, a, b, wd, rfl, hl, q⟩
    have hm : (rows.map gRw).length = rows.length := List.length_map ..
    walk_at "g0"
    walk_at "gz"
    refine ⟨fun i acc ρ => ρ = [.fz (scG rows a b), .fz (.int (wd : Int)), .un, .un] ∧ acc = (lvs (rows.take i) wd).map exG, ⟨rfl, rfl⟩, ?_, ?_⟩
    · rintro i g acc ρ hg hl' ⟨rfl, rfl⟩
      obtain ⟨r, hr, rfl⟩ := get_map hg
      dsimp only
      rw [take_snoc hr]
      unfold lvs
      rw [List.filter_append, List.map_append, List.map_append]
      by_cases c : r.2 = wd
      · have c' : ((r.2 : Nat) : Int) = (wd : Int) := by omega
        walk_at "gz"
        refine ⟨rfl, ?_⟩
        simp [c, exG]
      · have c' : ¬ ((r.2 : Nat) : Int) = (wd : Int) := by omega
        walk_at "gz"
        refine ⟨rfl, ?_⟩
        simp [c]
    rintro acc ρ hl' ⟨rfl, rfl⟩
    rw [hm, List.take_length]
    walk_at "gz"
    refine ⟨fun i acc ρ => ρ = [.fz (scG rows a b), .fz (.int (wd : Int)), .fz (.lst ((lvs rows wd).map exG)), .un] ∧ acc = [], ⟨rfl, rfl⟩, ?_, ?_⟩
    · rintro i g acc ρ hg hl' ⟨rfl, rfl⟩
      cases i <;> cases hg
    rintro acc ρ hl' ⟨rfl, rfl⟩
    walk_at "gz"
    refine v_catL (by rw [List.length_map]; simp only [List.length_nil]; unfold lvs; rw [List.length_map]; have := List.length_filter_le (fun r => decide (r.2 = wd)) rows; omega) ?_
    rw [List.append_nil]
    exact q
end
end Zn
namespace Zn
open PySem PySem.Spec PyProof.Rows L2 TL
abbrev s__law_typed : Stmt := topS 29
theorem sc__law_typed : FnScope ["_law_source_here", "_law_scope", "_law_width", "_law_fuel", "_law_leaves_here", "_law_way", "_law_sign", "_law_left", "_law_first", "_law_rows", "_law_row"] ["_law_source_here", "_law_scope", "_law_width", "_law_fuel"] (defScope s__law_typed) := ⟨rfl, rfl, rfl, by decide +kernel, rfl, by decide +kernel, by decide +kernel⟩

abbrev s__law_binary : Stmt := topS 30
theorem sc__law_binary : FnScope ["_law_source_here", "_law_scope", "_law_width", "_law_fuel", "_law_signs", "_law_sign", "_law_left"] ["_law_source_here", "_law_scope", "_law_width", "_law_fuel"] (defScope s__law_binary) := ⟨rfl, rfl, rfl, by decide +kernel, rfl, by decide +kernel, by decide +kernel⟩

abbrev s__law_compared : Stmt := topS 31
theorem sc__law_compared : FnScope ["_law_source_here", "_law_scope", "_law_fuel", "_law_sign", "_law_rows", "_law_row", "_law_sought", "_law_left", "_law_width", "_law_plain_here"] ["_law_source_here", "_law_scope", "_law_fuel"] (defScope s__law_compared) := ⟨rfl, rfl, rfl, by decide +kernel, rfl, by decide +kernel, by decide +kernel⟩

/-- an expr that keeps the widths -/
inductive HasTy (rows : Rws) : Ex → Nat → Prop
  | nm {n : Str} {w : Nat} (h : (n, w) ∈ rows) : HasTy rows (.nm n) w
  | wd {v : Int} {w : Nat} (h0 : 0 ≤ v) (h1 : v < 2 ^ w) : HasTy rows (.wd v (w : Int)) w
  | un {o : Str} {a w} (h : o = "not" ∨ o = "neg") (ha : HasTy rows a w) : HasTy rows (.un o a) w
  | bin {o : Str} {a b w} (h : o ∈ (["+", "-", "*", "&", "|", "^"] : List Str)) (ha : HasTy rows a w) (hb : HasTy rows b w) : HasTy rows (.bin o a b) w
  | shift {o : Str} {a b w v} (h : o = "<<" ∨ o = ">>") (v1 : 1 ≤ v) (v8 : v ≤ 8) (ha : HasTy rows a w) (hb : HasTy rows b v) : HasTy rows (.bin o a b) w
  | cmp {o : Str} {a b v} (h : o = "==" ∨ o = "!=" ∨ o = "<" ∨ o = "<=") (v1 : 1 ≤ v) (v8 : v ≤ 8) (ha : HasTy rows a v) (hb : HasTy rows b v) : HasTy rows (.bin o a b) 1
  | pick {c a b w} (hc : HasTy rows c 1) (ha : HasTy rows a w) (hb : HasTy rows b w) : HasTy rows (.pick c a b) w
  | wide {a v} {w : Nat} (v1 : 1 ≤ v) (v8 : v ≤ 8) (ha : HasTy rows a v) : HasTy rows (.wide a (w : Int)) w
def OkRows (rows : Rws) : Prop := rows.length ≤ 8 ∧ ∀ r ∈ rows, 1 ≤ r.2 ∧ r.2 ≤ 8
def ufTyped (n : Nat) : List G → (G → Prop) → Prop := fun gs Φ => ∃ (rows : Rws) (a b : Str) (w fuel : Nat), gs = [.drw, scG rows a b, .int (w : Int), .int (fuel : Int)] ∧ OkRows rows ∧ 1 ≤ w ∧ w ≤ 8 ∧ fuel < n ∧ fuel ≤ 4 ∧ ∀ e, HasTy rows e w → e.dep ≤ fuel → Φ (exG e)
def ufBinary (n : Nat) : List G → (G → Prop) → Prop := fun gs Φ => ∃ (rows : Rws) (a b : Str) (w fuel : Nat), gs = [.drw, scG rows a b, .int (w : Int), .int (fuel : Int)] ∧ OkRows rows ∧ 1 ≤ w ∧ w ≤ 8 ∧ fuel < n ∧ fuel ≤ 4 ∧ ∀ e, HasTy rows e w → e.dep ≤ fuel + 1 → Φ (exG e)
def ufCompared (n : Nat) : List G → (G → Prop) → Prop := fun gs Φ => ∃ (rows : Rws) (a b : Str) (fuel : Nat), gs = [.drw, scG rows a b, .int (fuel : Int)] ∧ OkRows rows ∧ fuel < n ∧ fuel ≤ 4 ∧ ∀ e, HasTy rows e 1 → e.dep ≤ fuel + 1 → Φ (exG e)
def ufKinded : List G → (G → Prop) → Prop := fun _ _ => False
theorem six_at {k : Int} (k0 : 0 ≤ k) (k1 : k < 6) : ∃ o : Str, o ∈ (["+", "-", "*", "&", "|", "^"] : List Str) ∧ atI [G.str "+", G.str "-", G.str "*", G.str "&", G.str "|", G.str "^", G.str "div", G.str "rem"] k = some (.str o) := by
  have : k = 0 ∨ k = 1 ∨ k = 2 ∨ k = 3 ∨ k = 4 ∨ k = 5 := by omega
  rcases this with rfl | rfl | rfl | rfl | rfl | rfl
  · exact ⟨"+", by simp, atG (j := 0) rfl rfl⟩
  · exact ⟨"-", by simp, atG (j := 1) rfl rfl⟩
  · exact ⟨"*", by simp, atG (j := 2) rfl rfl⟩
  · exact ⟨"&", by simp, atG (j := 3) rfl rfl⟩
  · exact ⟨"|", by simp, atG (j := 4) rfl rfl⟩
  · exact ⟨"^", by simp, atG (j := 5) rfl rfl⟩
theorem dep_bin {o : Str} {a b : Ex} {k : Nat} (ha : a.dep ≤ k) (hb : b.dep ≤ k) : (Ex.bin o a b).dep ≤ k + 1 := by
  simp only [Ex.dep]
  omega
section
variable {P : Program} {w : World} {K : PySem.W.Frag} {mg : Str → Option Value} {base : Heap} {aR aN C : Addr} {n : Nat}
theorem ok_binary {f : Addr} {fd : FuncData} (F : Fun K "_law_binary" "_law_binary" s__law_binary f fd) (c__law_digit : Cal P w K mg base "_law_digit" 1 (spG K ufDraw)) (c__law_typed : Cal P w K mg base "_law_typed" (2 * n + 3) (spG K (ufTyped n))) (T : Tx K mg aR aN) : FnOk P w K mg base CX0 (2 * n + 4) f fd ["_law_source_here", "_law_scope", "_law_width", "_law_fuel"] (spG K (ufBinary n)) := by
  refine g_ok F sc__law_binary (fun gs Φ h => ?_) (fun cdv A outer s H E hr => ?_)
  · obtain ⟨_, _, _, _, _, rfl, _⟩ := h
    rfl
  · refine ⟨_, _, 
      (gss_cons (gs_set (i := 4) sc__law_binary.nd rfl (Or.inl rfl) (GN.ge (gn_lst (ga_cons ge_str (ga_cons ge_str (ga_cons ge_str (ga_cons ge_str (ga_cons ge_str (ga_cons ge_str (ga_cons ge_str (ga_cons ge_str ga_nil)))))))))))
      (gss_cons (gs_set (i := 5) sc__law_binary.nd rfl (Or.inl rfl) (k_ixL K (Zn.gv 4) (k_cal K c__law_digit (hr.mono (by omega)) (by rfl) (ga_cons (Zn.gv 0) (ga_cons (ge_post (ge_ifExp (gt_val (k_ixT K (Zn.gv 1) ge_int)) ge_int ge_int)) ga_nil)))))
      (gss_cons (gs_set (i := 6) sc__law_binary.nd rfl (Or.inl rfl) (k_cal K c__law_typed (hr.mono (by omega)) (by rfl) (ga_cons (Zn.gv 0) (ga_cons (Zn.gv 1) (ga_cons (Zn.gv 2) (ga_cons (Zn.gv 3) ga_nil))))))
      (gss_one (gs_ret (ge_tup (ga_cons (Zn.gv 5) (ga_cons (Zn.gv 6) (ga_cons (k_cal K c__law_typed (hr.mono (by omega)) (by rfl) (ga_cons (Zn.gv 0) (ga_cons (Zn.gv 1) (ga_cons (Zn.gv 2) (ga_cons (Zn.gv 3) ga_nil))))) ga_nil))))))))), ?_⟩
    rintro gs Φ ⟨rows, a, b, wd, fuel, rfl, ok, w1, w8, hf, hf4, q⟩
    walk_at "g0"
    walk_at "gz"
    intro k k0 k1
    obtain ⟨o, ho, ek⟩ := six_at k0 k1
    refine v_ixL ek ?_
    walk_at "gz"
    refine ⟨rows, a, b, wd, fuel, rfl, ok, w1, w8, hf, hf4, fun e1 t1 d1 => ?_⟩
    walk_at "gz"
    refine ⟨rows, a, b, wd, fuel, rfl, ok, w1, w8, hf, hf4, fun e2 t2 d2 => ?_⟩
    walk_at "gz"
    exact q (.bin o e1 e2) (.bin ho t1 t2) (dep_bin d1 d2)
theorem ok_compared {f : Addr} {fd : FuncData} (F : Fun K "_law_compared" "_law_compared" s__law_compared f fd) (c__law_digit : Cal P w K mg base "_law_digit" 1 (spG K ufDraw)) (c__law_pick_one : Cal P w K mg base "_law_pick_one" 2 (spG K ufPick)) (c__law_kinded : Cal P w K mg base "_law_kinded" 1 (spG K ufKinded)) (c__law_typed : Cal P w K mg base "_law_typed" (2 * n + 3) (spG K (ufTyped n))) (T : Tx K mg aR aN) : FnOk P w K mg base CX0 (2 * n + 4) f fd ["_law_source_here", "_law_scope", "_law_fuel"] (spG K (ufCompared n)) := by
  refine g_ok F sc__law_compared (fun gs Φ h => ?_) (fun cdv A outer s H E hr => ?_)
  · obtain ⟨_, _, _, _, rfl, _⟩ := h
    rfl
  · refine ⟨_, _, 
      (gss_cons (gs_set (i := 3) sc__law_compared.nd rfl (Or.inl rfl) (k_cal K c__law_pick_one (hr.mono (by omega)) (by rfl) (ga_cons (Zn.gv 0) (ga_cons (GN.ge (gn_lst (ga_cons ge_str (ga_cons ge_str (ga_cons ge_str (ga_cons ge_str ga_nil)))))) ga_nil))))
      (gss_cons (gs_setLcG (own := [("_law_row", 5)]) (i := 4) rfl sc__law_compared.nd rfl rfl (sw_true rfl rfl rfl (by decide +kernel)) (k_itL K (k_ixT K (Zn.gv 1) ge_int)) (blkOk_by (N := ["_law_source_here", "_law_scope", "_law_fuel", "_law_sign", "_law_rows", "_law_row", "_law_sought", "_law_left", "_law_width", "_law_plain_here"]) (sc := defScope s__law_compared) (by decide +kernel)) (fun _ _ _ _ _ => (gg_name (i := 5) sc__law_compared.nd rfl (Or.inl rfl))) (fun _ _ _ _ _ => (gts_one (gt_val (k_isi K (by rfl) T.z_isinstance (k_ixT K (Zn.gv 5) ge_int) (pe_bltn (v := .ty "str") (by rfl) T.z_str (by decide +kernel) rfl))))) (fun _ _ _ _ _ => (k_ixT K (Zn.gv 5) ge_int)) (by decide))
      (gss_cons (gs_post (gs_if (GW.gt (gw_and (kt_inS K (Zn.gv 3) (GE.gb (ge_tup (ga_cons ge_str (ga_cons ge_str ga_nil))))) (gw_and (k_truth K (GE.gb (Zn.gv 4))) (gw_and1 (gt_cmpR go_eqI (k_cal K c__law_digit (hr.mono (by omega)) (by rfl) (ga_cons (Zn.gv 0) (ga_cons ge_int ga_nil))) ge_int (nomark _)))))) 
       (gss_cons (gs_set (i := 6) sc__law_compared.nd rfl (Or.inl rfl) (k_cal K c__law_pick_one (hr.mono (by omega)) (by rfl) (ga_cons (Zn.gv 0) (ga_cons (Zn.gv 4) ga_nil))))
       (gss_cons (gs_set (i := 7) sc__law_compared.nd rfl (Or.inl rfl) (k_cal K c__law_kinded (hr.mono (by omega)) (by rfl) (ga_cons (Zn.gv 0) (ga_cons (Zn.gv 1) (ga_cons (Zn.gv 6) (ga_cons (Zn.gv 2) ga_nil))))))
       (gss_one (gs_ret (ge_tup (ga_cons (Zn.gv 3) (ga_cons (Zn.gv 7) (ga_cons (k_cal K c__law_kinded (hr.mono (by omega)) (by rfl) (ga_cons (Zn.gv 0) (ga_cons (Zn.gv 1) (ga_cons (Zn.gv 6) (ga_cons (Zn.gv 2) ga_nil))))) ga_nil)))))))) gss_nil))
      (gss_cons (gs_set (i := 8) sc__law_compared.nd rfl (Or.inl rfl) (ge_op go_add ge_int (k_cal K c__law_digit (hr.mono (by omega)) (by rfl) (ga_cons (Zn.gv 0) (ga_cons (k_ixT K (Zn.gv 1) ge_int) ga_nil)))))
      (gss_cons (gs_setLcG (own := [("_law_row", 5)]) (i := 9) rfl sc__law_compared.nd rfl rfl (sw_true rfl rfl rfl (by decide +kernel)) (k_itL K (k_ixT K (Zn.gv 1) ge_int)) (blkOk_by (N := ["_law_source_here", "_law_scope", "_law_fuel", "_law_sign", "_law_rows", "_law_row", "_law_sought", "_law_left", "_law_width", "_law_plain_here"]) (sc := defScope s__law_compared) (by decide +kernel)) (fun _ _ _ _ _ => (gg_name (i := 5) sc__law_compared.nd rfl (Or.inl rfl))) (fun _ _ _ _ _ => (gts_one (GW.gt (gw_and (gt_cmpR go_eqI (k_len K (by rfl) T.z_len (GE.gb (Zn.gv 5))) ge_int (nomark _)) (gw_and1 (gt_val (k_isi K (by rfl) T.z_isinstance (k_ixT K (Zn.gv 5) ge_int) (pe_bltn (v := .ty "int") (by rfl) T.z_int (by decide +kernel) rfl)))))))) (fun _ _ _ _ _ => (k_ixT K (Zn.gv 5) ge_int)) (by decide))
      (gss_cons (gs_post (gs_if (GW.gt (gw_and (k_truth K (GE.gb (Zn.gv 9))) (gw_and1 (gt_cmpR go_eqI (k_cal K c__law_digit (hr.mono (by omega)) (by rfl) (ga_cons (Zn.gv 0) (ga_cons ge_int ga_nil))) ge_int (nomark _))))) 
       (gss_one (gs_set (i := 8) sc__law_compared.nd rfl (Or.inl rfl) (k_cal K c__law_pick_one (hr.mono (by omega)) (by rfl) (ga_cons (Zn.gv 0) (ga_cons (Zn.gv 9) ga_nil))))) gss_nil))
      (gss_cons (gs_set (i := 7) sc__law_compared.nd rfl (Or.inl rfl) (k_cal K c__law_typed (hr.mono (by omega)) (by rfl) (ga_cons (Zn.gv 0) (ga_cons (Zn.gv 1) (ga_cons (Zn.gv 8) (ga_cons (Zn.gv 2) ga_nil))))))
      (gss_one (gs_ret (ge_tup (ga_cons (Zn.gv 3) (ga_cons (Zn.gv 7) (ga_cons (k_cal K c__law_typed (hr.mono (by omega)) (by rfl) (ga_cons (Zn.gv 0) (ga_cons (Zn.gv 1) (ga_cons (Zn.gv 8) (ga_cons (Zn.gv 2) ga_nil))))) ga_nil))))))))))))), ?_⟩
    rintro gs Φ ⟨rows, a, b, fuel, rfl, ok, hf, hf4, q⟩
    have hrl : (rows.map gRw).length = rows.length := List.length_map ..
    have hr8 := ok.1
    walk_at "g0"
    walk_at "gz"
    refine ⟨_, _, rfl, rfl, by simp, by simp, fun g hg => ?_⟩
    obtain ⟨o, ho, rfl⟩ : ∃ o : Str, (o = "==" ∨ o = "!=" ∨ o = "<" ∨ o = "<=") ∧ g = .str o := by
      simp only [List.mem_cons, List.not_mem_nil, or_false] at hg
      rcases hg with rfl | rfl | rfl | rfl
      · exact ⟨_, .inl rfl, rfl⟩
      · exact ⟨_, .inr (.inl rfl), rfl⟩
      · exact ⟨_, .inr (.inr (.inl rfl)), rfl⟩
      · exact ⟨_, .inr (.inr (.inr rfl)), rfl⟩
    clear hg
    walk_at "gz"
    refine ⟨fun i acc ρ => ρ = [.fz .drw, .fz (scG rows a b), .fz (.int (fuel : Int)), .fz (.str o), .un, .un, .un, .un, .un, .un] ∧ acc = [], ⟨rfl, rfl⟩, ?_, ?_⟩
    · rintro i g acc ρ hg hl ⟨rfl, rfl⟩
      obtain ⟨r, hr, rfl⟩ := get_map hg
      walk_at "gz"
      exact ⟨rfl, rfl⟩
    rintro acc ρ hl ⟨rfl, rfl⟩
    walk_at "gs"
    refine v_ps (fun ρ' => ρ' = [.fz .drw, .fz (scG rows a b), .fz (.int (fuel : Int)), .fz (.str o), .fz (.lst []), .un, .un, .un, .un, .un]) ?_ ?_
    · walk_at "gz"
      by_cases hq : o ∈ (["==", "!="] : List Str)
      · walk_at "gz"
      · walk_at "gz"
    rintro ρ' rfl
    walk_at "gs"
    intro k k0 k1
    walk_at "gs"
    refine ⟨fun i acc ρ => ρ = [.fz .drw, .fz (scG rows a b), .fz (.int (fuel : Int)), .fz (.str o), .fz (.lst []), .un, .un, .un, .fz (.int (1 + k)), .un] ∧ acc = (rows.take i).map fun r => G.int (r.2 : Int), ⟨rfl, rfl⟩, ?_, ?_⟩
    · rintro i g acc ρ hg hl ⟨rfl, rfl⟩
      obtain ⟨r, hr, rfl⟩ := get_map hg
      walk_at "gz"
      refine ⟨rfl, ?_⟩
      rw [take_snoc hr, List.map_append]
      rfl
    rintro acc ρ hl ⟨rfl, rfl⟩
    rw [hrl, List.take_length]
    walk_at "gs"
    refine v_ps (fun ρ' => ∃ v : Nat, 1 ≤ v ∧ v ≤ 8 ∧ ρ' = [.fz .drw, .fz (scG rows a b), .fz (.int (fuel : Int)), .fz (.str o), .fz (.lst []), .un, .un, .un, .fz (.int (v : Int)), .fz (.lst (rows.map fun r => G.int (r.2 : Int)))]) ?_ ?_
    · walk_at "gz"
      refine v_ite (fun hne => ?_) (fun _ => ?_)
      · walk_at "gz"
        intro m m0 m1
        walk_at "gz"
        by_cases hm : m = 1
        · walk_at "gz"
          refine ⟨_, _, rfl, rfl, ?_, by rw [List.length_map]; omega, fun g hg => ?_⟩
          · rw [List.length_map]
            cases rows with
            | nil => simp at hne
            | cons _ _ => simp
          · obtain ⟨r, hr, rfl⟩ := List.mem_map.mp hg
            exact ⟨r.2, (ok.2 r hr).1, (ok.2 r hr).2, rfl⟩
        · walk_at "gz"
          exact ⟨(1 + k).toNat, by omega, by omega, by rw [Int.toNat_of_nonneg (by omega)]⟩
      · walk_at "gz"
        exact ⟨(1 + k).toNat, by omega, by omega, by rw [Int.toNat_of_nonneg (by omega)]⟩
    rintro ρ' ⟨v, v1, v8, rfl⟩
    walk_at "gz"
    refine ⟨rows, a, b, v, fuel, rfl, ok, v1, v8, hf, hf4, fun e1 t1 d1 => ?_⟩
    walk_at "gz"
    refine ⟨rows, a, b, v, fuel, rfl, ok, v1, v8, hf, hf4, fun e2 t2 d2 => ?_⟩
    walk_at "gz"
    exact q (.bin o e1 e2) (.cmp ho v1 v8 t1 t2) (dep_bin d1 d2)
theorem ok_typed {f : Addr} {fd : FuncData} (F : Fun K "_law_typed" "_law_typed" s__law_typed f fd) (c__law_digit : Cal P w K mg base "_law_digit" 1 (spG K ufDraw)) (c__law_pick_one : Cal P w K mg base "_law_pick_one" 2 (spG K ufPick)) (c__law_leaves : Cal P w K mg base "_law_leaves" 1 (spG K ufLeaves)) (c__law_binary : Cal P w K mg base "_law_binary" (2 * n + 4) (spG K (ufBinary n))) (c__law_compared : Cal P w K mg base "_law_compared" (2 * n + 4) (spG K (ufCompared n))) (c__law_typed : Cal P w K mg base "_law_typed" (2 * n + 3) (spG K (ufTyped n))) (T : Tx K mg aR aN) : FnOk P w K mg base CX0 (2 * n + 5) f fd ["_law_source_here", "_law_scope", "_law_width", "_law_fuel"] (spG K (ufTyped (n + 1))) := by
  refine g_ok F sc__law_typed (fun gs Φ h => ?_) (fun cdv A outer s H E hr => ?_)
  · obtain ⟨_, _, _, _, _, rfl, _⟩ := h
    rfl
  · refine ⟨_, _, 
      (gss_cons (gs_set (i := 4) sc__law_typed.nd rfl (Or.inl rfl) (k_cal K c__law_leaves (hr.mono (by omega)) (by rfl) (ga_cons (Zn.gv 1) (ga_cons (Zn.gv 2) ga_nil))))
      (gss_cons (gs_set (i := 5) sc__law_typed.nd rfl (Or.inl rfl) (k_cal K c__law_digit (hr.mono (by omega)) (by rfl) (ga_cons (Zn.gv 0) (ga_cons (ge_post (ge_ifExp (gt_cmpR go_gt (Zn.gv 3) ge_int (nomark _)) ge_int ge_int)) ga_nil))))
      (gss_cons (gs_post (gs_if (GW.gt (gw_and (gt_cmpR go_lt (Zn.gv 5) ge_int (nomark _)) (gw_and1 (k_truth K (GE.gb (Zn.gv 4)))))) 
       (gss_one (gs_ret (k_cal K c__law_pick_one (hr.mono (by omega)) (by rfl) (ga_cons (Zn.gv 0) (ga_cons (Zn.gv 4) ga_nil))))) gss_nil))
      (gss_cons (gs_post (gs_if (gt_cmpR go_lt (Zn.gv 5) ge_int (nomark _)) 
       (gss_one (gs_ret (ge_tup (ga_cons ge_str (ga_cons (k_cal K c__law_digit (hr.mono (by omega)) (by rfl) (ga_cons (Zn.gv 0) (ga_cons (ge_op go_shl ge_int (Zn.gv 2)) ga_nil))) (ga_cons (Zn.gv 2) ga_nil)))))) gss_nil))
      (gss_cons (gs_post (gs_if (GW.gt (gw_and (gt_cmpR go_lt (Zn.gv 5) ge_int (nomark _)) (gw_and1 (GW.gt (gw_or (gt_cmpR go_gt (Zn.gv 2) ge_int (nomark _)) (gw_or1 (gt_cmpR go_eqI (Zn.gv 5) ge_int (nomark _)))))))) 
       (gss_one (gs_ret (k_cal K c__law_binary (hr.mono (by omega)) (by rfl) (ga_cons (Zn.gv 0) (ga_cons (Zn.gv 1) (ga_cons (Zn.gv 2) (ga_cons (ge_op go_sub (Zn.gv 3) ge_int) ga_nil))))))) gss_nil))
      (gss_cons (gs_post (gs_if (gt_cmpR go_eqI (Zn.gv 5) ge_int (nomark _)) 
       (gss_cons (gs_set (i := 6) sc__law_typed.nd rfl (Or.inl rfl) (k_cal K c__law_pick_one (hr.mono (by omega)) (by rfl) (ga_cons (Zn.gv 0) (ga_cons (GN.ge (gn_lst (ga_cons ge_str (ga_cons ge_str ga_nil)))) ga_nil))))
       (gss_one (gs_ret (ge_tup (ga_cons (Zn.gv 6) (ga_cons (k_cal K c__law_typed (hr.mono (by omega)) (by rfl) (ga_cons (Zn.gv 0) (ga_cons (Zn.gv 1) (ga_cons (Zn.gv 2) (ga_cons (ge_op go_sub (Zn.gv 3) ge_int) ga_nil))))) ga_nil)))))) gss_nil))
      (gss_cons (gs_post (gs_if (gt_cmpR go_eqI (Zn.gv 5) ge_int (nomark _)) 
       (gss_cons (gs_set (i := 6) sc__law_typed.nd rfl (Or.inl rfl) (k_cal K c__law_pick_one (hr.mono (by omega)) (by rfl) (ga_cons (Zn.gv 0) (ga_cons (GN.ge (gn_lst (ga_cons ge_str (ga_cons ge_str ga_nil)))) ga_nil))))
       (gss_cons (gs_set (i := 7) sc__law_typed.nd rfl (Or.inl rfl) (k_cal K c__law_typed (hr.mono (by omega)) (by rfl) (ga_cons (Zn.gv 0) (ga_cons (Zn.gv 1) (ga_cons (Zn.gv 2) (ga_cons (ge_op go_sub (Zn.gv 3) ge_int) ga_nil))))))
       (gss_one (gs_ret (ge_tup (ga_cons (Zn.gv 6) (ga_cons (Zn.gv 7) (ga_cons (k_cal K c__law_typed (hr.mono (by omega)) (by rfl) (ga_cons (Zn.gv 0) (ga_cons (Zn.gv 1) (ga_cons (ge_op go_add ge_int (k_cal K c__law_digit (hr.mono (by omega)) (by rfl) (ga_cons (Zn.gv 0) (ga_cons ge_int ga_nil)))) (ga_cons (ge_op go_sub (Zn.gv 3) ge_int) ga_nil))))) ga_nil)))))))) gss_nil))
      (gss_cons (gs_post (gs_if (gt_cmpR go_eqI (Zn.gv 5) ge_int (nomark _)) 
       (gss_cons (gs_set (i := 8) sc__law_typed.nd rfl (Or.inl rfl) (k_cal K c__law_typed (hr.mono (by omega)) (by rfl) (ga_cons (Zn.gv 0) (ga_cons (Zn.gv 1) (ga_cons ge_int (ga_cons (ge_op go_sub (Zn.gv 3) ge_int) ga_nil))))))
       (gss_cons (gs_set (i := 7) sc__law_typed.nd rfl (Or.inl rfl) (k_cal K c__law_typed (hr.mono (by omega)) (by rfl) (ga_cons (Zn.gv 0) (ga_cons (Zn.gv 1) (ga_cons (Zn.gv 2) (ga_cons (ge_op go_sub (Zn.gv 3) ge_int) ga_nil))))))
       (gss_one (gs_ret (ge_tup (ga_cons ge_str (ga_cons (Zn.gv 8) (ga_cons (Zn.gv 7) (ga_cons (k_cal K c__law_typed (hr.mono (by omega)) (by rfl) (ga_cons (Zn.gv 0) (ga_cons (Zn.gv 1) (ga_cons (Zn.gv 2) (ga_cons (ge_op go_sub (Zn.gv 3) ge_int) ga_nil))))) ga_nil))))))))) gss_nil))
      (gss_cons (gs_post (gs_if (gt_cmpR go_eqI (Zn.gv 5) ge_int (nomark _)) 
       (gss_one (gs_ret (ge_tup (ga_cons ge_str (ga_cons (k_cal K c__law_typed (hr.mono (by omega)) (by rfl) (ga_cons (Zn.gv 0) (ga_cons (Zn.gv 1) (ga_cons (ge_op go_add ge_int (k_cal K c__law_digit (hr.mono (by omega)) (by rfl) (ga_cons (Zn.gv 0) (ga_cons (k_ixT K (Zn.gv 1) ge_int) ga_nil)))) (ga_cons (ge_op go_sub (Zn.gv 3) ge_int) ga_nil))))) (ga_cons (Zn.gv 2) ga_nil)))))) gss_nil))
      (gss_cons (gs_setLcG (own := [("_law_row", 10)]) (i := 9) rfl sc__law_typed.nd rfl rfl (sw_true rfl rfl rfl (by decide +kernel)) (k_itL K (k_ixT K (Zn.gv 1) ge_int)) (blkOk_by (N := ["_law_source_here", "_law_scope", "_law_width", "_law_fuel", "_law_leaves_here", "_law_way", "_law_sign", "_law_left", "_law_first", "_law_rows", "_law_row"]) (sc := defScope s__law_typed) (by decide +kernel)) (fun _ _ _ _ _ => (gg_name (i := 10) sc__law_typed.nd rfl (Or.inl rfl))) (fun _ _ _ _ _ => (gts_one (GW.gt (gw_and (gt_cmpR go_eqI (k_len K (by rfl) T.z_len (GE.gb (Zn.gv 10))) ge_int (nomark _)) (gw_and1 (gt_cmpR go_eqI (k_ixT K (Zn.gv 10) ge_int) (Zn.gv 2) (nomark _))))))) (fun _ _ _ _ _ => (Zn.gv 10)) (by decide))
      (gss_cons (gs_post (gs_if (GW.gt (gw_and (gt_cmpR go_eqI (Zn.gv 5) ge_int (nomark _)) (gw_and1 (k_truth K (GE.gb (Zn.gv 9)))))) 
       (gss_cons (gs_set (i := 10) sc__law_typed.nd rfl (Or.inl rfl) (k_cal K c__law_pick_one (hr.mono (by omega)) (by rfl) (ga_cons (Zn.gv 0) (ga_cons (Zn.gv 9) ga_nil))))
       (gss_one (gs_ret (ge_tup (ga_cons ge_str (ga_cons (k_ixT K (Zn.gv 10) ge_int) (ga_cons (k_cal K c__law_typed (hr.mono (by omega)) (by rfl) (ga_cons (Zn.gv 0) (ga_cons (Zn.gv 1) (ga_cons (ge_op go_add ge_int (k_cal K c__law_digit (hr.mono (by omega)) (by rfl) (ga_cons (Zn.gv 0) (ga_cons ge_int ga_nil)))) (ga_cons (ge_op go_sub (Zn.gv 3) ge_int) ga_nil))))) ga_nil))))))) gss_nil))
      (gss_cons (gs_post (gs_if (gt_cmpR go_eqI (Zn.gv 2) ge_int (nomark _)) 
       (gss_one (gs_ret (k_cal K c__law_compared (hr.mono (by omega)) (by rfl) (ga_cons (Zn.gv 0) (ga_cons (Zn.gv 1) (ga_cons (ge_op go_sub (Zn.gv 3) ge_int) ga_nil)))))) gss_nil))
      (gss_one (gs_ret (k_cal K c__law_binary (hr.mono (by omega)) (by rfl) (ga_cons (Zn.gv 0) (ga_cons (Zn.gv 1) (ga_cons (Zn.gv 2) (ga_cons (ge_op go_sub (Zn.gv 3) ge_int) ga_nil))))))))))))))))))), ?_⟩
    rintro gs Φ ⟨rows, a, b, wd, fuel, rfl, ok, w1, w8, hf, hf4, q⟩
    have hrl : (rows.map gRw).length = rows.length := List.length_map ..
    have hr8 := ok.1
    have hlv : ((lvs rows wd).map exG).length ≤ 8 := by
      rw [List.length_map]
      unfold lvs
      rw [List.length_map]
      have := List.length_filter_le (fun r => decide (r.2 = wd)) rows
      omega
    walk_at "g0"
    walk_at "gs"
    refine ⟨rows, a, b, wd, rfl, hr8, ?_⟩
    walk_at "gs"
    refine v_px (fun ρ' g => ∃ m : Int, g = .int m ∧ (m = 12 ∧ 0 < fuel ∨ m = 3) ∧ ρ' = [.fz .drw, .fz (scG rows a b), .fz (.int (wd : Int)), .fz (.int (fuel : Int)), .fz (.lst ((lvs rows wd).map exG)), .un, .un, .un, .un, .un, .un]) ?_ ?_
    · walk_at "gs"
      by_cases h : 0 < fuel
      · have h' : (0 : Int) < (fuel : Int) := by omega
        walk_at "gs"
        exact ⟨.inl ⟨rfl, h⟩, rfl⟩
      · have h' : ¬ (0 : Int) < (fuel : Int) := by omega
        walk_at "gs"
        exact ⟨.inr rfl, rfl⟩
    rintro ρ' g ⟨m, rfl, hm, rfl⟩
    walk_at "gs"
    intro way y0 y1
    have hfuel : way < 3 ∨ 0 < fuel := by omega
    have y12 : way < 12 := by omega
    walk_at "gs"
    refine v_ps (fun ρ' => ρ' = [.fz .drw, .fz (scG rows a b), .fz (.int (wd : Int)), .fz (.int (fuel : Int)), .fz (.lst ((lvs rows wd).map exG)), .fz (.int way), .un, .un, .un, .un, .un]) ?_ ?_
    · walk_at "gz"
      by_cases h2 : way < 2
      · walk_at "gz"
        refine v_ite (fun hne => ?_) (fun _ => ?_)
        · walk_at "gz"
          refine ⟨_, _, rfl, rfl, ?_, by omega, fun g hg => ?_⟩
          · cases hl : (lvs rows wd).map exG with
            | nil => rw [hl] at hne; simp at hne
            | cons _ _ => simp
          · obtain ⟨e, he, rfl⟩ := List.mem_map.mp hg
            unfold lvs at he
            obtain ⟨r, hr, rfl⟩ := List.mem_map.mp he
            obtain ⟨hr1, hr2⟩ := List.mem_filter.mp hr
            have hr2 : r.2 = wd := of_decide_eq_true hr2
            exact q _ (.nm (by rw [← hr2]; exact hr1)) (Nat.zero_le _)
        · walk_at "gz"
      · walk_at "gz"
    rintro ρ' rfl
    by_cases h3 : way < 3
    · have hcp : CPow 1 (wd : Int) := ⟨by omega, by omega, by decide⟩
      have e2 : (1 : Int) * 2 ^ ((wd : Int)).toNat = ((2 ^ wd : Nat) : Int) := by
        rw [Int.one_mul, Int.toNat_natCast, Int.natCast_pow]
        rfl
      have h256 : (2 : Nat) ^ wd ≤ 256 := Nat.le_trans (Nat.pow_le_pow_right (by decide) w8) (by decide : (2 : Nat) ^ 8 ≤ 256)
      have hpos : 0 < (2 : Nat) ^ wd := Nat.pow_pos (by decide)
      walk_at "gz"
      rw [e2]
      intro d d0 d1
      walk_at "gz"
      exact q (.wd d wd) (.wd d0 (by rw [Int.natCast_pow] at d1; exact d1)) (Nat.zero_le _)
    obtain ⟨k, rfl⟩ : ∃ k, fuel = k + 1 := ⟨fuel - 1, by omega⟩
    have e1 : ((k + 1 : Nat) : Int) - 1 = (k : Int) := by omega
    have hk4 : k ≤ 4 := by omega
    have hkn : k < n := by omega
    walk_at "gs"
    refine v_ps0 ?_
    walk_at "gs"
    refine v_ps (fun ρ' => ρ' = [.fz .drw, .fz (scG rows a b), .fz (.int (wd : Int)), .fz (.int ((k + 1 : Nat) : Int)), .fz (.lst ((lvs rows wd).map exG)), .fz (.int way), .un, .un, .un, .un, .un]) ?_ ?_
    · walk_at "gz"
      by_cases h6 : way < 6
      · walk_at "gz"
        by_cases hw : (1 : Int) < (wd : Int)
        · walk_at "gz"
          rw [e1]
          exact ⟨rows, a, b, wd, k, rfl, ok, w1, w8, hkn, hk4, q⟩
        · walk_at "gz"
          by_cases hy : way = 3
          · walk_at "gz"
            rw [e1]
            exact ⟨rows, a, b, wd, k, rfl, ok, w1, w8, hkn, hk4, q⟩
          · walk_at "gz"
      · walk_at "gz"
    rintro ρ' rfl
    walk_at "gs"
    refine v_ps0 ?_
    walk_at "gs"
    by_cases h6 : way = 6
    · walk_at "gs"
      refine ⟨_, _, rfl, rfl, by simp, by simp, fun g hg => ?_⟩
      obtain ⟨o, ho, rfl⟩ : ∃ o : Str, (o = "not" ∨ o = "neg") ∧ g = .str o := by
        simp only [List.mem_cons, List.not_mem_nil, or_false] at hg
        rcases hg with rfl | rfl
        · exact ⟨_, .inl rfl, rfl⟩
        · exact ⟨_, .inr rfl, rfl⟩
      clear hg
      walk_at "gs"
      rw [e1]
      refine ⟨rows, a, b, wd, k, rfl, ok, w1, w8, hkn, hk4, fun e1 t1 d1 => ?_⟩
      walk_at "gs"
      exact q (.un o e1) (.un ho t1) (by simp only [Ex.dep]; omega)
    walk_at "gs"
    refine v_ps0 ?_
    walk_at "gs"
    by_cases h7 : way = 7
    · walk_at "gs"
      refine ⟨_, _, rfl, rfl, by simp, by simp, fun g hg => ?_⟩
      obtain ⟨o, ho, rfl⟩ : ∃ o : Str, (o = "<<" ∨ o = ">>") ∧ g = .str o := by
        simp only [List.mem_cons, List.not_mem_nil, or_false] at hg
        rcases hg with rfl | rfl
        · exact ⟨_, .inl rfl, rfl⟩
        · exact ⟨_, .inr rfl, rfl⟩
      clear hg
      walk_at "gs"
      rw [e1]
      refine ⟨rows, a, b, wd, k, rfl, ok, w1, w8, hkn, hk4, fun x1 t1 d1 => ?_⟩
      walk_at "gs"
      intro z z0 z1
      walk_at "gs"
      rw [e1]
      refine ⟨rows, a, b, (1 + z).toNat, k, by rw [Int.toNat_of_nonneg (by omega)], ok, by omega, by omega, hkn, hk4, fun x2 t2 d2 => ?_⟩
      walk_at "gs"
      exact q (.bin o x1 x2) (.shift ho (by omega) (by omega) t1 t2) (dep_bin d1 d2)
    walk_at "gs"
    refine v_ps0 ?_
    walk_at "gs"
    by_cases h8 : way = 8
    · walk_at "gs"
      rw [e1]
      refine ⟨rows, a, b, 1, k, rfl, ok, by omega, by omega, hkn, hk4, fun x0 t0 d0 => ?_⟩
      walk_at "gs"
      rw [e1]
      refine ⟨rows, a, b, wd, k, rfl, ok, w1, w8, hkn, hk4, fun x1 t1 d1 => ?_⟩
      walk_at "gs"
      rw [e1]
      refine ⟨rows, a, b, wd, k, rfl, ok, w1, w8, hkn, hk4, fun x2 t2 d2 => ?_⟩
      walk_at "gs"
      exact q (.pick x0 x1 x2) (.pick t0 t1 t2) (by simp only [Ex.dep]; omega)
    walk_at "gs"
    refine v_ps0 ?_
    walk_at "gs"
    by_cases h9 : way = 9
    · walk_at "gs"
      intro z z0 z1
      walk_at "gs"
      rw [e1]
      refine ⟨rows, a, b, (1 + z).toNat, k, by rw [Int.toNat_of_nonneg (by omega)], ok, by omega, by omega, hkn, hk4, fun x1 t1 d1 => ?_⟩
      walk_at "gs"
      exact q (.wide x1 (wd : Int)) (.wide (by omega) (by omega) t1) (by simp only [Ex.dep]; omega)
    walk_at "gs"
    refine ⟨fun i acc ρ => ρ = [.fz .drw, .fz (scG rows a b), .fz (.int (wd : Int)), .fz (.int ((k + 1 : Nat) : Int)), .fz (.lst ((lvs rows wd).map exG)), .fz (.int way), .un, .un, .un, .un, .un] ∧ acc = [], ⟨rfl, rfl⟩, ?_, ?_⟩
    · rintro i g acc ρ hg hl ⟨rfl, rfl⟩
      obtain ⟨r, hr, rfl⟩ := get_map hg
      walk_at "gz"
      exact ⟨rfl, rfl⟩
    rintro acc ρ hl ⟨rfl, rfl⟩
    walk_at "gs"
    refine v_ps (fun ρ' => ρ' = [.fz .drw, .fz (scG rows a b), .fz (.int (wd : Int)), .fz (.int ((k + 1 : Nat) : Int)), .fz (.lst ((lvs rows wd).map exG)), .fz (.int way), .un, .un, .un, .fz (.lst []), .un]) ?_ ?_
    · walk_at "gz"
      by_cases h10 : way = 10
      · walk_at "gz"
      · walk_at "gz"
    rintro ρ' rfl
    walk_at "gs"
    refine v_ps0 ?_
    walk_at "gs"
    by_cases hw1 : (wd : Int) = 1
    · obtain rfl : wd = 1 := by omega
      walk_at "gs"
      rw [e1]
      exact ⟨rows, a, b, k, rfl, ok, hkn, hk4, q⟩
    · walk_at "gs"
      rw [e1]
      exact ⟨rows, a, b, wd, k, rfl, ok, w1, w8, hkn, hk4, q⟩
theorem cal_typed {fb fc ft : Addr} {db dc dt : FuncData} (mb : mg "_law_binary" = some (.ref fb)) (mc : mg "_law_compared" = some (.ref fc)) (mt : mg "_law_typed" = some (.ref ft))
    (Fb : Fun K "_law_binary" "_law_binary" s__law_binary fb db) (Fc : Fun K "_law_compared" "_law_compared" s__law_compared fc dc) (Ft : Fun K "_law_typed" "_law_typed" s__law_typed ft dt)
    (c__law_digit : Cal P w K mg base "_law_digit" 1 (spG K ufDraw)) (c__law_pick_one : Cal P w K mg base "_law_pick_one" 2 (spG K ufPick)) (c__law_leaves : Cal P w K mg base "_law_leaves" 1 (spG K ufLeaves)) (c__law_kinded : Cal P w K mg base "_law_kinded" 1 (spG K ufKinded)) (T : Tx K mg aR aN) : ∀ n, Cal P w K mg base "_law_typed" (2 * n + 3) (spG K (ufTyped n))
  | 0 => cal_none mt Ft.kp fun gs Φ ⟨_, _, _, _, _, _, _, _, _, h, _⟩ => by omega
  | n + 1 =>
    have t := cal_typed mb mc mt Fb Fc Ft c__law_digit c__law_pick_one c__law_leaves c__law_kinded T n
    have b := cal_of (N := []) mb Fb (fun _ _ _ _ _ _ us hl => match us, hl with | [_, _, _, _], _ => rfl) (ok_binary Fb c__law_digit t T)
    have c := cal_of (N := []) mc Fc (fun _ _ _ _ _ _ us hl => match us, hl with | [_, _, _], _ => rfl) (ok_compared Fc c__law_digit c__law_pick_one c__law_kinded t T)
    cal_of (N := []) mt Ft (fun _ _ _ _ _ _ us hl => match us, hl with | [_, _, _, _], _ => rfl) (ok_typed Ft c__law_digit c__law_pick_one c__law_leaves b c t T)
end
end Zn
namespace Zn
open PySem PySem.Spec PyProof.Rows L2 TL
theorem mask_wordN (w x : Int) : Word w (mask w x) := by
  rw [mask_mod]
  exact ⟨Int.emod_nonneg _ (Int.ne_of_gt (pow_pos' _)), Int.emod_lt_of_pos _ (pow_pos' _)⟩
theorem one_wordN {b : Bool} : Word 1 (if b then 1 else 0) := by
  cases b <;> exact ⟨by decide, by decide⟩
theorem HasTy.mono {rows rows' : Rws} (hs : ∀ r ∈ rows, r ∈ rows') {e : Ex} {w : Nat} (h : HasTy rows e w) : HasTy rows' e w := by
  induction h with
  | nm h => exact .nm (hs _ h)
  | wd h0 h1 => exact .wd h0 h1
  | un h _ iha => exact .un h iha
  | bin h _ _ iha ihb => exact .bin h iha ihb
  | shift h v1 v8 _ _ iha ihb => exact .shift h v1 v8 iha ihb
  | cmp h v1 v8 _ _ iha ihb => exact .cmp h v1 v8 iha ihb
  | pick _ _ _ ihc iha ihb => exact .pick ihc iha ihb
  | wide v1 v8 _ iha => exact .wide v1 v8 iha
/-- names that the rows tell, with words of their widths -/
def EnvOk (rows : Rws) (cs : Wl) : Prop := ∀ n w, (n, w) ∈ rows → ∃ x : Int, getD (wlG cs) (.inr n) = some (wG ((w : Int), x)) ∧ Word (w : Int) x
theorem ty_ex {rows : Rws} {cs : Wl} (env : EnvOk rows cs) {e : Ex} {w : Nat} (h : HasTy rows e w) : 1 ≤ w → w ≤ 8 → ∃ z : Int, Wt cs e ((w : Int), z) ∧ Word (w : Int) z := by
  induction h with
  | @nm n w h =>
    intro w1 w8
    obtain ⟨x, h1, h2⟩ := env _ _ h
    exact ⟨x, .nm h1, h2⟩
  | @wd v w h0 h1 =>
    intro w1 w8
    exact ⟨v, .wd, h0, by rw [Int.toNat_natCast]; exact h1⟩
  | @un o a w h _ iha =>
    intro w1 w8
    obtain ⟨x, hx, wx⟩ := iha w1 w8
    rcases h with rfl | rfl
    · exact ⟨_, .un hx (.one (p := ((w : Int), x)) (.inl rfl) (by show (1 : Int) ≤ w; omega) (by show (w : Int) ≤ 8; omega) .not), mask_wordN _ _⟩
    · exact ⟨_, .un hx (.one (p := ((w : Int), x)) (.inr rfl) (by show (1 : Int) ≤ w; omega) (by show (w : Int) ≤ 8; omega) .neg), mask_wordN _ _⟩
  | @bin o a b w h _ _ iha ihb =>
    intro w1 w8
    obtain ⟨x, hx, wx⟩ := iha w1 w8
    obtain ⟨y, hy, wy⟩ := ihb w1 w8
    have p1 : (1 : Int) ≤ w := by omega
    have p8 : (w : Int) ≤ 8 := by omega
    have hs := small p1 p8
    have a0 := wx.1
    have a1 := wx.2
    simp only [List.mem_cons, List.not_mem_nil, or_false] at h
    have go : ∀ {z : Int}, o ∈ (["+", "-", "*", "&", "|", "^", "<<", ">>", "div", "rem"] : List Str) → Val o (w : Int) [x, y] z → Word (w : Int) z → ∃ z : Int, Wt cs (.bin o a b) ((w : Int), z) ∧ Word (w : Int) z :=
      fun {z} hm v wz => ⟨z, .bin hx hy (.two (p := ((w : Int), x)) (q := ((w : Int), y)) hm p1 p8 v), wz⟩
    rcases h with rfl | rfl | rfl | rfl | rfl | rfl
    · exact go (by simp) .add (mask_wordN _ _)
    · exact go (by simp) .sub (mask_wordN _ _)
    · exact go (by simp) (.mul (by omega) (by omega)) (mask_wordN _ _)
    · exact go (by simp) (.and wx wy) (and_in wx.1 wx.2 wy.1)
    · exact go (by simp) (.or wx wy) (or_in wx.1 wx.2 wy.1 wy.2)
    · exact go (by simp) (.xor wx wy) (xor_in wx.1 wx.2 wy.1 wy.2)
  | @shift o a b w v h v1 v8 _ _ iha ihb =>
    intro w1 w8
    obtain ⟨x, hx, wx⟩ := iha w1 w8
    obtain ⟨y, hy, wy⟩ := ihb v1 v8
    have p1 : (1 : Int) ≤ w := by omega
    have p8 : (w : Int) ≤ 8 := by omega
    have hs := small p1 p8
    have a0 := wx.1
    have a1 := wx.2
    rcases h with rfl | rfl
    · exact ⟨_, .bin hx hy (.two (p := ((w : Int), x)) (q := ((v : Int), y)) (by simp) p1 p8 (.shl wx wy.1 p1 p8 (by omega))), mask_wordN _ _⟩
    · exact ⟨_, .bin hx hy (.two (p := ((w : Int), x)) (q := ((v : Int), y)) (by simp) p1 p8 (.shr wx wy.1 p1 p8)), shr1 wx⟩
  | @cmp o a b v h v1 v8 _ _ iha ihb =>
    intro w1 w8
    obtain ⟨x, hx, wx⟩ := iha v1 v8
    obtain ⟨y, hy, wy⟩ := ihb v1 v8
    have p1 : (1 : Int) ≤ v := by omega
    have p8 : (v : Int) ≤ 8 := by omega
    have go : ∀ {z : Int}, (o = "==" ∨ o = "!=" ∨ o = "<" ∨ o = "<=") → Val o (v : Int) [x, y] z → Word 1 z → ∃ z : Int, Wt cs (.bin o a b) (((1 : Nat) : Int), z) ∧ Word ((1 : Nat) : Int) z :=
      fun {z} hm vl wz => ⟨z, .bin hx hy (.rel (p := ((v : Int), x)) (q := ((v : Int), y)) hm p1 p8 vl), wz⟩
    have go' := @go
    rcases h with rfl | rfl | rfl | rfl
    · exact go (.inl rfl) .eq one_wordN
    · refine go (.inr (.inl rfl)) .ne ?_
      have : (if decide (x = y) = true then (0 : Int) else 1) = if !decide (x = y) then 1 else 0 := by cases decide (x = y) <;> rfl
      rw [this]
      exact one_wordN
    · exact go (.inr (.inr (.inl rfl))) .lt one_wordN
    · exact go (.inr (.inr (.inr rfl))) .le one_wordN
  | @pick c a b w _ _ _ ihc iha ihb =>
    intro w1 w8
    obtain ⟨k, hk, wk⟩ := ihc (by decide) (by decide)
    obtain ⟨x, hx, wx⟩ := iha w1 w8
    obtain ⟨y, hy, wy⟩ := ihb w1 w8
    have p1 : (1 : Int) ≤ w := by omega
    have p8 : (w : Int) ≤ 8 := by omega
    have k0 : 0 ≤ k := wk.1
    have k2 : k < 2 := wk.2
    have : k = 0 ∨ k = 1 := by omega
    rcases this with rfl | rfl
    · exact ⟨y, .pick hk hx hy (.pick (p := ((w : Int), x)) (q := ((w : Int), y)) p1 p8 .pick0), wy⟩
    · exact ⟨x, .pick hk hx hy (.pick (p := ((w : Int), x)) (q := ((w : Int), y)) p1 p8 .pick1), wx⟩
  | @wide a v w v1 v8 _ iha =>
    intro w1 w8
    obtain ⟨x, hx, wx⟩ := iha v1 v8
    exact ⟨_, .wide hx (by omega) (by omega) .wide, mask_wordN _ _⟩
theorem getD_wl : ∀ {cs : Wl} {n : Str} {p : Wp}, (cs.map (·.1)).Nodup → (n, p) ∈ cs → getD (wlG cs) (.inr n) = some (wG p)
  | [], _, _, _, h => by cases h
  | c :: cs, n, p, hn, h => by
    rw [List.map_cons] at hn
    obtain ⟨h1, h2⟩ := List.nodup_cons.mp hn
    unfold wlG getD
    rw [List.map_cons, List.find?_cons]
    rcases List.mem_cons.mp h with e | m
    · subst e
      simp
    · have hne : ¬ c.1 = n := fun e => h1 (e ▸ List.mem_map.mpr ⟨_, m, rfl⟩)
      have hd : decide ((Sum.inr c.1 : L2.Key) = Sum.inr n) = false := decide_eq_false (fun e => hne (Sum.inr.inj e))
      simp only [hd]
      exact getD_wl h2 m
theorem env_names {rows : Rws} {ws : List Int} (hl : ws.length = rows.length) : (envOf rows ws).map (·.1) = rows.map (·.1) := by
  unfold envOf
  rw [List.map_map]
  show ((rows.zip ws).map fun p => p.1.1) = _
  rw [show (fun p : (Str × Nat) × Int => p.1.1) = (fun r : Str × Nat => r.1) ∘ Prod.fst from rfl, ← List.map_map, List.map_fst_zip (by omega)]
theorem env_ok {rows : Rws} {ws : List Int} (nd : (rows.map (·.1)).Nodup) (ft : Fit rows ws) : EnvOk rows (envOf rows ws) := by
  intro n w h
  obtain ⟨i, hi⟩ := List.mem_iff_getElem?.mp h
  have hl : i < ws.length := by rw [ft.1]; exact getL hi
  have hx : ws[i]? = some ws[i] := List.getElem?_eq_getElem hl
  obtain ⟨x0, x1⟩ := ft.2 i (n, w) _ hi hx
  refine ⟨ws[i], getD_wl (by rw [env_names ft.1]; exact nd) ?_, x0, by rw [Int.toNat_natCast]; exact x1⟩
  unfold envOf
  refine List.mem_map.mpr ⟨((n, w), ws[i]), ?_, rfl⟩
  exact List.mem_iff_getElem?.mpr ⟨i, List.getElem?_zip_eq_some.mpr ⟨hi, hx⟩⟩
theorem env_res {rows : Rws} {ws : List Int} {wd a : Nat} (nd : (rows.map (·.1)).Nodup) (nr : ("result" : Str) ∉ rows.map (·.1)) (ft : Fit rows ws) (ha : a < 2 ^ wd) : EnvOk (rows ++ [(("result" : Str), wd)]) (envOf rows ws ++ [(("result" : Str), ((wd : Int), (a : Int)))]) := by
  have nd2 : ((envOf rows ws ++ [(("result" : Str), ((wd : Int), (a : Int)))]).map (·.1)).Nodup := by
    rw [List.map_append, env_names ft.1]
    refine List.nodup_append.mpr ⟨nd, by simp, fun x hx y hy e => ?_⟩
    rw [List.map_singleton, List.mem_singleton] at hy
    have hy : y = ("result" : Str) := hy
    exact nr (hy ▸ e ▸ hx)
  intro n w h
  rcases List.mem_append.mp h with m | m
  · obtain ⟨i, hi⟩ := List.mem_iff_getElem?.mp m
    have hl : i < ws.length := by rw [ft.1]; exact getL hi
    have hx : ws[i]? = some ws[i] := List.getElem?_eq_getElem hl
    obtain ⟨x0, x1⟩ := ft.2 i (n, w) _ hi hx
    refine ⟨ws[i], getD_wl nd2 (List.mem_append_left _ ?_), x0, by rw [Int.toNat_natCast]; exact x1⟩
    unfold envOf
    exact List.mem_map.mpr ⟨((n, w), ws[i]), List.mem_iff_getElem?.mpr ⟨i, List.getElem?_zip_eq_some.mpr ⟨hi, hx⟩⟩, rfl⟩
  · cases List.mem_singleton.mp m
    refine ⟨(a : Int), getD_wl nd2 (List.mem_append_right _ (List.mem_singleton.mpr rfl)), by omega, ?_⟩
    rw [Int.toNat_natCast]
    exact_mod_cast ha
end Zn
namespace Zn
open PySem PySem.Spec PyProof.Rows L2 TL
abbrev s__law_contracted : Stmt := topS 37
theorem sc__law_contracted : FnScope ["_law_source_here", "_law_salts_here", "_law_rows", "_law_j", "_law_width", "_law_steady", "_law_spares", "_law_needs", "_law_gives", "_law_right"] ["_law_source_here", "_law_salts_here"] (defScope s__law_contracted) := ⟨rfl, rfl, rfl, by decide +kernel, rfl, by decide +kernel, by decide +kernel⟩

def ufContract : List G → (G → Prop) → Prop := fun gs Φ => ∃ a b c : Nat, gs = [.drw, .lst [.int (a : Int), .int (b : Int), .int (c : Int)]] ∧ a < 40000 ∧ b < 40000 ∧ c < 40000 ∧ ∀ p : Pt, OkPt p → (p.rows.map (·.2)).sum ≤ 16 → Φ (gP p)
/-- rows on their way -/
def RowsW (s : Nat) (rows : Rws) : Prop := rows.length ≤ 3 ∧ ∀ (i : Nat) (r : Str × Nat), rows[i]? = some r → r.1.cps[s % 4]? = some (97 + (s / 4 + 17 * i) % 26) ∧ r.1 ≠ "result" ∧ 1 ≤ r.2 ∧ r.2 ≤ 2
/-- rows as they come out -/
structure RowsF (rows : Rws) : Prop where
  l : rows.length ≤ 3
  nd : (rows.map (·.1)).Nodup
  nr : ("result" : Str) ∉ rows.map (·.1)
  w : ∀ r ∈ rows, 1 ≤ r.2 ∧ r.2 ≤ 6
  s : (rows.map (·.2)).sum ≤ 16
theorem RowsW.fin {s : Nat} {rows : Rws} (h : RowsW s rows) : RowsF rows := by
  obtain ⟨hl, h⟩ := h
  refine ⟨hl, ?_, ?_, fun r hr => ?_, ?_⟩
  · refine List.pairwise_iff_getElem.mpr fun i j hi hj hij e => ?_
    rw [List.length_map] at hi hj
    rw [List.getElem_map, List.getElem_map] at e
    have h1 := (h i _ (List.getElem?_eq_getElem hi)).1
    have h2 := (h j _ (List.getElem?_eq_getElem hj)).1
    rw [e, h2] at h1
    have h3 := Option.some.inj h1
    have : (i = 0 ∧ j = 1) ∨ (i = 0 ∧ j = 2) ∨ (i = 1 ∧ j = 2) := by omega
    rcases this with ⟨rfl, rfl⟩ | ⟨rfl, rfl⟩ | ⟨rfl, rfl⟩ <;> omega
  · intro m
    obtain ⟨r, hr, e⟩ := List.mem_map.mp m
    obtain ⟨i, hi⟩ := List.mem_iff_getElem?.mp hr
    exact (h i r hi).2.1 e
  · obtain ⟨i, hi⟩ := List.mem_iff_getElem?.mp hr
    obtain ⟨_, _, h1, h2⟩ := h i r hi
    exact ⟨h1, by omega⟩
  · have key : ∀ l : Rws, (∀ r ∈ l, r.2 ≤ 2) → (l.map (·.2)).sum ≤ 2 * l.length := fun l => by
      induction l with
      | nil => exact fun _ => Nat.le_refl _
      | cons r l ih =>
        intro hh
        rw [List.map_cons, List.sum_cons, List.length_cons]
        have h1 := hh r (List.mem_cons_self ..)
        have h2 := ih fun r hr => hh r (List.mem_cons_of_mem _ hr)
        omega
    have := key rows fun r hr => by
      obtain ⟨i, hi⟩ := List.mem_iff_getElem?.mp hr
      exact (h i r hi).2.2.2
    omega
theorem RowsF.one {t : Str} {w : Nat} (ht : t ≠ "result") (h4 : 4 ≤ w) (h6 : w ≤ 6) : RowsF [(t, w)] := by
  refine ⟨by simp, by simp, ?_, fun r hr => ?_, by simp; omega⟩
  · intro m
    simp at m
    exact ht m.symm
  · cases List.mem_singleton.mp hr
    exact ⟨by show 1 ≤ w; omega, h6⟩
theorem RowsF.ok {rows : Rws} (h : RowsF rows) : OkRows rows := ⟨by have := h.l; omega, fun r hr => ⟨(h.w r hr).1, by have := (h.w r hr).2; omega⟩⟩
theorem RowsF.okR {rows : Rws} (h : RowsF rows) {wd : Nat} (w1 : 1 ≤ wd) (w3 : wd ≤ 3) : OkRows (rows ++ [(("result" : Str), wd)]) := by
  refine ⟨by rw [List.length_append]; have := h.l; simp; omega, fun r hr => ?_⟩
  rcases List.mem_append.mp hr with m | m
  · exact h.ok.2 r m
  · cases List.mem_singleton.mp m
    exact ⟨w1, by show wd ≤ 8; omega⟩
theorem pt_ok {nm : Str} {rows : Rws} {wd : Nat} {st : Int} {needs gives : Ex} (h : RowsF rows) (w3 : wd ≤ 3) (h1 : HasTy rows needs 1) (h2 : HasTy (rows ++ [(("result" : Str), wd)]) gives 1) (d1 : needs.dep < 8) (d2 : gives.dep < 8) : OkPt ⟨nm, rows, wd, st, needs, gives⟩ :=
  ⟨by have := h.l; show rows.length ≤ 8; omega, h.nd, h.nr, by show wd ≤ 8; omega, d1, d2,
    fun ws ft => by
      obtain ⟨z, hz, _⟩ := ty_ex (env_ok h.nd ft) h1 (by decide) (by decide)
      exact ⟨_, hz⟩,
    fun ws a ft ha => by
      obtain ⟨z, hz, _⟩ := ty_ex (env_res h.nd h.nr ft ha) h2 (by decide) (by decide)
      exact ⟨_, hz⟩⟩
section
variable {P : Program} {w : World} {K : PySem.W.Frag} {mg : Str → Option Value} {base : Heap} {aR aN C : Addr} {n : Nat}
theorem ok_contract {f : Addr} {fd : FuncData} (F : Fun K "_law_contracted" "_law_contracted" s__law_contracted f fd) (c__law_digit : Cal P w K mg base "_law_digit" 1 (spG K ufDraw)) (c__law_label : Cal P w K mg base "_law_label" 1 (spG K ufLabel)) (c__law_bare : Cal P w K mg base "_law_bare" 1 (spG K ufBare)) (c__law_typed : Cal P w K mg base "_law_typed" 9 (spG K (ufTyped 3))) (T : Tx K mg aR aN) : FnOk P w K mg base CX0 10 f fd ["_law_source_here", "_law_salts_here"] (spG K ufContract) := by
  refine g_ok F sc__law_contracted (fun gs Φ h => ?_) (fun cdv A outer s H E hr => ?_)
  · obtain ⟨_, _, _, rfl, _⟩ := h
    rfl
  · refine ⟨_, _, 
      (gss_cons (gs_setO (i := 2) sc__law_contracted.nd rfl (Or.inl rfl) (gn_lst ga_nil))
      (gss_cons (gs_for PassesOwn.never rfl (gi_range1 (by rfl) T.z_range (k_cal K c__law_digit (hr.mono (by decide)) (by rfl) (ga_cons (Zn.gv 0) (ga_cons ge_int ga_nil)))) (gg_name (i := 3) sc__law_contracted.nd rfl (Or.inl rfl)) 
       (gss_one (gs_expr (k_app K 2 (ge_tup (ga_cons (k_cal K c__law_label (hr.mono (by decide)) (by rfl) (ga_cons (k_ixL K (Zn.gv 1) ge_int) (ga_cons (Zn.gv 3) ga_nil))) (ga_cons (ge_op go_add ge_int (k_cal K c__law_digit (hr.mono (by decide)) (by rfl) (ga_cons (Zn.gv 0) (ga_cons ge_int ga_nil)))) ga_nil)))))))
      (gss_cons (gs_post (gs_if (gt_cmpR go_eqI (k_cal K c__law_digit (hr.mono (by decide)) (by rfl) (ga_cons (Zn.gv 0) (ga_cons ge_int ga_nil))) ge_int (nomark _)) 
       (gss_one (gs_setO (i := 2) sc__law_contracted.nd rfl (Or.inl rfl) (gn_lst (ga_cons (ge_tup (ga_cons (k_cal K c__law_label (hr.mono (by decide)) (by rfl) (ga_cons (k_ixL K (Zn.gv 1) ge_int) (ga_cons ge_int ga_nil))) (ga_cons (ge_op go_add ge_int (k_cal K c__law_digit (hr.mono (by decide)) (by rfl) (ga_cons (Zn.gv 0) (ga_cons ge_int ga_nil)))) ga_nil))) ga_nil)))) gss_nil))
      (gss_cons (gs_set (i := 4) sc__law_contracted.nd rfl (Or.inl rfl) (ge_op go_add ge_int (k_cal K c__law_digit (hr.mono (by decide)) (by rfl) (ga_cons (Zn.gv 0) (ga_cons ge_int ga_nil)))))
      (gss_cons (gs_set (i := 5) sc__law_contracted.nd rfl (Or.inl rfl) (k_cal K c__law_digit (hr.mono (by decide)) (by rfl) (ga_cons (Zn.gv 0) (ga_cons ge_int ga_nil))))
      (gss_cons (gs_set (i := 6) sc__law_contracted.nd rfl (Or.inl rfl) (ge_tup (ga_cons (k_cal K c__law_label (hr.mono (by decide)) (by rfl) (ga_cons (k_ixL K (Zn.gv 1) ge_int) (ga_cons ge_int ga_nil))) (ga_cons (k_cal K c__law_label (hr.mono (by decide)) (by rfl) (ga_cons (k_ixL K (Zn.gv 1) ge_int) (ga_cons ge_int ga_nil))) ga_nil))))
      (gss_cons (gs_set (i := 7) sc__law_contracted.nd rfl (Or.inl rfl) (ge_tup (ga_cons ge_str (ga_cons ge_int (ga_cons ge_int ga_nil)))))
      (gss_cons (gs_post (gs_if (gt_cmpR go_neI (k_cal K c__law_digit (hr.mono (by decide)) (by rfl) (ga_cons (Zn.gv 0) (ga_cons ge_int ga_nil))) ge_int (nomark _)) 
       (gss_one (gs_set (i := 7) sc__law_contracted.nd rfl (Or.inl rfl) (k_cal K c__law_typed (hr.mono (by decide)) (by rfl) (ga_cons (Zn.gv 0) (ga_cons (k_cal K c__law_bare (hr.mono (by decide)) (by rfl) (ga_cons (Zn.gvMF 2) (ga_cons (Zn.gv 6) ga_nil))) (ga_cons ge_int (ga_cons (ge_op go_add ge_int (k_cal K c__law_digit (hr.mono (by decide)) (by rfl) (ga_cons (Zn.gv 0) (ga_cons ge_int ga_nil)))) ga_nil))))))) gss_nil))
      (gss_cons (gs_set (i := 8) sc__law_contracted.nd rfl (Or.inl rfl) (k_cal K c__law_typed (hr.mono (by decide)) (by rfl) (ga_cons (Zn.gv 0) (ga_cons (k_cal K c__law_bare (hr.mono (by decide)) (by rfl) (ga_cons (GN.ge (gn_op go_cat (Zn.gvMF 2) (GE.gb (GN.ge (gn_lst (ga_cons (ge_tup (ga_cons ge_str (ga_cons (Zn.gv 4) ga_nil))) ga_nil)))))) (ga_cons (Zn.gv 6) ga_nil))) (ga_cons ge_int (ga_cons (ge_op go_add ge_int (k_cal K c__law_digit (hr.mono (by decide)) (by rfl) (ga_cons (Zn.gv 0) (ga_cons ge_int ga_nil)))) ga_nil))))))
      (gss_cons (gs_post (gs_if (gt_cmpR go_eqI (k_cal K c__law_digit (hr.mono (by decide)) (by rfl) (ga_cons (Zn.gv 0) (ga_cons ge_int ga_nil))) ge_int (nomark _)) 
       (gss_cons (gs_set (i := 9) sc__law_contracted.nd rfl (Or.inl rfl) (k_cal K c__law_typed (hr.mono (by decide)) (by rfl) (ga_cons (Zn.gv 0) (ga_cons (k_cal K c__law_bare (hr.mono (by decide)) (by rfl) (ga_cons (Zn.gvMF 2) (ga_cons (Zn.gv 6) ga_nil))) (ga_cons (Zn.gv 4) (ga_cons ge_int ga_nil))))))
       (gss_one (gs_set (i := 8) sc__law_contracted.nd rfl (Or.inl rfl) (ge_tup (ga_cons ge_str (ga_cons (Zn.gv 8) (ga_cons (ge_tup (ga_cons ge_str (ga_cons (ge_tup (ga_cons ge_str (ga_cons ge_str ga_nil))) (ga_cons (Zn.gv 9) ga_nil)))) ga_nil))))))) gss_nil))
      (gss_one (gs_ret (ge_tup (ga_cons ge_str (ga_cons (k_cal K c__law_label (hr.mono (by decide)) (by rfl) (ga_cons (k_ixL K (Zn.gv 1) ge_int) (ga_cons ge_int ga_nil))) (ga_cons (k_tuple K (by rfl) T.z_tuple (Zn.gvMB 2)) (ga_cons (Zn.gv 4) (ga_cons (Zn.gv 5) (ga_cons (Zn.gv 7) (ga_cons (Zn.gv 8) ga_nil)))))))))))))))))))), ?_⟩
    rintro gs Φ ⟨a, b, c, rfl, ha, hb, hc, q⟩
    walk_at "g0"
    walk_at "gs"
    intro k k0 k1
    walk_at "gs"
    refine ⟨fun i ρ => ∃ (rows : Rws) (v3 : SG), ρ = [.fz .drw, .fz (.lst [.int (a : Int), .int (b : Int), .int (c : Int)]), .ow true (.lst (rows.map gRw)), v3, .un, .un, .un, .un, .un, .un] ∧ RowsW b rows ∧ rows.length = i, ⟨[], _, rfl, ⟨by simp, fun i r h => by simp at h⟩, rfl⟩, ?_, ?_⟩
    · rintro i g ρ hi ⟨rows, v3, rfl, hw, hl⟩
      obtain ⟨hi, rfl⟩ := rgG_get hi
      have hrl : (rows.map gRw).length = rows.length := List.length_map ..
      walk_at "gs"
      refine ⟨b, i, by rw [Int.zero_add], hb, by omega, fun t ht1 ht2 => ?_⟩
      walk_at "gs"
      intro z z0 z1
      walk_at "gs"
      refine ⟨rows ++ [(t, (1 + z).toNat)], .fz (.int (0 + (i : Nat))), ?_, ⟨?_, fun j r hj => ?_⟩, ?_⟩
      · rw [List.map_append, List.map_singleton]
        unfold gRw
        rw [Int.toNat_of_nonneg (by omega)]
      · rw [List.length_append, List.length_singleton]; omega
      · by_cases hjl : j < rows.length
        · rw [List.getElem?_append_left hjl] at hj
          exact hw.2 j r hj
        · rw [List.getElem?_append_right (by omega)] at hj
          have : j = rows.length := by
            have := getL hj
            simp at this
            omega
          subst this
          rw [Nat.sub_self] at hj
          cases hj
          exact ⟨hl ▸ ht1, ht2, by show 1 ≤ (1 + z).toNat; omega, by show (1 + z).toNat ≤ 2; omega⟩
      · rw [List.length_append, List.length_singleton, hl]
    rintro ρ ⟨rows, v3, rfl, hw, _⟩
    have hF := hw.fin
    clear hw
    walk_at "gs"
    refine v_ps (fun ρ' => ∃ rows : Rws, ρ' = [.fz .drw, .fz (.lst [.int (a : Int), .int (b : Int), .int (c : Int)]), .ow true (.lst (rows.map gRw)), v3, .un, .un, .un, .un, .un, .un] ∧ RowsF rows) ?_ ?_
    · walk_at "gs"
      intro m m0 m1
      walk_at "gs"
      by_cases h5 : m = 5
      · walk_at "gs"
        refine ⟨b, 5, rfl, hb, by omega, fun t ht1 ht2 => ?_⟩
        walk_at "gs"
        intro z z0 z1
        walk_at "gs"
        refine ⟨[(t, (4 + z).toNat)], ?_, RowsF.one ht2 (by omega) (by omega)⟩
        rw [List.map_singleton]
        unfold gRw
        rw [Int.toNat_of_nonneg (by omega)]
      · walk_at "gs"
        exact ⟨rows, rfl, hF⟩
    clear hF
    rintro ρ' ⟨rows, rfl, hF⟩
    have hrl : (rows.map gRw).length = rows.length := List.length_map ..
    have hr3 := hF.l
    walk_at "gs"
    intro z z0 z1
    obtain ⟨wd, hwd⟩ : ∃ wd : Nat, 1 + z = (wd : Int) := ⟨(1 + z).toNat, by omega⟩
    have w1 : 1 ≤ wd := by omega
    have w3 : wd ≤ 3 := by omega
    walk_at "gs"
    rw [hwd]
    intro st _ _
    walk_at "gs"
    refine ⟨b, 25, rfl, hb, by omega, fun sa _ _ => ?_⟩
    walk_at "gs"
    refine ⟨c, 25, rfl, hc, by omega, fun sb _ _ => ?_⟩
    walk_at "gs"
    refine v_ps (fun ρ' => ∃ (s2 : SG) (needs : Ex), ρ' = [.fz .drw, .fz (.lst [.int (a : Int), .int (b : Int), .int (c : Int)]), s2, v3, .fz (.int (wd : Int)), .fz (.int st), .fz (.tup [.str sa, .str sb]), .fz (exG needs), .un, .un] ∧ (s2 = .ow true (.lst (rows.map gRw)) ∨ s2 = .fz (.lst (rows.map gRw))) ∧ HasTy rows needs 1 ∧ needs.dep < 8) ?_ ?_
    · walk_at "gs"
      intro m m0 m1
      walk_at "gs"
      by_cases h0 : m = 0
      · walk_at "gs"
        exact ⟨_, .wd 1 1, rfl, .inl rfl, .wd (w := 1) (by decide) (by decide), by decide⟩
      · walk_at "gs"
        refine ⟨rows, sa, sb, rfl, ?_⟩
        walk_at "gs"
        intro x x0 x1
        walk_at "gs"
        refine ⟨rows, sa, sb, 1, (1 + x).toNat, by rw [Int.toNat_of_nonneg (by omega)]; rfl, hF.ok, by omega, by omega, by omega, by omega, fun e te de => ?_⟩
        walk_at "gs"
        exact ⟨_, e, rfl, .inr rfl, te, by omega⟩
    rintro ρ' ⟨s2, needs, rfl, hs2, tn, dn⟩
    rcases hs2 with rfl | rfl
    all_goals
      walk_at "gs"
      refine ⟨rows ++ [(("result" : Str), wd)], sa, sb, by rw [List.map_append]; rfl, ?_⟩
      walk_at "gs"
      intro x x0 x1
      walk_at "gs"
      refine ⟨rows ++ [(("result" : Str), wd)], sa, sb, 1, (1 + x).toNat, by rw [Int.toNat_of_nonneg (by omega)]; rfl, hF.okR w1 w3, by omega, by omega, by omega, by omega, fun gives tg dg => ?_⟩
      walk_at "gs"
      refine v_ps (fun ρ' => ∃ (gives : Ex) (v9 : SG), ρ' = [.fz .drw, .fz (.lst [.int (a : Int), .int (b : Int), .int (c : Int)]), .fz (.lst (rows.map gRw)), v3, .fz (.int (wd : Int)), .fz (.int st), .fz (.tup [.str sa, .str sb]), .fz (exG needs), .fz (exG gives), v9] ∧ HasTy (rows ++ [(("result" : Str), wd)]) gives 1 ∧ gives.dep < 8) ?_ ?_
      · walk_at "gs"
        intro m m0 m1
        walk_at "gs"
        by_cases h1 : m = 1
        · walk_at "gs"
          refine ⟨rows, sa, sb, rfl, ?_⟩
          walk_at "gs"
          refine ⟨rows, sa, sb, wd, 1, rfl, hF.ok, w1, by omega, by omega, by omega, fun e te de => ?_⟩
          walk_at "gs"
          refine ⟨.bin "|" gives (.bin "==" (.nm "result") e), .fz (exG e), rfl, .bin (by simp) tg (.cmp (v := wd) (.inl rfl) w1 (by omega) (.nm (List.mem_append_right _ (List.mem_singleton.mpr rfl))) (te.mono fun r hr => List.mem_append_left _ hr)), ?_⟩
          simp only [Ex.dep]
          omega
        · walk_at "gs"
          exact ⟨gives, _, rfl, tg, by omega⟩
      rintro ρ' ⟨gives, v9, rfl, tg, dg⟩
      walk_at "gs"
      refine ⟨a, 8, rfl, ha, by omega, fun nm _ _ => ?_⟩
      walk_at "gs"
      exact q ⟨nm, rows, wd, st, needs, gives⟩ (pt_ok hF w3 tn tg dn dg) hF.s
end
end Zn
namespace Zn
open PySem PySem.Spec PyProof.Rows L2 TL
abbrev s_law : Stmt := topS 40
theorem sc_law : FnScope ["_law_script", "_law_source_here", "_law_salts_here", "_law_part", "_law_due", "_law_held", "_law_words", "_law_log", "_law_k", "_law_answers"] ["_law_script"] (defScope s_law) := ⟨rfl, rfl, rfl, by decide +kernel, rfl, by decide +kernel, by decide +kernel⟩

theorem unm_need {p : Pt} (h : unm p = none) : ∀ r ∈ need p, giv p r ≠ [] := by
  have hun : unm p = (need p).find? fun r => (giv p r).isEmpty := by
    unfold unm need
    rw [List.find?_filter]
    congr 1
    funext r
    cases nee p r <;> cases (giv p r).isEmpty <;> rfl
  rw [hun] at h
  intro r hr e
  have := List.find?_eq_none.mp h r hr
  rw [e] at this
  exact this rfl
theorem ans_ne {p : Pt} {ws : List Int} {lg : Lg} (ok : LogOk p lg) (h : giv p ws ≠ []) : ans p ws lg ≠ [] := by
  by_cases hst : p.st = 1
  · by_cases hx : ∃ e ∈ lg, e.1 = ws
    · obtain ⟨e, he, hw⟩ := hx
      rw [ans_hit ok hst he hw]
      simp
    · rw [ans_miss fun e he hw => hx ⟨e, he, hw⟩]
      exact h
  · unfold ans
    rw [if_neg hst]
    exact h
theorem need_fit {p : Pt} {r : List Int} (h : r ∈ need p) : Fit p.rows r := rowsW_Fit (List.mem_filter.mp h).1
section
variable {P : Program} {w : World} {K : PySem.W.Frag} {mg : Str → Option Value} {base : Heap} {aR aN C : Addr} {n : Nat}
theorem ok_law {f : Addr} {fd : FuncData} (F : Fun K "law" "law" s_law f fd) (c__law_source : Cal P w K mg base "_law_source" 1 (spBegin K)) (c__law_digit : Cal P w K mg base "_law_digit" 1 (spG K ufDraw)) (c__law_salts : Cal P w K mg base "_law_salts" 2 (spG K ufSalts)) (c__law_contracted : Cal P w K mg base "_law_contracted" 10 (spG K ufContract)) (c__law_unmet_words : Cal P w K mg base "_law_unmet_words" 12 (spG K ufUnmet)) (c__law_plain : Cal P w K mg base "_law_plain" 1 (spG K ufPlain)) (c_unmet : Cal P w K mg base "unmet" 16 (spG K ufUnmet)) (c__law_needed_words : Cal P w K mg base "_law_needed_words" 11 (spG K ufNeeded)) (c_let_answers : Cal P w K mg base "let_answers" 16 (spG K ufLet)) (c__law_own_answers : Cal P w K mg base "_law_own_answers" 12 (spG K ufOwn)) (c__law_pick_one : Cal P w K mg base "_law_pick_one" 2 (spG K ufPick)) (T : Tx K mg aR aN) : FnOk P w K mg base CX0 17 f fd ["_law_script"] (spLaw K) := by
  refine g_law F sc_law (by decide) (fun cdv A outer s H E hr => ?_)
  refine ⟨_, _, (gss_law (ps_set (i := 1) sc_law.nd rfl (Or.inl rfl) (Zn.pe_cal c__law_source (hr.mono (by decide)) (by rfl) (pa_cons (pv 0) pa_nil))) 
      (gss_cons (gs_set (i := 2) sc_law.nd rfl (Or.inl rfl) (k_cal K c__law_salts (hr.mono (by decide)) (by rfl) (ga_cons (Zn.gv 1) ga_nil)))
      (gss_cons (gs_set (i := 3) sc_law.nd rfl (Or.inl rfl) (k_cal K c__law_contracted (hr.mono (by decide)) (by rfl) (ga_cons (Zn.gv 1) (ga_cons (Zn.gv 2) ga_nil))))
      (gss_cons (gs_set (i := 4) sc_law.nd rfl (Or.inl rfl) (k_cal K c__law_unmet_words (hr.mono (by decide)) (by rfl) (ga_cons (Zn.gv 3) ga_nil)))
      (gss_cons (gs_post (gs_if (gt_cmpR go_notN (Zn.gv 4) ge_non (nomark _)) 
       (gss_one (gs_ret (ge_and (k_cal K c__law_plain (hr.mono (by decide)) (by rfl) (ga_cons (k_cal K c_unmet (hr.mono (by decide)) (by rfl) (ga_cons (Zn.gv 3) ga_nil)) (ga_cons (Zn.gv 4) ga_nil))) (ge_one (k_cal K c__law_plain (hr.mono (by decide)) (by rfl) (ga_cons (k_cal K c_unmet (hr.mono (by decide)) (by rfl) (ga_cons (Zn.gv 3) ga_nil)) (ga_cons (Zn.gv 4) ga_nil))))))) gss_nil))
      (gss_cons (gs_post (gs_if (gt_cmpR go_notN (k_cal K c_unmet (hr.mono (by decide)) (by rfl) (ga_cons (Zn.gv 3) ga_nil)) ge_non (nomark _)) 
       (gss_one (gs_ret ge_bl)) gss_nil))
      (gss_cons (gs_set (i := 5) sc_law.nd rfl (Or.inl rfl) (k_cal K c__law_needed_words (hr.mono (by decide)) (by rfl) (ga_cons (Zn.gv 3) ga_nil)))
      (gss_cons (gs_for PassesOwn.never rfl (k_itL K (Zn.gv 5)) (gg_name (i := 6) sc_law.nd rfl (Or.inl rfl)) 
       (gss_one (gs_post (gs_if (gt_not (gt_val (k_cal K c__law_plain (hr.mono (by decide)) (by rfl) (ga_cons (k_cal K c_let_answers (hr.mono (by decide)) (by rfl) (ga_cons (Zn.gv 3) (ga_cons (Zn.gv 6) (ga_cons (ge_tup ga_nil) ga_nil)))) (ga_cons (k_cal K c__law_own_answers (hr.mono (by decide)) (by rfl) (ga_cons (Zn.gv 3) (ga_cons (Zn.gv 6) (ga_cons (GN.ge (gn_lst ga_nil)) ga_nil)))) ga_nil))))) 
        (gss_one (gs_ret ge_bl)) gss_nil))))
      (gss_cons (gs_post (gs_if (gt_not (k_truth K (GE.gb (Zn.gv 5)))) 
       (gss_one (gs_ret ge_bl)) gss_nil))
      (gss_cons (gs_setO (i := 7) sc_law.nd rfl (Or.inl rfl) (gn_lst ga_nil))
      (gss_cons (gs_for PassesOwn.never rfl (gi_range1 (by rfl) T.z_range (k_cal K c__law_digit (hr.mono (by decide)) (by rfl) (ga_cons (Zn.gv 1) (ga_cons ge_int ga_nil)))) (gg_name (i := 8) sc_law.nd rfl (Or.inl rfl)) 
       (gss_cons (gs_set (i := 6) sc_law.nd rfl (Or.inl rfl) (k_cal K c__law_pick_one (hr.mono (by decide)) (by rfl) (ga_cons (Zn.gv 1) (ga_cons (Zn.gv 5) ga_nil))))
       (gss_cons (gs_set (i := 9) sc_law.nd rfl (Or.inl rfl) (k_calB K c__law_own_answers (hr.mono (by decide)) (by rfl) (gab_cons (Zn.gv 3) (gab_cons (Zn.gv 6) (gab_own 7 (gab ga_nil))))))
       (gss_cons (gs_expr (k_app K 7 (ge_tup (ga_cons (Zn.gv 6) (ga_cons (k_cal K c__law_pick_one (hr.mono (by decide)) (by rfl) (ga_cons (Zn.gv 1) (ga_cons (Zn.gv 9) ga_nil))) ga_nil)))))
       (gss_one (gs_post (gs_if (gt_not (gt_val (k_cal K c__law_plain (hr.mono (by decide)) (by rfl) (ga_cons (k_cal K c_let_answers (hr.mono (by decide)) (by rfl) (ga_cons (Zn.gv 3) (ga_cons (Zn.gv 6) (ga_cons (k_tuple K (by rfl) T.z_tuple (Zn.gvB 7)) ga_nil)))) (ga_cons (k_calB K c__law_own_answers (hr.mono (by decide)) (by rfl) (gab_cons (Zn.gv 3) (gab_cons (Zn.gv 6) (gab_own 7 (gab ga_nil))))) ga_nil))))) 
        (gss_one (gs_ret ge_bl)) gss_nil)))))))
      (gss_cons (gs_for PassesOwn.never rfl (k_itL K (Zn.gv 5)) (gg_name (i := 6) sc_law.nd rfl (Or.inl rfl)) 
       (gss_one (gs_post (gs_if (gt_not (gt_val (k_cal K c__law_plain (hr.mono (by decide)) (by rfl) (ga_cons (k_cal K c_let_answers (hr.mono (by decide)) (by rfl) (ga_cons (Zn.gv 3) (ga_cons (Zn.gv 6) (ga_cons (k_tuple K (by rfl) T.z_tuple (Zn.gvB 7)) ga_nil)))) (ga_cons (k_calB K c__law_own_answers (hr.mono (by decide)) (by rfl) (gab_cons (Zn.gv 3) (gab_cons (Zn.gv 6) (gab_own 7 (gab ga_nil))))) ga_nil))))) 
        (gss_one (gs_ret ge_bl)) gss_nil))))
      (gss_one (gs_ret (ge_and (ge_cmpR go_isN (k_cal K c_unmet (hr.mono (by decide)) (by rfl) (ga_cons (Zn.gv 3) ga_nil)) ge_non (nomark _)) (ge_one (k_cal K c__law_plain (hr.mono (by decide)) (by rfl) (ga_cons (k_cal K c_let_answers (hr.mono (by decide)) (by rfl) (ga_cons (Zn.gv 3) (ga_cons (k_ixL K (Zn.gv 5) ge_int) (ga_cons (ge_tup ga_nil) ga_nil)))) (ga_cons (k_cal K c__law_own_answers (hr.mono (by decide)) (by rfl) (ga_cons (Zn.gv 3) (ga_cons (k_ixL K (Zn.gv 5) ge_int) (ga_cons (GN.ge (gn_lst ga_nil)) ga_nil)))) ga_nil))))))))))))))))))), ?_⟩
  walk_at "gl0"
  walk_at "gs"
  refine ⟨rfl, fun a b c ha hb hc => ?_⟩
  walk_at "gs"
  refine ⟨a, b, c, rfl, ha, hb, hc, fun p ok hs => ?_⟩
  walk_at "gs"
  refine ⟨p, rfl, ok, hs, ?_⟩
  walk_at "gs"
  refine v_ps0 ?_
  cases hu : unm p with
  | some r =>
    have hr8 : r.length ≤ 8 := by
      have hr := List.mem_of_find?_eq_some hu
      rw [rowsW_mem hr, List.length_map]
      exact ok.rl
    simp only [oWs]
    walk_at "gs"
    refine ⟨p, rfl, ok, hs, ?_⟩
    rw [hu]
    simp only [oWs]
    walk_at "gs"
    refine ⟨r, rfl, by omega, ?_⟩
    walk_at "gs"
    refine ⟨p, rfl, ok, hs, ?_⟩
    rw [hu]
    simp only [oWs]
    walk_at "gs"
    refine ⟨r, rfl, by omega, ?_⟩
    walk_at "gs"
    rfl
  | none =>
    have hne := unm_need hu
    simp only [oWs]
    walk_at "gs"
    refine v_ps0 ?_
    walk_at "gs"
    refine ⟨p, rfl, ok, hs, ?_⟩
    rw [hu]
    simp only [oWs]
    walk_at "gs"
    refine ⟨p, rfl, ok, hs, ?_⟩
    walk_at "gs"
    refine ⟨fun i ρ => ∃ v6, ρ = [.un, .fz .drw, .fz (.lst [.int (a : Int), .int (b : Int), .int (c : Int)]), .fz (gP p), .fz .non, .fz (.lst ((need p).map gWs)), v6, .un, .un, .un], ⟨_, rfl⟩, ?_, ?_⟩
    · rintro i g ρ hi ⟨v6, rfl⟩
      obtain ⟨r, hr, rfl⟩ := get_map hi
      have ft := need_fit (List.mem_of_getElem? hr)
      walk_at "gs"
      refine v_ps0 ?_
      walk_at "gs"
      refine ⟨p, r, [], rfl, ok, ft, by simp, by simp, ?_⟩
      walk_at "gs"
      refine ⟨p, r, [], rfl, ok, ft, (fun e he => by cases he), ?_⟩
      walk_at "gs"
      refine ⟨_, rfl, Nat.le_trans (ans_len ok r []) (by decide), ?_⟩
      walk_at "gs"
      try exact ⟨_, rfl⟩
    rintro ρ ⟨v6, rfl⟩
    walk_at "gs"
    refine v_ps0 ?_
    walk_at "gs"
    refine v_ite (fun hh => ?_) (fun hh => ?_)
    · walk_at "gs"
      rfl
    have hpos : 0 < (need p).length := by
      cases hn : need p with
      | nil => rw [hn] at hh; simp at hh
      | cons _ _ => simp
    walk_at "gs"
    intro k k0 k1
    walk_at "gs"
    have hnl : ((need p).map gWs).length < 100000 := by
      rw [List.length_map]
      have h1 : (need p).length ≤ (rowsW (p.rows.map (·.2))).length := List.length_filter_le _ _
      rw [rowsW_len] at h1
      have h16 : (2 : Nat) ^ (p.rows.map (·.2)).sum ≤ 65536 := by
        rw [show 65536 = 2 ^ 16 from rfl]
        exact Nat.pow_le_pow_right (by decide) hs
      omega
    refine ⟨fun i ρ => ∃ (lg : Lg) (v6 v8 v9 : SG), ρ = [.un, .fz .drw, .fz (.lst [.int (a : Int), .int (b : Int), .int (c : Int)]), .fz (gP p), .fz .non, .fz (.lst ((need p).map gWs)), v6, .ow true (.lst (lg.map gLe)), v8, v9] ∧ LogOk p lg ∧ lg.length ≤ i ∧ ∀ e ∈ lg, e.1.length ≤ 100, ⟨[], _, _, _, rfl, (fun e he => by cases he), by simp, by simp⟩, ?_, ?_⟩
    · rintro i g ρ hi ⟨lg, v6, v8, v9, rfl, lk, hll, hle⟩
      obtain ⟨hi, rfl⟩ := rgG_get hi
      have hlm : (lg.map gLe).length = lg.length := List.length_map ..
      walk_at "gs"
      refine ⟨_, _, rfl, rfl, by rw [List.length_map]; exact hpos, hnl, fun g hg => ?_⟩
      obtain ⟨r, hr, rfl⟩ := List.mem_map.mp hg
      have ft := need_fit hr
      have hr8 : r.length ≤ 8 := by rw [ft.1]; exact ok.rl
      clear hg
      walk_at "gs"
      refine ⟨p, r, lg, rfl, ok, ft, lk, flat_tup (fun g hg => ?_), ?_⟩
      · obtain ⟨x, _, rfl⟩ := List.mem_map.mp hg
        exact flat_int
      walk_at "gs"
      have hal := ans_len ok r lg
      have han := ans_ne lk (hne r hr)
      refine ⟨_, _, rfl, rfl, ?_, by rw [List.length_map]; omega, fun g hg => ?_⟩
      · rw [List.length_map]
        exact List.length_pos_iff.mpr han
      obtain ⟨x, hx, rfl⟩ := List.mem_map.mp hg
      clear hg
      have lk2 := log_snoc lk hx
      have hle2 : ∀ e ∈ lg ++ [(r, x)], e.1.length ≤ 100 := fun e he => by
        rcases List.mem_append.mp he with m | m
        · exact hle e m
        · rw [List.mem_singleton.mp m]; show r.length ≤ 100; omega
      have ea : lg.map gLe ++ [.tup [gWs r, .int x]] = (lg ++ [(r, x)]).map gLe := by rw [List.map_append]; rfl
      have hl2 : (lg ++ [(r, x)]).length ≤ i + 1 := by rw [List.length_append, List.length_singleton]; omega
      walk_at "gs"
      rw [ea]
      generalize lg ++ [(r, x)] = lg2 at lk2 hle2 hl2 ⊢
      have hlm2 : (lg2.map gLe).length = lg2.length := List.length_map ..
      refine v_ps0 ?_
      walk_at "gs"
      refine ⟨p, r, lg2, rfl, ok, ft, by omega, hle2, ?_⟩
      walk_at "gs"
      refine ⟨p, r, lg2, rfl, ok, ft, lk2, flat_tup (fun g hg => ?_), ?_⟩
      · obtain ⟨x, _, rfl⟩ := List.mem_map.mp hg
        exact flat_int
      walk_at "gs"
      refine ⟨_, rfl, Nat.le_trans (ans_len ok r lg2) (by decide), ?_⟩
      walk_at "gs"
      exact ⟨lg2, _, _, _, rfl, lk2, hl2, hle2⟩
    rintro ρ ⟨lg, v6, v8, v9, rfl, lk, hll, hle⟩
    rw [rgG_len] at hll
    have hlm : (lg.map gLe).length = lg.length := List.length_map ..
    walk_at "gs"
    refine ⟨fun i ρ => ∃ (v6 : SG), ρ = [.un, .fz .drw, .fz (.lst [.int (a : Int), .int (b : Int), .int (c : Int)]), .fz (gP p), .fz .non, .fz (.lst ((need p).map gWs)), v6, .ow true (.lst (lg.map gLe)), v8, v9], ⟨_, rfl⟩, ?_, ?_⟩
    · rintro i g ρ hi ⟨v6, rfl⟩
      obtain ⟨r, hr, rfl⟩ := get_map hi
      have ft := need_fit (List.mem_of_getElem? hr)
      walk_at "gs"
      refine v_ps0 ?_
      walk_at "gs"
      refine ⟨p, r, lg, rfl, ok, ft, by omega, hle, ?_⟩
      walk_at "gs"
      refine ⟨p, r, lg, rfl, ok, ft, lk, flat_tup (fun g hg => ?_), ?_⟩
      · obtain ⟨x, _, rfl⟩ := List.mem_map.mp hg
        exact flat_int
      walk_at "gs"
      refine ⟨_, rfl, Nat.le_trans (ans_len ok r lg) (by decide), ?_⟩
      walk_at "gs"
      exact ⟨_, rfl⟩
    rintro ρ ⟨v6, rfl⟩
    walk_at "gs"
    refine ⟨p, rfl, ok, hs, ?_⟩
    rw [hu]
    simp only [oWs]
    walk_at "gs"
    have e0 : atI ((need p).map gWs) 0 = some (gWs (need p)[0]) := atG (j := 0) rfl (by rw [List.getElem?_map, List.getElem?_eq_getElem hpos]; rfl)
    have ft := need_fit (List.getElem_mem hpos)
    generalize (need p)[0] = r at e0 ft
    refine v_ixL e0 ?_
    walk_at "gs"
    refine ⟨p, r, [], rfl, ok, ft, by simp, by simp, ?_⟩
    walk_at "gs"
    refine v_ixL e0 ?_
    walk_at "gs"
    refine ⟨p, r, [], rfl, ok, ft, (fun e he => by cases he), ?_⟩
    walk_at "gs"
    refine ⟨_, rfl, Nat.le_trans (ans_len ok r []) (by decide), ?_⟩
    walk_at "gs"
    rfl
end
end Zn
namespace Zn
open PySem PySem.Spec PyProof.Rows L2 TL
abbrev s_Words_item : Stmt := inClass (topS 11) 7
theorem sc_Words_item : FnScope ["self", "array", "index", "width", "words"] ["self", "array", "index"] (defScope s_Words_item) := ⟨rfl, rfl, rfl, by decide +kernel, rfl, by decide +kernel, by decide +kernel⟩

abbrev s__law_kinded : Stmt := topS 28
theorem sc__law_kinded : FnScope ["_law_source_here", "_law_scope", "_law_sought", "_law_fuel"] ["_law_source_here", "_law_scope", "_law_sought", "_law_fuel"] (defScope s__law_kinded) := ⟨rfl, rfl, rfl, by decide +kernel, rfl, by decide +kernel, by decide +kernel⟩

theorem calM_none {P : Program} {w : World} {K : PySem.W.Frag} {mg : Str → Option Value} {base : Heap} {C : Addr} {m qual : Str} {st : Stmt} {f : Addr} {fd : FuncData} {ps : List Str} {k : Nat} {uf : List G → (G → Prop) → Prop} (c : Cls K C) (hm : Meth K C m f) (F : Fun K m qual st f fd)
    (hb : ∀ (kV doc pm : Value) (an : Option Addr) (cdv ct : Value) (us : List Value), us.length = ps.length → bindArgs (PySem.W.fnOf m qual (defArgs st) (defBody st) (defScope st) .none kV doc pm an cdv ct) ⟨us, []⟩ = pure (ps.zip us)) (h : ∀ gs Φ, ¬ uf gs Φ) : CalM P w K mg base C m k (spG K uf) :=
  ⟨c, f, fd, ps, hm, ⟨fun vs H Q E ⟨_, _, gs, Φ, _, q, _⟩ => (h gs Φ q).elim, fun A outer s H args us vs Q E _ _ _ _ ⟨_, _, gs, Φ, _, q, _⟩ => (h gs Φ q).elim⟩, F.binds hb⟩
end Zn
namespace Zn
open PySem PySem.Spec PyProof.Rows L2 TL
theorem all_mk {l : PySem.W.OpenLaw} {w : World} {K : PySem.W.Frag} {h : Heap} {mg : Str → Option Value} {fa : Addr} {C : Addr}
    {f0 : Addr} {od0 an0 : Option Addr} {sl0 : Array (Option Value)} {oc0 kV0 dc0 pm0 cd0 ct0 : Value}
    {f1 : Addr} {od1 an1 : Option Addr} {sl1 : Array (Option Value)} {oc1 kV1 dc1 pm1 cd1 ct1 : Value}
    {f2 : Addr} {od2 an2 : Option Addr} {sl2 : Array (Option Value)} {oc2 kV2 dc2 pm2 cd2 ct2 : Value}
    {f3 : Addr} {od3 an3 : Option Addr} {sl3 : Array (Option Value)} {oc3 kV3 dc3 pm3 cd3 ct3 : Value}
    {f4 : Addr} {od4 an4 : Option Addr} {sl4 : Array (Option Value)} {oc4 kV4 dc4 pm4 cd4 ct4 : Value}
    {f5 : Addr} {od5 an5 : Option Addr} {sl5 : Array (Option Value)} {oc5 kV5 dc5 pm5 cd5 ct5 : Value}
    {f6 : Addr} {od6 an6 : Option Addr} {sl6 : Array (Option Value)} {oc6 kV6 dc6 pm6 cd6 ct6 : Value}
    {f7 : Addr} {od7 an7 : Option Addr} {sl7 : Array (Option Value)} {oc7 kV7 dc7 pm7 cd7 ct7 : Value}
    {f8 : Addr} {od8 an8 : Option Addr} {sl8 : Array (Option Value)} {oc8 kV8 dc8 pm8 cd8 ct8 : Value}
    {f9 : Addr} {od9 an9 : Option Addr} {sl9 : Array (Option Value)} {oc9 kV9 dc9 pm9 cd9 ct9 : Value}
    {f10 : Addr} {od10 an10 : Option Addr} {sl10 : Array (Option Value)} {oc10 kV10 dc10 pm10 cd10 ct10 : Value}
    {f11 : Addr} {od11 an11 : Option Addr} {sl11 : Array (Option Value)} {oc11 kV11 dc11 pm11 cd11 ct11 : Value}
    {f12 : Addr} {od12 an12 : Option Addr} {sl12 : Array (Option Value)} {oc12 kV12 dc12 pm12 cd12 ct12 : Value}
    {f13 : Addr} {od13 an13 : Option Addr} {sl13 : Array (Option Value)} {oc13 kV13 dc13 pm13 cd13 ct13 : Value}
    {f14 : Addr} {od14 an14 : Option Addr} {sl14 : Array (Option Value)} {oc14 kV14 dc14 pm14 cd14 ct14 : Value}
    {f15 : Addr} {od15 an15 : Option Addr} {sl15 : Array (Option Value)} {oc15 kV15 dc15 pm15 cd15 ct15 : Value}
    {f16 : Addr} {od16 an16 : Option Addr} {sl16 : Array (Option Value)} {oc16 kV16 dc16 pm16 cd16 ct16 : Value}
    {f17 : Addr} {od17 an17 : Option Addr} {sl17 : Array (Option Value)} {oc17 kV17 dc17 pm17 cd17 ct17 : Value}
    {f18 : Addr} {od18 an18 : Option Addr} {sl18 : Array (Option Value)} {oc18 kV18 dc18 pm18 cd18 ct18 : Value}
    {f19 : Addr} {od19 an19 : Option Addr} {sl19 : Array (Option Value)} {oc19 kV19 dc19 pm19 cd19 ct19 : Value}
    {f20 : Addr} {od20 an20 : Option Addr} {sl20 : Array (Option Value)} {oc20 kV20 dc20 pm20 cd20 ct20 : Value}
    {f21 : Addr} {od21 an21 : Option Addr} {sl21 : Array (Option Value)} {oc21 kV21 dc21 pm21 cd21 ct21 : Value}
    {f22 : Addr} {od22 an22 : Option Addr} {sl22 : Array (Option Value)} {oc22 kV22 dc22 pm22 cd22 ct22 : Value}
    {f23 : Addr} {od23 an23 : Option Addr} {sl23 : Array (Option Value)} {oc23 kV23 dc23 pm23 cd23 ct23 : Value}
    {f24 : Addr} {od24 an24 : Option Addr} {sl24 : Array (Option Value)} {oc24 kV24 dc24 pm24 cd24 ct24 : Value}
    {f25 : Addr} {od25 an25 : Option Addr} {sl25 : Array (Option Value)} {oc25 kV25 dc25 pm25 cd25 ct25 : Value}
    {f26 : Addr} {od26 an26 : Option Addr} {sl26 : Array (Option Value)} {oc26 kV26 dc26 pm26 cd26 ct26 : Value}
    {f27 : Addr} {od27 an27 : Option Addr} {sl27 : Array (Option Value)} {oc27 kV27 dc27 pm27 cd27 ct27 : Value}
    {f28 : Addr} {od28 an28 : Option Addr} {sl28 : Array (Option Value)} {oc28 kV28 dc28 pm28 cd28 ct28 : Value}
    {f29 : Addr} {od29 an29 : Option Addr} {sl29 : Array (Option Value)} {oc29 kV29 dc29 pm29 cd29 ct29 : Value}
    {f30 : Addr} {od30 an30 : Option Addr} {sl30 : Array (Option Value)} {oc30 kV30 dc30 pm30 cd30 ct30 : Value}
    {f31 : Addr} {od31 an31 : Option Addr} {sl31 : Array (Option Value)} {oc31 kV31 dc31 pm31 cd31 ct31 : Value}
    {f32 : Addr} {od32 an32 : Option Addr} {sl32 : Array (Option Value)} {oc32 kV32 dc32 pm32 cd32 ct32 : Value}
    {f33 : Addr} {od33 an33 : Option Addr} {sl33 : Array (Option Value)} {oc33 kV33 dc33 pm33 cd33 ct33 : Value}
    {f34 : Addr} {od34 an34 : Option Addr} {sl34 : Array (Option Value)} {oc34 kV34 dc34 pm34 cd34 ct34 : Value}
    {f35 : Addr} {od35 an35 : Option Addr} {sl35 : Array (Option Value)} {oc35 kV35 dc35 pm35 cd35 ct35 : Value}
    {f36 : Addr} {od36 an36 : Option Addr} {sl36 : Array (Option Value)} {oc36 kV36 dc36 pm36 cd36 ct36 : Value}
    {f37 : Addr} {od37 an37 : Option Addr} {sl37 : Array (Option Value)} {oc37 kV37 dc37 pm37 cd37 ct37 : Value}
    {aR : Addr} {odaR : Option Addr} {naR : Nat} {slaR : Array (Option Value)} {taR0 taR1 taR2 taR3 : Tok}
    {aN : Addr} {odaN : Option Addr} {naN : Nat} {slaN : Array (Option Value)} {taN0 : Tok} (X : K.In h) (G : h.Ns mainGlobals mg) (hfa : mg "law" = some (.ref fa))
    (aCC : PySem.W.nsIn K mainGlobals "Words" = some (some (.ref C)))
    (pgC : PySem.W.plainGet K C Str.empty = true)
    (hdC : PySem.W.hasDictIn K C = true)
    (poC : PySem.W.plainOver K C = true)
    (saC : PySem.W.findIn K (.ref C) "__setattr__" = some (some (.builtin "object.__setattr__")))
    (mkC : PySem.W.makesIn K C = true)
    (kcC : PySem.W.keepIn K (.ref C) = true)
    (inC : PySem.W.findIn K (.ref C) "__init__" = some (some (.builtin "object.__init__")))
    (a0 : PySem.W.nsIn K mainGlobals "all_words" = some (some (.ref f0))) (l0 : K.lookup f0 = some ⟨oc0, od0, .func (PySem.W.fnOf "all_words" "all_words" (defArgs s_all_words) (defBody s_all_words) (defScope s_all_words) .none kV0 dc0 pm0 an0 cd0 ct0), sl0⟩) (c0 : PySem.W.codeIn K cd0 "all_words" = true) (k0 : PySem.W.keepIn K (.ref f0) = true)
    (a1 : PySem.W.nsIn K mainGlobals "result" = some (some (.ref f1))) (l1 : K.lookup f1 = some ⟨oc1, od1, .func (PySem.W.fnOf "result" "result" (defArgs s_result) (defBody s_result) (defScope s_result) .none kV1 dc1 pm1 an1 cd1 ct1), sl1⟩) (c1 : PySem.W.codeIn K cd1 "result" = true) (k1 : PySem.W.keepIn K (.ref f1) = true)
    (a2 : PySem.W.nsIn K mainGlobals "_of_one" = some (some (.ref f2))) (l2 : K.lookup f2 = some ⟨oc2, od2, .func (PySem.W.fnOf "_of_one" "_of_one" (defArgs s__of_one) (defBody s__of_one) (defScope s__of_one) .none kV2 dc2 pm2 an2 cd2 ct2), sl2⟩) (c2 : PySem.W.codeIn K cd2 "_of_one" = true) (k2 : PySem.W.keepIn K (.ref f2) = true)
    (a3 : PySem.W.nsIn K mainGlobals "_related" = some (some (.ref f3))) (l3 : K.lookup f3 = some ⟨oc3, od3, .func (PySem.W.fnOf "_related" "_related" (defArgs s__related) (defBody s__related) (defScope s__related) .none kV3 dc3 pm3 an3 cd3 ct3), sl3⟩) (c3 : PySem.W.codeIn K cd3 "_related" = true) (k3 : PySem.W.keepIn K (.ref f3) = true)
    (a4 : PySem.W.nsIn K mainGlobals "_of_two" = some (some (.ref f4))) (l4 : K.lookup f4 = some ⟨oc4, od4, .func (PySem.W.fnOf "_of_two" "_of_two" (defArgs s__of_two) (defBody s__of_two) (defScope s__of_two) .none kV4 dc4 pm4 an4 cd4 ct4), sl4⟩) (c4 : PySem.W.codeIn K cd4 "_of_two" = true) (k4 : PySem.W.keepIn K (.ref f4) = true)
    (a5 : PySem.W.nsIn K mainGlobals "_divided" = some (some (.ref f5))) (l5 : K.lookup f5 = some ⟨oc5, od5, .func (PySem.W.fnOf "_divided" "_divided" (defArgs s__divided) (defBody s__divided) (defScope s__divided) .none kV5 dc5 pm5 an5 cd5 ct5), sl5⟩) (c5 : PySem.W.codeIn K cd5 "_divided" = true) (k5 : PySem.W.keepIn K (.ref f5) = true)
    (a6 : PySem.W.findIn K (.ref C) "worth" = some (some (.ref f6))) (i6 : PySem.W.isFn K (.ref f6) = true) (l6 : K.lookup f6 = some ⟨oc6, od6, .func (PySem.W.fnOf "worth" "Words.worth" (defArgs s_Words_worth) (defBody s_Words_worth) (defScope s_Words_worth) .none kV6 dc6 pm6 an6 cd6 ct6), sl6⟩) (c6 : PySem.W.codeIn K cd6 "Words.worth" = true) (k6 : PySem.W.keepIn K (.ref f6) = true)
    (a7 : PySem.W.findIn K (.ref C) "joined" = some (some (.ref f7))) (i7 : PySem.W.isFn K (.ref f7) = true) (l7 : K.lookup f7 = some ⟨oc7, od7, .func (PySem.W.fnOf "joined" "Words.joined" (defArgs s_Words_joined) (defBody s_Words_joined) (defScope s_Words_joined) .none kV7 dc7 pm7 an7 cd7 ct7), sl7⟩) (c7 : PySem.W.codeIn K cd7 "Words.joined" = true) (k7 : PySem.W.keepIn K (.ref f7) = true)
    (a8 : PySem.W.findIn K (.ref C) "word" = some (some (.ref f8))) (i8 : PySem.W.isFn K (.ref f8) = true) (l8 : K.lookup f8 = some ⟨oc8, od8, .func (PySem.W.fnOf "word" "Words.word" (defArgs s_Words_word) (defBody s_Words_word) (defScope s_Words_word) .none kV8 dc8 pm8 an8 cd8 ct8), sl8⟩) (c8 : PySem.W.codeIn K cd8 "Words.word" = true) (k8 : PySem.W.keepIn K (.ref f8) = true)
    (a9 : PySem.W.findIn K (.ref C) "make" = some (some (.ref f9))) (i9 : PySem.W.isFn K (.ref f9) = true) (l9 : K.lookup f9 = some ⟨oc9, od9, .func (PySem.W.fnOf "make" "Words.make" (defArgs s_Words_make) (defBody s_Words_make) (defScope s_Words_make) .none kV9 dc9 pm9 an9 cd9 ct9), sl9⟩) (c9 : PySem.W.codeIn K cd9 "Words.make" = true) (k9 : PySem.W.keepIn K (.ref f9) = true)
    (a10 : PySem.W.findIn K (.ref C) "item" = some (some (.ref f10))) (i10 : PySem.W.isFn K (.ref f10) = true) (l10 : K.lookup f10 = some ⟨oc10, od10, .func (PySem.W.fnOf "item" "Words.item" (defArgs s_Words_item) (defBody s_Words_item) (defScope s_Words_item) .none kV10 dc10 pm10 an10 cd10 ct10), sl10⟩) (c10 : PySem.W.codeIn K cd10 "Words.item" = true) (k10 : PySem.W.keepIn K (.ref f10) = true)
    (a11 : PySem.W.nsIn K mainGlobals "unmet" = some (some (.ref f11))) (l11 : K.lookup f11 = some ⟨oc11, od11, .func (PySem.W.fnOf "unmet" "unmet" (defArgs s_unmet) (defBody s_unmet) (defScope s_unmet) .none kV11 dc11 pm11 an11 cd11 ct11), sl11⟩) (c11 : PySem.W.codeIn K cd11 "unmet" = true) (k11 : PySem.W.keepIn K (.ref f11) = true)
    (a12 : PySem.W.nsIn K mainGlobals "let_answers" = some (some (.ref f12))) (l12 : K.lookup f12 = some ⟨oc12, od12, .func (PySem.W.fnOf "let_answers" "let_answers" (defArgs s_let_answers) (defBody s_let_answers) (defScope s_let_answers) .none kV12 dc12 pm12 an12 cd12 ct12), sl12⟩) (c12 : PySem.W.codeIn K cd12 "let_answers" = true) (k12 : PySem.W.keepIn K (.ref f12) = true)
    (a13 : PySem.W.nsIn K mainGlobals "needs_hold" = some (some (.ref f13))) (l13 : K.lookup f13 = some ⟨oc13, od13, .func (PySem.W.fnOf "needs_hold" "needs_hold" (defArgs s_needs_hold) (defBody s_needs_hold) (defScope s_needs_hold) .none kV13 dc13 pm13 an13 cd13 ct13), sl13⟩) (c13 : PySem.W.codeIn K cd13 "needs_hold" = true) (k13 : PySem.W.keepIn K (.ref f13) = true)
    (a14 : PySem.W.nsIn K mainGlobals "_given" = some (some (.ref f14))) (l14 : K.lookup f14 = some ⟨oc14, od14, .func (PySem.W.fnOf "_given" "_given" (defArgs s__given) (defBody s__given) (defScope s__given) .none kV14 dc14 pm14 an14 cd14 ct14), sl14⟩) (c14 : PySem.W.codeIn K cd14 "_given" = true) (k14 : PySem.W.keepIn K (.ref f14) = true)
    (a15 : PySem.W.nsIn K mainGlobals "outer_cells" = some (some (.ref f15))) (l15 : K.lookup f15 = some ⟨oc15, od15, .func (PySem.W.fnOf "outer_cells" "outer_cells" (defArgs s_outer_cells) (defBody s_outer_cells) (defScope s_outer_cells) .none kV15 dc15 pm15 an15 cd15 ct15), sl15⟩) (c15 : PySem.W.codeIn K cd15 "outer_cells" = true) (k15 : PySem.W.keepIn K (.ref f15) = true)
    (a16 : PySem.W.nsIn K mainGlobals "_law_operands" = some (some (.ref f16))) (l16 : K.lookup f16 = some ⟨oc16, od16, .func (PySem.W.fnOf "_law_operands" "_law_operands" (defArgs s__law_operands) (defBody s__law_operands) (defScope s__law_operands) .none kV16 dc16 pm16 an16 cd16 ct16), sl16⟩) (c16 : PySem.W.codeIn K cd16 "_law_operands" = true) (k16 : PySem.W.keepIn K (.ref f16) = true)
    (a17 : PySem.W.nsIn K mainGlobals "_law_tuples" = some (some (.ref f17))) (l17 : K.lookup f17 = some ⟨oc17, od17, .func (PySem.W.fnOf "_law_tuples" "_law_tuples" (defArgs s__law_tuples) (defBody s__law_tuples) (defScope s__law_tuples) .none kV17 dc17 pm17 an17 cd17 ct17), sl17⟩) (c17 : PySem.W.codeIn K cd17 "_law_tuples" = true) (k17 : PySem.W.keepIn K (.ref f17) = true)
    (a18 : PySem.W.nsIn K mainGlobals "_law_word" = some (some (.ref f18))) (l18 : K.lookup f18 = some ⟨oc18, od18, .func (PySem.W.fnOf "_law_word" "_law_word" (defArgs s__law_word) (defBody s__law_word) (defScope s__law_word) .none kV18 dc18 pm18 an18 cd18 ct18), sl18⟩) (c18 : PySem.W.codeIn K cd18 "_law_word" = true) (k18 : PySem.W.keepIn K (.ref f18) = true)
    (a19 : PySem.W.nsIn K mainGlobals "_law_source" = some (some (.ref f19))) (l19 : K.lookup f19 = some ⟨oc19, od19, .func (PySem.W.fnOf "_law_source" "_law_source" (defArgs s__law_source) (defBody s__law_source) (defScope s__law_source) .none kV19 dc19 pm19 an19 cd19 ct19), sl19⟩) (c19 : PySem.W.codeIn K cd19 "_law_source" = true) (k19 : PySem.W.keepIn K (.ref f19) = true)
    (a20 : PySem.W.nsIn K mainGlobals "_law_digit" = some (some (.ref f20))) (l20 : K.lookup f20 = some ⟨oc20, od20, .func (PySem.W.fnOf "_law_digit" "_law_digit" (defArgs s__law_digit) (defBody s__law_digit) (defScope s__law_digit) .none kV20 dc20 pm20 an20 cd20 ct20), sl20⟩) (c20 : PySem.W.codeIn K cd20 "_law_digit" = true) (k20 : PySem.W.keepIn K (.ref f20) = true)
    (a21 : PySem.W.nsIn K mainGlobals "_law_pick_one" = some (some (.ref f21))) (l21 : K.lookup f21 = some ⟨oc21, od21, .func (PySem.W.fnOf "_law_pick_one" "_law_pick_one" (defArgs s__law_pick_one) (defBody s__law_pick_one) (defScope s__law_pick_one) .none kV21 dc21 pm21 an21 cd21 ct21), sl21⟩) (c21 : PySem.W.codeIn K cd21 "_law_pick_one" = true) (k21 : PySem.W.keepIn K (.ref f21) = true)
    (a22 : PySem.W.nsIn K mainGlobals "_law_label" = some (some (.ref f22))) (l22 : K.lookup f22 = some ⟨oc22, od22, .func (PySem.W.fnOf "_law_label" "_law_label" (defArgs s__law_label) (defBody s__law_label) (defScope s__law_label) .none kV22 dc22 pm22 an22 cd22 ct22), sl22⟩) (c22 : PySem.W.codeIn K cd22 "_law_label" = true) (k22 : PySem.W.keepIn K (.ref f22) = true)
    (a23 : PySem.W.nsIn K mainGlobals "_law_bare" = some (some (.ref f23))) (l23 : K.lookup f23 = some ⟨oc23, od23, .func (PySem.W.fnOf "_law_bare" "_law_bare" (defArgs s__law_bare) (defBody s__law_bare) (defScope s__law_bare) .none kV23 dc23 pm23 an23 cd23 ct23), sl23⟩) (c23 : PySem.W.codeIn K cd23 "_law_bare" = true) (k23 : PySem.W.keepIn K (.ref f23) = true)
    (a24 : PySem.W.nsIn K mainGlobals "_law_leaves" = some (some (.ref f24))) (l24 : K.lookup f24 = some ⟨oc24, od24, .func (PySem.W.fnOf "_law_leaves" "_law_leaves" (defArgs s__law_leaves) (defBody s__law_leaves) (defScope s__law_leaves) .none kV24 dc24 pm24 an24 cd24 ct24), sl24⟩) (c24 : PySem.W.codeIn K cd24 "_law_leaves" = true) (k24 : PySem.W.keepIn K (.ref f24) = true)
    (a25 : PySem.W.nsIn K mainGlobals "_law_kinded" = some (some (.ref f25))) (l25 : K.lookup f25 = some ⟨oc25, od25, .func (PySem.W.fnOf "_law_kinded" "_law_kinded" (defArgs s__law_kinded) (defBody s__law_kinded) (defScope s__law_kinded) .none kV25 dc25 pm25 an25 cd25 ct25), sl25⟩) (c25 : PySem.W.codeIn K cd25 "_law_kinded" = true) (k25 : PySem.W.keepIn K (.ref f25) = true)
    (a26 : PySem.W.nsIn K mainGlobals "_law_typed" = some (some (.ref f26))) (l26 : K.lookup f26 = some ⟨oc26, od26, .func (PySem.W.fnOf "_law_typed" "_law_typed" (defArgs s__law_typed) (defBody s__law_typed) (defScope s__law_typed) .none kV26 dc26 pm26 an26 cd26 ct26), sl26⟩) (c26 : PySem.W.codeIn K cd26 "_law_typed" = true) (k26 : PySem.W.keepIn K (.ref f26) = true)
    (a27 : PySem.W.nsIn K mainGlobals "_law_binary" = some (some (.ref f27))) (l27 : K.lookup f27 = some ⟨oc27, od27, .func (PySem.W.fnOf "_law_binary" "_law_binary" (defArgs s__law_binary) (defBody s__law_binary) (defScope s__law_binary) .none kV27 dc27 pm27 an27 cd27 ct27), sl27⟩) (c27 : PySem.W.codeIn K cd27 "_law_binary" = true) (k27 : PySem.W.keepIn K (.ref f27) = true)
    (a28 : PySem.W.nsIn K mainGlobals "_law_compared" = some (some (.ref f28))) (l28 : K.lookup f28 = some ⟨oc28, od28, .func (PySem.W.fnOf "_law_compared" "_law_compared" (defArgs s__law_compared) (defBody s__law_compared) (defScope s__law_compared) .none kV28 dc28 pm28 an28 cd28 ct28), sl28⟩) (c28 : PySem.W.codeIn K cd28 "_law_compared" = true) (k28 : PySem.W.keepIn K (.ref f28) = true)
    (a29 : PySem.W.nsIn K mainGlobals "_law_salts" = some (some (.ref f29))) (l29 : K.lookup f29 = some ⟨oc29, od29, .func (PySem.W.fnOf "_law_salts" "_law_salts" (defArgs s__law_salts) (defBody s__law_salts) (defScope s__law_salts) .none kV29 dc29 pm29 an29 cd29 ct29), sl29⟩) (c29 : PySem.W.codeIn K cd29 "_law_salts" = true) (k29 : PySem.W.keepIn K (.ref f29) = true)
    (a30 : PySem.W.nsIn K mainGlobals "_law_worth" = some (some (.ref f30))) (l30 : K.lookup f30 = some ⟨oc30, od30, .func (PySem.W.fnOf "_law_worth" "_law_worth" (defArgs s__law_worth) (defBody s__law_worth) (defScope s__law_worth) .none kV30 dc30 pm30 an30 cd30 ct30), sl30⟩) (c30 : PySem.W.codeIn K cd30 "_law_worth" = true) (k30 : PySem.W.keepIn K (.ref f30) = true)
    (a31 : PySem.W.nsIn K mainGlobals "_law_given" = some (some (.ref f31))) (l31 : K.lookup f31 = some ⟨oc31, od31, .func (PySem.W.fnOf "_law_given" "_law_given" (defArgs s__law_given) (defBody s__law_given) (defScope s__law_given) .none kV31 dc31 pm31 an31 cd31 ct31), sl31⟩) (c31 : PySem.W.codeIn K cd31 "_law_given" = true) (k31 : PySem.W.keepIn K (.ref f31) = true)
    (a32 : PySem.W.nsIn K mainGlobals "_law_needed_words" = some (some (.ref f32))) (l32 : K.lookup f32 = some ⟨oc32, od32, .func (PySem.W.fnOf "_law_needed_words" "_law_needed_words" (defArgs s__law_needed_words) (defBody s__law_needed_words) (defScope s__law_needed_words) .none kV32 dc32 pm32 an32 cd32 ct32), sl32⟩) (c32 : PySem.W.codeIn K cd32 "_law_needed_words" = true) (k32 : PySem.W.keepIn K (.ref f32) = true)
    (a33 : PySem.W.nsIn K mainGlobals "_law_unmet_words" = some (some (.ref f33))) (l33 : K.lookup f33 = some ⟨oc33, od33, .func (PySem.W.fnOf "_law_unmet_words" "_law_unmet_words" (defArgs s__law_unmet_words) (defBody s__law_unmet_words) (defScope s__law_unmet_words) .none kV33 dc33 pm33 an33 cd33 ct33), sl33⟩) (c33 : PySem.W.codeIn K cd33 "_law_unmet_words" = true) (k33 : PySem.W.keepIn K (.ref f33) = true)
    (a34 : PySem.W.nsIn K mainGlobals "_law_contracted" = some (some (.ref f34))) (l34 : K.lookup f34 = some ⟨oc34, od34, .func (PySem.W.fnOf "_law_contracted" "_law_contracted" (defArgs s__law_contracted) (defBody s__law_contracted) (defScope s__law_contracted) .none kV34 dc34 pm34 an34 cd34 ct34), sl34⟩) (c34 : PySem.W.codeIn K cd34 "_law_contracted" = true) (k34 : PySem.W.keepIn K (.ref f34) = true)
    (a35 : PySem.W.nsIn K mainGlobals "_law_own_answers" = some (some (.ref f35))) (l35 : K.lookup f35 = some ⟨oc35, od35, .func (PySem.W.fnOf "_law_own_answers" "_law_own_answers" (defArgs s__law_own_answers) (defBody s__law_own_answers) (defScope s__law_own_answers) .none kV35 dc35 pm35 an35 cd35 ct35), sl35⟩) (c35 : PySem.W.codeIn K cd35 "_law_own_answers" = true) (k35 : PySem.W.keepIn K (.ref f35) = true)
    (a36 : PySem.W.nsIn K mainGlobals "_law_plain" = some (some (.ref f36))) (l36 : K.lookup f36 = some ⟨oc36, od36, .func (PySem.W.fnOf "_law_plain" "_law_plain" (defArgs s__law_plain) (defBody s__law_plain) (defScope s__law_plain) .none kV36 dc36 pm36 an36 cd36 ct36), sl36⟩) (c36 : PySem.W.codeIn K cd36 "_law_plain" = true) (k36 : PySem.W.keepIn K (.ref f36) = true)
    (a37 : PySem.W.nsIn K mainGlobals "law" = some (some (.ref f37))) (l37 : K.lookup f37 = some ⟨oc37, od37, .func (PySem.W.fnOf "law" "law" (defArgs s_law) (defBody s_law) (defScope s_law) .none kV37 dc37 pm37 an37 cd37 ct37), sl37⟩) (c37 : PySem.W.codeIn K cd37 "law" = true) (k37 : PySem.W.keepIn K (.ref f37) = true)
    (gaR : PySem.W.nsIn K mainGlobals "RELATIONS" = some (some (.ref aR))) (laR : K.lookup aR = some ⟨.type "tuple", odaR, .seq #[.str "==" taR0, .str "!=" taR1, .str "<" taR2, .str "<=" taR3] naR, slaR⟩)
    (gaN : PySem.W.nsIn K mainGlobals "NOTHING" = some (some (.ref aN))) (laN : K.lookup aN = some ⟨.type "tuple", odaN, .seq #[.int 0 taN0, .none] naN, slaN⟩)
    (z_abs : PySem.W.nsIn K mainGlobals "abs" = some none) (z_any : PySem.W.nsIn K mainGlobals "any" = some none) (z_bool : PySem.W.nsIn K mainGlobals "bool" = some none) (z_int : PySem.W.nsIn K mainGlobals "int" = some none) (z_isinstance : PySem.W.nsIn K mainGlobals "isinstance" = some none) (z_len : PySem.W.nsIn K mainGlobals "len" = some none) (z_list : PySem.W.nsIn K mainGlobals "list" = some none) (z_min : PySem.W.nsIn K mainGlobals "min" = some none) (z_range : PySem.W.nsIn K mainGlobals "range" = some none) (z_str : PySem.W.nsIn K mainGlobals "str" = some none) (z_tuple : PySem.W.nsIn K mainGlobals "tuple" = some none) (z_zip : PySem.W.nsIn K mainGlobals "zip" = some none) :
    ∃ fd : FuncData, (∀ (s : Shared) (v : Value), BindsTo s fd ⟨[v], []⟩ [("_law_script", v)]) ∧ ∀ base : Heap, K.In base → base.Ns mainGlobals mg → FnOk l.prog w K mg base CX0 17 fa fd ["_law_script"] (spLaw K) := by
  have e := hfa.symm.trans (PySem.W.mg_of X G a37)
  cases e
  have T : Tx K mg aR aN := { z_abs := PySem.W.mg_none_of X G z_abs, z_any := PySem.W.mg_none_of X G z_any, z_bool := PySem.W.mg_none_of X G z_bool, z_int := PySem.W.mg_none_of X G z_int, z_isinstance := PySem.W.mg_none_of X G z_isinstance, z_len := PySem.W.mg_none_of X G z_len, z_list := PySem.W.mg_none_of X G z_list, z_min := PySem.W.mg_none_of X G z_min, z_range := PySem.W.mg_none_of X G z_range, z_str := PySem.W.mg_none_of X G z_str, z_tuple := PySem.W.mg_none_of X G z_tuple, z_zip := PySem.W.mg_none_of X G z_zip, g_RELATIONS := PySem.W.mg_of X G gaR, q_RELATIONS := fun H => .inr ⟨_, _, _, laR, rfl, rfl, Nat.le_of_ble_eq_true rfl, .cons ⟨_, rfl⟩ (.cons ⟨_, rfl⟩ (.cons ⟨_, rfl⟩ (.cons ⟨_, rfl⟩ (.nil))))⟩, g_NOTHING := PySem.W.mg_of X G gaN, q_NOTHING := fun H => .inr ⟨_, _, _, laN, rfl, rfl, Nat.le_of_ble_eq_true rfl, .cons ⟨_, rfl⟩ (.cons rfl (.nil))⟩ }
  have cWords : Cls K C := ⟨pgC, hdC, poC, saC⟩
  have m_Words := PySem.W.mg_of X G aCC
  have M_Words : Mk0 K C := ⟨mkC, inC, kcC⟩
  have F0 := fun_mk (st := s_all_words) l0 c0 k0
  have m0 := PySem.W.mg_of X G a0
  have F1 := fun_mk (st := s_result) l1 c1 k1
  have m1 := PySem.W.mg_of X G a1
  have F2 := fun_mk (st := s__of_one) l2 c2 k2
  have m2 := PySem.W.mg_of X G a2
  have F3 := fun_mk (st := s__related) l3 c3 k3
  have m3 := PySem.W.mg_of X G a3
  have F4 := fun_mk (st := s__of_two) l4 c4 k4
  have m4 := PySem.W.mg_of X G a4
  have F5 := fun_mk (st := s__divided) l5 c5 k5
  have m5 := PySem.W.mg_of X G a5
  have F6 := fun_mk (st := s_Words_worth) l6 c6 k6
  have m6 : Meth K C "worth" f6 := ⟨a6, i6, k6⟩
  have F7 := fun_mk (st := s_Words_joined) l7 c7 k7
  have m7 : Meth K C "joined" f7 := ⟨a7, i7, k7⟩
  have F8 := fun_mk (st := s_Words_word) l8 c8 k8
  have m8 : Meth K C "word" f8 := ⟨a8, i8, k8⟩
  have F9 := fun_mk (st := s_Words_make) l9 c9 k9
  have m9 : Meth K C "make" f9 := ⟨a9, i9, k9⟩
  have F10 := fun_mk (st := s_Words_item) l10 c10 k10
  have m10 : Meth K C "item" f10 := ⟨a10, i10, k10⟩
  have F11 := fun_mk (st := s_unmet) l11 c11 k11
  have m11 := PySem.W.mg_of X G a11
  have F12 := fun_mk (st := s_let_answers) l12 c12 k12
  have m12 := PySem.W.mg_of X G a12
  have F13 := fun_mk (st := s_needs_hold) l13 c13 k13
  have m13 := PySem.W.mg_of X G a13
  have F14 := fun_mk (st := s__given) l14 c14 k14
  have m14 := PySem.W.mg_of X G a14
  have F15 := fun_mk (st := s_outer_cells) l15 c15 k15
  have m15 := PySem.W.mg_of X G a15
  have F16 := fun_mk (st := s__law_operands) l16 c16 k16
  have m16 := PySem.W.mg_of X G a16
  have F17 := fun_mk (st := s__law_tuples) l17 c17 k17
  have m17 := PySem.W.mg_of X G a17
  have F18 := fun_mk (st := s__law_word) l18 c18 k18
  have m18 := PySem.W.mg_of X G a18
  have F19 := fun_mk (st := s__law_source) l19 c19 k19
  have m19 := PySem.W.mg_of X G a19
  have F20 := fun_mk (st := s__law_digit) l20 c20 k20
  have m20 := PySem.W.mg_of X G a20
  have F21 := fun_mk (st := s__law_pick_one) l21 c21 k21
  have m21 := PySem.W.mg_of X G a21
  have F22 := fun_mk (st := s__law_label) l22 c22 k22
  have m22 := PySem.W.mg_of X G a22
  have F23 := fun_mk (st := s__law_bare) l23 c23 k23
  have m23 := PySem.W.mg_of X G a23
  have F24 := fun_mk (st := s__law_leaves) l24 c24 k24
  have m24 := PySem.W.mg_of X G a24
  have F25 := fun_mk (st := s__law_kinded) l25 c25 k25
  have m25 := PySem.W.mg_of X G a25
  have F26 := fun_mk (st := s__law_typed) l26 c26 k26
  have m26 := PySem.W.mg_of X G a26
  have F27 := fun_mk (st := s__law_binary) l27 c27 k27
  have m27 := PySem.W.mg_of X G a27
  have F28 := fun_mk (st := s__law_compared) l28 c28 k28
  have m28 := PySem.W.mg_of X G a28
  have F29 := fun_mk (st := s__law_salts) l29 c29 k29
  have m29 := PySem.W.mg_of X G a29
  have F30 := fun_mk (st := s__law_worth) l30 c30 k30
  have m30 := PySem.W.mg_of X G a30
  have F31 := fun_mk (st := s__law_given) l31 c31 k31
  have m31 := PySem.W.mg_of X G a31
  have F32 := fun_mk (st := s__law_needed_words) l32 c32 k32
  have m32 := PySem.W.mg_of X G a32
  have F33 := fun_mk (st := s__law_unmet_words) l33 c33 k33
  have m33 := PySem.W.mg_of X G a33
  have F34 := fun_mk (st := s__law_contracted) l34 c34 k34
  have m34 := PySem.W.mg_of X G a34
  have F35 := fun_mk (st := s__law_own_answers) l35 c35 k35
  have m35 := PySem.W.mg_of X G a35
  have F36 := fun_mk (st := s__law_plain) l36 c36 k36
  have m36 := PySem.W.mg_of X G a36
  have F37 := fun_mk (st := s_law) l37 c37 k37
  have m37 := PySem.W.mg_of X G a37
  refine ⟨PySem.W.fnOf "law" "law" (defArgs s_law) (defBody s_law) (defScope s_law) .none kV37 dc37 pm37 an37 cd37 ct37, fun s v => .of_eq rfl, fun base _ _ => ?_⟩
  have c__divided := cal_of (N := []) m5 F5 (fun _ _ _ _ _ _ us hl => match us, hl with | [_, _, _], _ => rfl) (ok_divided (P := l.prog) (w := w) (base := base) F5)
  have c__of_one := cal_of (N := []) m2 F2 (fun _ _ _ _ _ _ us hl => match us, hl with | [_, _], _ => rfl) (ok_of_one (P := l.prog) (w := w) (base := base) F2)
  have c__related := cal_of (N := []) m3 F3 (fun _ _ _ _ _ _ us hl => match us, hl with | [_, _, _], _ => rfl) (ok_related (P := l.prog) (w := w) (base := base) F3)
  have c__of_two := cal_of (N := []) m4 F4 (fun _ _ _ _ _ _ us hl => match us, hl with | [_, _, _, _], _ => rfl) (ok_of_two (P := l.prog) (w := w) (base := base) F4 c__divided)
  have c_result := (cal_result (P := l.prog) (w := w) (base := base) F1 m1 c__of_one c__related c__of_two T.toTWord).imp (sp' := spG K ufRes) fun _ _ _ _ h => res_g h
  have c_Words_word := calM_of cWords m8 F8 (fun _ _ _ _ _ _ us hl => match us, hl with | [_, _, _], _ => rfl) (ok_word (C := C) (P := l.prog) (w := w) (base := base) F8 T)
  have c_Words_make := calM_of cWords m9 F9 (fun _ _ _ _ _ _ us hl => match us, hl with | [_, _, _, _], _ => rfl) (ok_make (C := C) (P := l.prog) (w := w) (base := base) F9 c_result T)
  have c_Words_joined := calM_of cWords m7 F7 (fun _ _ _ _ _ _ us hl => match us, hl with | [_, _, _], _ => rfl) (ok_joined (C := C) (P := l.prog) (w := w) (base := base) F7 c_Words_word c_Words_make T)
  have c_Words_item := calM_none (P := l.prog) (w := w) (base := base) (mg := mg) (uf := ufItem) (k := 1) (ps := ["self", "array", "index"]) cWords m10 F10 (fun _ _ _ _ _ _ us hl => match us, hl with | [_, _, _], _ => rfl) fun _ _ h => h
  have c_Words_worth := calM_worth (P := l.prog) (w := w) (base := base) cWords m6 F6 c_Words_word c_Words_make c_Words_joined c_Words_item T 8
  have c_all_words := cal_of (N := []) m0 F0 (fun _ _ _ _ _ _ us hl => match us, hl with | [_], _ => rfl) (ok_allw (P := l.prog) (w := w) (base := base) F0 T)
  have c_outer_cells := cal_of (N := []) m15 F15 (fun _ _ _ _ _ _ us hl => match us, hl with | [_, _], _ => rfl) (ok_outer (P := l.prog) (w := w) (base := base) F15 T)
  have c_needs_hold := cal_of (N := []) m13 F13 (fun _ _ _ _ _ _ us hl => match us, hl with | [_, _], _ => rfl) (ok_needs (P := l.prog) (w := w) (base := base) F13 M_Words m_Words c_Words_worth c_outer_cells T)
  have c__given := cal_of (N := []) m14 F14 (fun _ _ _ _ _ _ us hl => match us, hl with | [_, _], _ => rfl) (ok_given (P := l.prog) (w := w) (base := base) F14 M_Words m_Words c_Words_worth c_outer_cells T)
  have c_unmet := cal_of (N := []) m11 F11 (fun _ _ _ _ _ _ us hl => match us, hl with | [_], _ => rfl) (ok_unmet (P := l.prog) (w := w) (base := base) F11 c_all_words c_needs_hold c__given T)
  have c_let_answers := cal_of (N := []) m12 F12 (fun _ _ _ _ _ _ us hl => match us, hl with | [_, _, _], _ => rfl) (ok_let (P := l.prog) (w := w) (base := base) F12 c__given T)
  have c__law_operands := cal_of (N := []) m16 F16 (fun _ _ _ _ _ _ us hl => match us, hl with | [_], _ => rfl) (ok_loperands (P := l.prog) (w := w) (base := base) F16 T)
  have c__law_word := cal_of (N := []) m18 F18 (fun _ _ _ _ _ _ us hl => match us, hl with | [_, _, _], _ => rfl) (ok_lword (P := l.prog) (w := w) (base := base) F18 T)
  have c__law_worth := cal_lworth (P := l.prog) (w := w) (base := base) m30 F30 c__law_operands c__law_word T 8
  have c__law_source := cal_of (N := []) m19 F19 (fun _ _ _ _ _ _ us hl => match us, hl with | [_], _ => rfl) (ok_begin (P := l.prog) (w := w) (base := base) F19 T.toTDraw)
  have c__law_digit := (cal_of (N := []) m20 F20 (fun _ _ _ _ _ _ us hl => match us, hl with | [_, _], _ => rfl) (ok_draw (P := l.prog) (w := w) (base := base) F20 T.toTDraw)).imp (sp' := spG K ufDraw) fun _ _ _ _ h => draw_g h
  have c__law_pick_one := cal_of (N := []) m21 F21 (fun _ _ _ _ _ _ us hl => match us, hl with | [_, _], _ => rfl) (ok_pick (P := l.prog) (w := w) (base := base) F21 c__law_digit T)
  have c__law_salts := cal_of (N := []) m29 F29 (fun _ _ _ _ _ _ us hl => match us, hl with | [_], _ => rfl) (ok_salts (P := l.prog) (w := w) (base := base) F29 c__law_digit T)
  have c__law_label := cal_of (N := []) m22 F22 (fun _ _ _ _ _ _ us hl => match us, hl with | [_, _], _ => rfl) (ok_label (P := l.prog) (w := w) (base := base) F22 T)
  have c__law_bare := cal_of (N := []) m23 F23 (fun _ _ _ _ _ _ us hl => match us, hl with | [_, _], _ => rfl) (ok_bare (P := l.prog) (w := w) (base := base) F23 T)
  have c__law_leaves := cal_of (N := []) m24 F24 (fun _ _ _ _ _ _ us hl => match us, hl with | [_, _], _ => rfl) (ok_leaves (P := l.prog) (w := w) (base := base) F24 T)
  have c__law_kinded := cal_none (P := l.prog) (w := w) (base := base) (uf := ufKinded) (k := 1) m25 F25.kp fun _ _ h => h
  have c__law_binary := PProd.mk m27 F27
  have c__law_compared := PProd.mk m28 F28
  have c__law_typed := cal_typed (P := l.prog) (w := w) (base := base) c__law_binary.1 c__law_compared.1 m26 c__law_binary.2 c__law_compared.2 F26 c__law_digit c__law_pick_one c__law_leaves c__law_kinded T 3
  have c__law_contracted := cal_of (N := []) m34 F34 (fun _ _ _ _ _ _ us hl => match us, hl with | [_, _], _ => rfl) (ok_contract (P := l.prog) (w := w) (base := base) F34 c__law_digit c__law_label c__law_bare c__law_typed T)
  have c__law_tuples := cal_of (N := []) m17 F17 (fun _ _ _ _ _ _ us hl => match us, hl with | [_], _ => rfl) (ok_tuples (P := l.prog) (w := w) (base := base) F17 T)
  have c__law_given := cal_of (N := []) m31 F31 (fun _ _ _ _ _ _ us hl => match us, hl with | [_, _], _ => rfl) (ok_lgiven (P := l.prog) (w := w) (base := base) F31 c__law_worth T)
  have c__law_needed_words := cal_of (N := []) m32 F32 (fun _ _ _ _ _ _ us hl => match us, hl with | [_], _ => rfl) (ok_needed (P := l.prog) (w := w) (base := base) F32 c__law_tuples c__law_worth T)
  have c__law_unmet_words := cal_of (N := []) m33 F33 (fun _ _ _ _ _ _ us hl => match us, hl with | [_], _ => rfl) (ok_unmetw (P := l.prog) (w := w) (base := base) F33 c__law_needed_words c__law_given T)
  have c__law_own_answers := cal_of (N := []) m35 F35 (fun _ _ _ _ _ _ us hl => match us, hl with | [_, _, _], _ => rfl) (ok_own (P := l.prog) (w := w) (base := base) F35 c__law_given T)
  have c__law_plain := cal_of (N := []) m36 F36 (fun _ _ _ _ _ _ us hl => match us, hl with | [_, _], _ => rfl) (ok_plain (P := l.prog) (w := w) (base := base) F36 T)
  exact ok_law F37 c__law_source c__law_digit c__law_salts c__law_contracted c__law_unmet_words c__law_plain c_unmet c__law_needed_words c_let_answers c__law_own_answers c__law_pick_one T
theorem walk {l : PySem.W.OpenLaw} {q : Program} {loose : List Str} {XP : (Str → Option Value) → Heap → Prop} {YP : World → Heap → Prop} {d : DefRec} {K : Params → PySem.W.Frag} (hn : l.most = some 63) (hdf : d.params.defaults = [])
    (hY : ∀ (w : World) (h : Heap), YP w h → (K w.params).In h)
    (F : ∀ (w : World) (mg : Str → Option Value) (fa : Addr) (h : Heap), (K w.params).In h → h.Ns mainGlobals mg → mg d.name = some (.ref fa) →
      ∃ fd : FuncData, (∀ (s : Shared) (u : Value), BindsTo s fd ⟨[u], []⟩ [("_law_script", u)]) ∧ ∀ base : Heap, (K w.params).In base → base.Ns mainGlobals mg → FnOk l.prog w (K w.params) mg base CX0 17 fa fd ["_law_script"] (spLaw (K w.params))) :
    PySem.W.WalkO q loose XP YP l.row.toRowW d [] (fun f vs => PySem.call f vs) :=
  L2.walk_of (n := 63) (k := 17) (x := "_law_script") (CX := fun _ => CX0) (sp := fun w => spLaw (K w.params)) hn (by decide) hdf ⟨rfl, by decide, by decide⟩ hY F (fun _ _ a ns hl _ hS => ⟨a, ns, rfl, hS, hl, fun _ => rfl⟩) fun _ _ _ _ _ z => z
end Zn

open PySem PySem.W PyProof.Rows in
set_option maxRecDepth 100000 in
set_option maxHeartbeats 0 in
theorem PySem.Challenge.cw_metorshut_k13_externals_holds : PySem.Challenge.rw_metorshut_k13_externals.Holds := by
  w_on; o_law; k_head; (case hw => w_witness2)
  k_fill
  refine Zn.walk (l := PySem.Challenge.rw_metorshut_k13_externals) rfl rfl (fun w h Y => PySem.W.kIn_of Y) ?F
  case F =>
    intro w mg fa h KX G hmg
    refine' Zn.all_mk KX G hmg ?aCC ?pgC ?hdC ?poC ?saC ?mkC ?kcC ?inC ?a0 ?l0 ?c0 ?k0 ?a1 ?l1 ?c1 ?k1 ?a2 ?l2 ?c2 ?k2 ?a3 ?l3 ?c3 ?k3 ?a4 ?l4 ?c4 ?k4 ?a5 ?l5 ?c5 ?k5 ?a6 ?i6 ?l6 ?c6 ?k6 ?a7 ?i7 ?l7 ?c7 ?k7 ?a8 ?i8 ?l8 ?c8 ?k8 ?a9 ?i9 ?l9 ?c9 ?k9 ?a10 ?i10 ?l10 ?c10 ?k10 ?a11 ?l11 ?c11 ?k11 ?a12 ?l12 ?c12 ?k12 ?a13 ?l13 ?c13 ?k13 ?a14 ?l14 ?c14 ?k14 ?a15 ?l15 ?c15 ?k15 ?a16 ?l16 ?c16 ?k16 ?a17 ?l17 ?c17 ?k17 ?a18 ?l18 ?c18 ?k18 ?a19 ?l19 ?c19 ?k19 ?a20 ?l20 ?c20 ?k20 ?a21 ?l21 ?c21 ?k21 ?a22 ?l22 ?c22 ?k22 ?a23 ?l23 ?c23 ?k23 ?a24 ?l24 ?c24 ?k24 ?a25 ?l25 ?c25 ?k25 ?a26 ?l26 ?c26 ?k26 ?a27 ?l27 ?c27 ?k27 ?a28 ?l28 ?c28 ?k28 ?a29 ?l29 ?c29 ?k29 ?a30 ?l30 ?c30 ?k30 ?a31 ?l31 ?c31 ?k31 ?a32 ?l32 ?c32 ?k32 ?a33 ?l33 ?c33 ?k33 ?a34 ?l34 ?c34 ?k34 ?a35 ?l35 ?c35 ?k35 ?a36 ?l36 ?c36 ?k36 ?a37 ?l37 ?c37 ?k37 ?gaR ?laR ?gaN ?laN ?z_abs ?z_any ?z_bool ?z_int ?z_isinstance ?z_len ?z_list ?z_min ?z_range ?z_str ?z_tuple ?z_zip
    (case aCC => k_is)
    (case pgC => k_is)
    (case hdC => k_is)
    (case poC => k_is)
    (case saC => k_is)
    (case mkC => k_is)
    (case kcC => k_is)
    (case inC => k_is)
    (case a0 => k_is)
    (case l0 => k_is)
    (case c0 => k_is)
    (case k0 => k_is)
    (case a1 => k_is)
    (case l1 => k_is)
    (case c1 => k_is)
    (case k1 => k_is)
    (case a2 => k_is)
    (case l2 => k_is)
    (case c2 => k_is)
    (case k2 => k_is)
    (case a3 => k_is)
    (case l3 => k_is)
    (case c3 => k_is)
    (case k3 => k_is)
    (case a4 => k_is)
    (case l4 => k_is)
    (case c4 => k_is)
    (case k4 => k_is)
    (case a5 => k_is)
    (case l5 => k_is)
    (case c5 => k_is)
    (case k5 => k_is)
    (case a6 => k_is)
    (case i6 => k_is)
    (case l6 => k_is)
    (case c6 => k_is)
    (case k6 => k_is)
    (case a7 => k_is)
    (case i7 => k_is)
    (case l7 => k_is)
    (case c7 => k_is)
    (case k7 => k_is)
    (case a8 => k_is)
    (case i8 => k_is)
    (case l8 => k_is)
    (case c8 => k_is)
    (case k8 => k_is)
    (case a9 => k_is)
    (case i9 => k_is)
    (case l9 => k_is)
    (case c9 => k_is)
    (case k9 => k_is)
    (case a10 => k_is)
    (case i10 => k_is)
    (case l10 => k_is)
    (case c10 => k_is)
    (case k10 => k_is)
    (case a11 => k_is)
    (case l11 => k_is)
    (case c11 => k_is)
    (case k11 => k_is)
    (case a12 => k_is)
    (case l12 => k_is)
    (case c12 => k_is)
    (case k12 => k_is)
    (case a13 => k_is)
    (case l13 => k_is)
    (case c13 => k_is)
    (case k13 => k_is)
    (case a14 => k_is)
    (case l14 => k_is)
    (case c14 => k_is)
    (case k14 => k_is)
    (case a15 => k_is)
    (case l15 => k_is)
    (case c15 => k_is)
    (case k15 => k_is)
    (case a16 => k_is)
    (case l16 => k_is)
    (case c16 => k_is)
    (case k16 => k_is)
    (case a17 => k_is)
    (case l17 => k_is)
    (case c17 => k_is)
    (case k17 => k_is)
    (case a18 => k_is)
    (case l18 => k_is)
    (case c18 => k_is)
    (case k18 => k_is)
    (case a19 => k_is)
    (case l19 => k_is)
    (case c19 => k_is)
    (case k19 => k_is)
    (case a20 => k_is)
    (case l20 => k_is)
    (case c20 => k_is)
    (case k20 => k_is)
    (case a21 => k_is)
    (case l21 => k_is)
    (case c21 => k_is)
    (case k21 => k_is)
    (case a22 => k_is)
    (case l22 => k_is)
    (case c22 => k_is)
    (case k22 => k_is)
    (case a23 => k_is)
    (case l23 => k_is)
    (case c23 => k_is)
    (case k23 => k_is)
    (case a24 => k_is)
    (case l24 => k_is)
    (case c24 => k_is)
    (case k24 => k_is)
    (case a25 => k_is)
    (case l25 => k_is)
    (case c25 => k_is)
    (case k25 => k_is)
    (case a26 => k_is)
    (case l26 => k_is)
    (case c26 => k_is)
    (case k26 => k_is)
    (case a27 => k_is)
    (case l27 => k_is)
    (case c27 => k_is)
    (case k27 => k_is)
    (case a28 => k_is)
    (case l28 => k_is)
    (case c28 => k_is)
    (case k28 => k_is)
    (case a29 => k_is)
    (case l29 => k_is)
    (case c29 => k_is)
    (case k29 => k_is)
    (case a30 => k_is)
    (case l30 => k_is)
    (case c30 => k_is)
    (case k30 => k_is)
    (case a31 => k_is)
    (case l31 => k_is)
    (case c31 => k_is)
    (case k31 => k_is)
    (case a32 => k_is)
    (case l32 => k_is)
    (case c32 => k_is)
    (case k32 => k_is)
    (case a33 => k_is)
    (case l33 => k_is)
    (case c33 => k_is)
    (case k33 => k_is)
    (case a34 => k_is)
    (case l34 => k_is)
    (case c34 => k_is)
    (case k34 => k_is)
    (case a35 => k_is)
    (case l35 => k_is)
    (case c35 => k_is)
    (case k35 => k_is)
    (case a36 => k_is)
    (case l36 => k_is)
    (case c36 => k_is)
    (case k36 => k_is)
    (case a37 => k_is)
    (case l37 => k_is)
    (case c37 => k_is)
    (case k37 => k_is)
    (case gaR => k_is)
    (case laR => k_is)
    (case gaN => k_is)
    (case laN => k_is)
    (case z_abs => k_is)
    (case z_any => k_is)
    (case z_bool => k_is)
    (case z_int => k_is)
    (case z_isinstance => k_is)
    (case z_len => k_is)
    (case z_list => k_is)
    (case z_min => k_is)
    (case z_range => k_is)
    (case z_str => k_is)
    (case z_tuple => k_is)
    (case z_zip => k_is)
