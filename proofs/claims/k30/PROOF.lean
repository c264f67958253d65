import PyProof.Rows.All
import Wide.All
import OpenK.AllK
import Wide.FinOn
import HandS.ForMost
import HandS.More
import HandS.Star
import HandS.IsInst
import HandS.TupAny
import HandS.Text
import HandS.Iter
import HandS.Zip
import HandS.Walk
import HandS.Conv
import HandS.RevTup
import HandS.Rev
import HandS.Deep
import HandS.Defaults
import PySem.Challenge.RW_metorshut_k30_values
set_option Elab.async false
set_option linter.all false
set_option maxRecDepth 100000
set_option maxHeartbeats 4000000
/-! my own layer over the modules: what a reading asks, taken step by step; callees by name -/
namespace Zn
open PySem PySem.Spec PyProof.Rows L2

section
variable {σ : L2.St} {H : Hp} {K : PySem.W.Frag} {Q : VK} {ta tb te tl : TE} {t u c : TT} {D : Ends} {t1 t2 : TS} {g : TG} {i : Nat} {v x y : V} {r : R2} {tr : TA}
theorem r_var (h : σ[i]? = some (some v)) (q : Q v H) : tVar i σ H Q := ⟨v, h, q⟩
theorem r_c (q : Q v H) : tC v σ H Q := q
theorem r_op (q : ta σ H fun x H1 => tb σ H1 fun y H2 => r x y H2 Q) : tOp r ta tb σ H Q := q
theorem r_un {f : V → Hp → VK → Prop} (q : ta σ H fun x H1 => f x H1 Q) : tUn f ta σ H Q := q
theorem r_test {Q : Bool → Hp → Prop} (q : te σ H fun x H' => ∃ k, x = .bl k ∧ Q k H') : tTest te σ H Q := q
theorem r_B {Q : Bool → Hp → Prop} (q : te σ H fun x H' => ∃ k, x = .bl k ∧ Q k H') : tB te σ H Q := q
theorem r_bl {b : Bool} {R : Bool → Prop} (q : R b) : ∃ k, V.bl b = V.bl k ∧ R k := ⟨b, rfl, q⟩
theorem r_I0 {g : Int → Int → V} {i j : Int} (q : Q (g i j) H) : rI0 g (.int i) (.int j) H Q := ⟨i, j, rfl, rfl, q⟩
theorem r_I {C : Int → Int → Prop} {g : Int → Int → V} {i j : Int} (h : C i j) (q : Q (g i j) H) : rI C g (.int i) (.int j) H Q := ⟨i, j, rfl, rfl, h, q⟩
theorem r_U {g : Int → V} {i : Int} (q : Q (g i) H) : rU g (.int i) H Q := ⟨i, rfl, q⟩
theorem r_ipI {f : Int → Int → Int} {i j : Int} (q : Q (.int (f i j)) H) : ipI f (.int i) (.int j) H Q := ⟨i, j, rfl, rfl, q⟩
theorem r_eq (h : scal x y = true) (q : Q (.bl (decide (x = y))) H) : rEq x y H Q := ⟨h, q⟩
theorem r_ne (h : scal x y = true) (q : Q (.bl (!decide (x = y))) H) : rNe x y H Q := ⟨h, q⟩
theorem r_seq (q : t1 { D with nx := t2 D } σ H) : tSeq t1 t2 D σ H := q
theorem r_asg (q : te σ H fun x H1 => g x σ H1 D.nx) : tAsg te g D σ H := q
theorem r_gname {Q : L2.St → Hp → Prop} (q : Q (σ.set i (some v)) H) : gName i v σ H Q := q
theorem r_gsub {to ti : TE} {s : TSet} {Q : L2.St → Hp → Prop} (q : to σ H fun o H1 => ti σ H1 fun i H2 => s o i v H2 fun H3 => Q σ H3) : gSub to ti s v σ H Q := q
theorem r_setL {p : Addr} {xs : List V} {k : Int} {j : Nat} {Q : Hp → Prop} (h : H p = some (.lst xs)) (e : ixN xs.length k = some j) (q : Q (upd H p (.lst (xs.set j v)))) : rSetL (.ref p) (.int k) v H Q := ⟨p, xs, k, j, rfl, rfl, h, e, q⟩
theorem r_ret (q : te σ H D.rt) : tRet te D σ H := q
theorem r_next (q : D.nx σ H) : tNext D σ H := q
theorem r_drop (q : te σ H fun _ H1 => D.nx σ H1) : tDrop te D σ H := q
theorem r_ifs (q : c σ H fun b H1 => if b = true then t1 D σ H1 else t2 D σ H1) : tIfS c t1 t2 D σ H := q
theorem r_if (q : t σ H fun c H1 => if c = true then ta σ H1 Q else tb σ H1 Q) : tIf t ta tb σ H Q := q
theorem r_cons {Q : List V → Hp → Prop} (q : ta σ H fun x H1 => tr σ H1 fun xs H2 => Q (x :: xs) H2) : tCons ta tr σ H Q := q
theorem r_nil {Q : List V → Hp → Prop} (q : Q [] H) : tNil σ H Q := q
theorem r_CB {f : List V → Hp → VK → Prop} (q : tr σ H fun vs H1 => f vs H1 Q) : tCB f tr σ H Q := q
theorem r_and {Q : Bool → Hp → Prop} (q : t σ H fun c H1 => if c = true then u σ H1 Q else Q false H1) : tAnd t u σ H Q := q
theorem r_or {Q : Bool → Hp → Prop} (q : t σ H fun c H1 => if c = true then Q true H1 else u σ H1 Q) : tOr t u σ H Q := q
theorem r_not {Q : Bool → Hp → Prop} (q : t σ H fun c H1 => Q (!c) H1) : tNot t σ H Q := q
theorem r_notV {b : Bool} (q : ta σ H fun x H1 => ∃ c, x = .bl c ∧ Q (.bl (!c)) H1) : tNotV ta σ H Q := q
theorem r_andV (q : ta σ H fun x H1 => ∃ c, x = .bl c ∧ if c = true then tb σ H1 Q else Q (.bl false) H1) : tAndV ta tb σ H Q := q
theorem r_orV (q : ta σ H fun x H1 => ∃ c, x = .bl c ∧ if c = true then Q (.bl true) H1 else tb σ H1 Q) : tOrV ta tb σ H Q := q
theorem r_notV' (q : ta σ H fun x H1 => ∃ c, x = .bl c ∧ Q (.bl (!c)) H1) : tNotV ta σ H Q := q
theorem r_ixL {p : Addr} {xs : List V} {i : Int} (h : SqL K H p xs) (e : atI xs i = some v) (q : Q v H) : rIxL K (.ref p) (.int i) H Q := ⟨p, xs, i, v, rfl, rfl, h, e, q⟩
theorem r_ixT {p : Addr} {xs : List V} {i : Int} (h : SqT K H p xs) (e : atI xs i = some v) (q : Q v H) : rIxT K (.ref p) (.int i) H Q := ⟨p, xs, i, v, rfl, rfl, h, e, q⟩
theorem r_in {neg : Bool} {p : Addr} {xs : List V} (h : SqL K H p xs ∨ SqT K H p xs) (e1 : flatV x = true) (e2 : xs.all flatV = true) (q : Q (.bl (if neg then !inV x xs else inV x xs)) H) : rIn K neg x (.ref p) H Q := ⟨p, xs, rfl, h, e1, e2, q⟩
theorem r_tup {xs : List V} {R : VK} (h : xs.length ≤ sizeLine) (q : ∀ p, H p = none → R (.ref p) (upd H p (.tup xs))) : xs.length ≤ sizeLine ∧ ∀ p, H p = none → R (.ref p) (upd H p (.tup xs)) := ⟨h, q⟩
theorem r_tTup (q : tr σ H fun xs H1 => xs.length ≤ sizeLine ∧ ∀ p, H1 p = none → Q (.ref p) (upd H1 p (.tup xs))) : tTup tr σ H Q := q
theorem r_tLst (q : tr σ H fun xs H1 => xs.length ≤ sizeLine ∧ ∀ p, H1 p = none → Q (.ref p) (upd H1 p (.lst xs))) : tLst tr σ H Q := q
theorem r_one {i : Int} {R : Int → Prop} (q : R i) : ∃ j, [V.int i] = [V.int j] ∧ R j := ⟨i, rfl, q⟩
theorem r_int1 {i : Int} {R : Int → Prop} {B : Bool → Prop} (q : R i) : (∃ j, [V.int i] = [V.int j] ∧ R j) ∨ ∃ k, [V.int i] = [V.bl k] ∧ B k := .inl ⟨i, rfl, q⟩
theorem r_int1b {b : Bool} {R : Int → Prop} {B : Bool → Prop} (q : B b) : (∃ j, [V.bl b] = [V.int j] ∧ R j) ∨ ∃ k, [V.bl b] = [V.bl k] ∧ B k := .inr ⟨b, rfl, q⟩
theorem r_aug {ti : TIp} (h : σ[i]? = some (some v)) (q : te σ H fun y H1 => ti v y H1 fun z H2 => D.nx (σ.set i (some z)) H2) : tAug i te ti D σ H := ⟨v, h, q⟩
theorem r_augS {to ti : TE} {tget : V → V → Hp → VK → Prop} {tip : TIp} {tset : TSet} (q : to σ H fun o H1 => ti σ H1 fun i H2 => tget o i H2 fun x H3 => te σ H3 fun y H4 => tip x y H4 fun z H5 => tset o i z H5 fun H6 => D.nx σ H6) : tAugS to ti te tget tip tset D σ H := q
theorem r_BM {T : String} {f : V → List V → Hp → VK → Prop} (q : ta σ H fun x H1 => tyV K T x H1 ∧ tr σ H1 fun xs H2 => f x xs H2 Q) : tBM K T f ta tr σ H Q := q
theorem r_BM0 {T : String} {f : V → List V → Hp → VK → Prop} (q : ta σ H fun x H1 => tyV K T x H1 ∧ f x [] H1 Q) : tBM0 K T f ta σ H Q := q
theorem r_tupd {a : Addr} {xs : List V} {n : Nat} {ts : TGs} {Q : L2.St → Hp → Prop} (h : SqT K H a xs) (e : xs.length = n) (q : ts xs σ H Q) : gTup K n ts (.ref a) σ H Q := ⟨a, xs, rfl, h, e, q⟩
theorem r_gcons {ts : TGs} {vs : List V} {Q : L2.St → Hp → Prop} (q : g v σ H fun σ' H' => ts vs σ' H' Q) : gCons g ts (v :: vs) σ H Q := ⟨v, vs, rfl, q⟩
theorem r_gnil {Q : L2.St → Hp → Prop} (q : Q σ H) : gNil [] σ H Q := ⟨rfl, q⟩
theorem r_par {j : Nat} {ta : TA} (q : ta σ H fun vs H1 => ∃ v w, vs = [v, w] ∧ D.nx ((σ.set i (some v)).set j (some w)) H1) : tPar i j ta D σ H := q
theorem r_len {p : Addr} {xs : List V} {R : List V → Prop} (h : SqL K H p xs ∨ SqT K H p xs) (q : R xs) : ∃ p' ys, [V.ref p] = [V.ref p'] ∧ (SqL K H p' ys ∨ SqT K H p' ys) ∧ R ys := ⟨p, xs, rfl, h, q⟩
theorem r_yes {Q : Bool → Hp → Prop} (q : Q true H) : tYes σ H Q := q
theorem sl_of {a : Addr} {xs : List V} (h : H a = some (.lst xs)) : SqL K H a xs := .inl (.inl h)
theorem st_of {a : Addr} {xs : List V} (h : H a = some (.tup xs)) : SqT K H a xs := .inl (.inl h)
end
theorem same_new' {H : Hp} {p : Addr} {o : HO} (h : H p = none) : Same H (upd H p o) := fun b x e => by
  rw [upd_ne (ne_of_none e h)]
  exact e
theorem r_iteT {c : Prop} [Decidable c] {A B : Prop} (h : c) (q : A) : if c then A else B := by
  rw [if_pos h]
  exact q
theorem r_iteF {c : Prop} [Decidable c] {A B : Prop} (h : ¬ c) (q : B) : if c then A else B := by
  rw [if_neg h]
  exact q
section
variable {σ : L2.St} {H : Hp} {K : PySem.W.Frag} {Q : VK} {ta tb te tl : TE} {t u c : TT} {D : Ends} {t1 t2 : TS} {g : TG} {i : Nat} {v x y : V} {r : R2} {tr : TA}
theorem r_tupN {xs : List V} {R : V → Hp → Prop} (h : xs.length ≤ sizeLine) (q : ∀ p, H p = none → R (.ref p) (upd H p (.tup xs))) : xs.length ≤ sizeLine ∧ ∀ p, H p = none → R (.ref p) (upd H p (.tup xs)) := ⟨h, q⟩
theorem r_two {v w : V} {R : V → V → Prop} (q : R v w) : ∃ a b, [v, w] = [a, b] ∧ R a b := ⟨v, w, rfl, q⟩
theorem r_twoI {i j : Int} {R : Int → Int → Prop} (q : R i j) : ∃ a b, [V.int i, V.int j] = [V.int a, V.int b] ∧ R a b := ⟨i, j, rfl, q⟩
theorem r_for {wi : TI} {tb : TS} (q : wi σ H fun J H1 => ∃ W : Nat → Nat → L2.St → Hp → Prop, (∃ m, W 0 m σ H1) ∧ ∀ i m σ H, W i m σ H → (J.stop i H ∧ D.nx σ H) ∨ (J.go i H ∧ ∃ N : L2.St → Hp → Prop, (∀ σ' H', N σ' H' → ∃ m', m' < m ∧ W (i + 1) m' σ' H') ∧ ∀ x H', J.yld i H x H' → g x σ H' fun σ2 H2 => tb { D with nx := N, ct := N, bk := D.nx } σ2 H2)) : tFor wi g tb D σ H := q
theorem r_rng1 {R : It → Hp → Prop} (q : tr σ H fun vs H1 => ∃ j : Int, vs = [.int j] ∧ -(2 ^ 62) ≤ j ∧ j < 2 ^ 62 ∧ R (Itr 0 j.toNat) H1) : iRng1 tr σ H R := q
theorem r_rng {j : Int} {R : Int → Prop} (h1 : -(2 ^ 62) ≤ j) (h2 : j < 2 ^ 62) (q : R j) : ∃ k : Int, [V.int j] = [V.int k] ∧ -(2 ^ 62) ≤ k ∧ k < 2 ^ 62 ∧ R k := ⟨j, rfl, h1, h2, q⟩
theorem r_lc {wi : TI} {te : TE} {vs : List Nat}
    (q : wi σ H fun J H1 => ∀ A, H1 A = none → ∃ Z : Nat → Nat → Hp → Prop, (∃ m, Z 0 m (upd H1 A (.lst [])))
      ∧ ∀ j m H, Z j m H → (J.stop j H ∧ Q (.ref A) H)
        ∨ (J.go j H ∧ ∃ Y : Hp → Prop, (∀ H', Y H' → ∃ m', m' < m ∧ Z (j + 1) m' H')
          ∧ ∀ x H', J.yld j H x H' → g x (wipe σ vs) H' fun σ2 H2 => wipe σ2 vs = wipe σ vs
            ∧ t σ2 H2 fun b H3 =>
              if b = true then te σ2 H3 fun y H4 => ∃ l, H4 A = some (.lst l) ∧ l.length < sizeLine ∧ Y (upd H4 A (.lst (l ++ [y])))
              else Y H3)) : tLc wi g t te vs σ H Q := q
theorem r_ilist {R : It → Hp → Prop} (q : tl σ H fun x H1 => ∃ a, x = .ref a ∧ (∃ xs, SqL K H1 a xs) ∧ R (Itl K a) H1) : iList K tl σ H R := q
theorem r_itup {R : It → Hp → Prop} (q : tl σ H fun x H1 => ∃ a, x = .ref a ∧ (∃ xs, SqT K H1 a xs) ∧ R (Itt K a) H1) : iTup K tl σ H R := q
theorem r_ref {p : Addr} {A R : Addr → Prop} (h : A p) (q : R p) : ∃ a, V.ref p = V.ref a ∧ A a ∧ R a := ⟨p, rfl, h, q⟩
theorem r_tyL {p : Addr} {xs : List V} {R : Prop} (h : SqL K H p xs) (q : R) : tyV K "list" (.ref p) H ∧ R := ⟨.inl ⟨rfl, _, h⟩, q⟩
theorem r_tyS {s : Str} {R : Prop} (q : R) : tyV K "str" (.str s) H ∧ R := ⟨rfl, q⟩
theorem r_append {p : Addr} {xs : List V} {y : V} (h : H p = some (.lst xs)) (e : xs.length < sizeLine) (q : Q .non (upd H p (.lst (xs ++ [y])))) : rAppend (.ref p) [y] H Q := ⟨p, xs, y, rfl, rfl, h, e, q⟩
theorem r_extend {p b : Addr} {xs zs : List V} (h : H p = some (.lst xs)) (hb : H b = some (.lst zs)) (e : xs.length + zs.length ≤ sizeLine) (q : Q .non (upd H p (.lst (xs ++ zs)))) : rExtend (.ref p) [.ref b] H Q := ⟨p, b, xs, zs, rfl, rfl, h, hb, e, q⟩
theorem r_popAt {p : Addr} {xs : List V} {i : Int} {y : V} (h : H p = some (.lst xs)) (h0 : 0 ≤ i) (h1 : i < (xs.length : Int)) (h2 : xs.length ≤ 1000000) (hy : xs[i.toNat]? = some y) (q : Q y (upd H p (.lst (xs.eraseIdx i.toNat)))) : rPopAt (.ref p) [.int i] H Q :=
  ⟨p, xs, i, i.toNat, y, rfl, rfl, h, by omega, by omega, seqIndex_of h0 h1, hy, q⟩
theorem r_cat {p b : Addr} {xs zs : List V} (h : H p = some (.lst xs)) (hb : H b = some (.lst zs)) (e : xs.length + zs.length ≤ sizeLine) (q : ∀ c, H c = none → Q (.ref c) (upd H c (.lst (xs ++ zs)))) : rCat (.ref p) (.ref b) H Q := ⟨p, b, xs, zs, rfl, rfl, h, hb, e, q⟩
theorem r_isi {x c : V} {t u : Value} {b : Bool} (hc : ClsV c u) (ht : TyX K H x t) (hk : PySem.W.kitOne K t u = some b) (q : Q (.bl b) H) : rIsi K [x, c] H Q := ⟨x, c, t, u, b, rfl, hc, ht, hk, q⟩
theorem r_catA {p b : Addr} {xs ys : List V} (h1 : SqT K H p xs) (h2 : SqT K H b ys) (q : rCatA K (.ref p) (.ref b) H Q) : rCatA K (.ref p) (.ref b) H Q := q
theorem at_new {p a : Addr} {o u : HO} (hp : H p = none) (h : H a = some u) : upd H p o a = some u := same_new' hp _ _ h
theorem r_listOf {p : Addr} {xs : List V} {R : V → Hp → Prop} (h : SqL K H p xs ∨ SqT K H p xs) (q : ∀ l, H l = none → R (.ref l) (upd H l (.lst xs))) : ∃ p' ys, [V.ref p] = [V.ref p'] ∧ (SqL K H p' ys ∨ SqT K H p' ys) ∧ ∀ l, H l = none → R (.ref l) (upd H l (.lst ys)) := ⟨p, xs, rfl, h, q⟩
theorem r_slL {p : Addr} {xs : List V} {lo hi : Option Int} (h : SqL K H p xs) (q : ∀ l, H l = none → Q (.ref l) (upd H l (.lst (cutV xs lo hi)))) : rSlL K (.ref p) lo hi H Q := ⟨p, xs, rfl, h, q⟩
theorem r_sl {f : V → Option Int → Option Int → Hp → VK → Prop} {tlo thi : TO} (q : te σ H fun x H1 => tlo σ H1 fun l H2 => thi σ H2 fun u H3 => f x l u H3 Q) : tSl f te tlo thi σ H Q := q
theorem r_noP {Q : Option Int → Hp → Prop} (q : Q none H) : tNoPart σ H Q := q
theorem r_part {Q : Option Int → Hp → Prop} (q : te σ H fun x H1 => ∃ i, x = .int i ∧ Q (some i) H1) : tPart te σ H Q := q
theorem r_eI {i : Int} {R : Int → Prop} (q : R i) : ∃ j, V.int i = V.int j ∧ R j := ⟨i, rfl, q⟩
end
theorem len_ok {n : Nat} (h : n ≤ 100000) : n ≤ sizeLine := Nat.le_trans h (by decide)
theorem r_al {n : Nat} {H : Hp} {R : Addr → Prop} (h : n ≤ sizeLine) (q : ∀ p, H p = none → R p) : n ≤ sizeLine ∧ ∀ p, H p = none → R p := ⟨h, q⟩
theorem pow2_pos (n : Nat) : (0 : Int) < 1 * 2 ^ n := by
  rw [Int.one_mul]
  exact Int.pow_pos (by decide)
theorem mulR {i j : Int} (h1 : -(2 ^ 64) < j) (h2 : j < 2 ^ 64) : CMul i j := .inr ⟨h1, h2⟩
theorem mulL {i j : Int} (h1 : -(2 ^ 64) < i) (h2 : i < 2 ^ 64) : CMul i j := .inl ⟨h1, h2⟩

/-! ### loops, what follows and what is handed back told apart -/
section
variable {K : PySem.W.Frag} {a : Addr} {xs : List V} {g : TG} {tb : TS} {nx : L2.St → Hp → Prop} {rt : VK} {σ : L2.St} {H : Hp}
theorem fl (Pv : Nat → L2.St → Hp → Prop) (h0 : Pv 0 σ H) (hl : ∀ i σ H, i ≤ xs.length → Pv i σ H → SqL K H a xs)
    (hs : ∀ i x σ H, xs[i]? = some x → Pv i σ H → g x σ H fun σ2 H2 => tb { nx := Pv (i + 1), rt := rt, bk := nx, ct := Pv (i + 1) } σ2 H2) (hd : ∀ σ H, Pv xs.length σ H → nx σ H) :
    ∃ W : Nat → Nat → L2.St → Hp → Prop, (∃ m, W 0 m σ H) ∧ ∀ i m σ H, W i m σ H →
      ((Itl K a).stop i H ∧ nx σ H) ∨ ((Itl K a).go i H ∧ ∃ N : L2.St → Hp → Prop, (∀ σ' H', N σ' H' → ∃ m', m' < m ∧ W (i + 1) m' σ' H') ∧ ∀ x H', (Itl K a).yld i H x H' → g x σ H' fun σ2 H2 => tb { nx := N, rt := rt, bk := nx, ct := N } σ2 H2) :=
  for_list (D := { nx := nx, rt := rt, bk := nx, ct := nx }) Pv h0 hl hs hd
theorem ft (Pv : Nat → L2.St → Hp → Prop) (h0 : Pv 0 σ H) (hl : ∀ i σ H, i ≤ xs.length → Pv i σ H → SqT K H a xs)
    (hs : ∀ i x σ H, xs[i]? = some x → Pv i σ H → g x σ H fun σ2 H2 => tb { nx := Pv (i + 1), rt := rt, bk := nx, ct := Pv (i + 1) } σ2 H2) (hd : ∀ σ H, Pv xs.length σ H → nx σ H) :
    ∃ W : Nat → Nat → L2.St → Hp → Prop, (∃ m, W 0 m σ H) ∧ ∀ i m σ H, W i m σ H →
      ((Itt K a).stop i H ∧ nx σ H) ∨ ((Itt K a).go i H ∧ ∃ N : L2.St → Hp → Prop, (∀ σ' H', N σ' H' → ∃ m', m' < m ∧ W (i + 1) m' σ' H') ∧ ∀ x H', (Itt K a).yld i H x H' → g x σ H' fun σ2 H2 => tb { nx := N, rt := rt, bk := nx, ct := N } σ2 H2) :=
  for_tup (D := { nx := nx, rt := rt, bk := nx, ct := nx }) Pv h0 hl hs hd
theorem fr {lo : Int} {n : Nat} (Pv : Nat → L2.St → Hp → Prop) (h0 : Pv 0 σ H)
    (hs : ∀ i σ H, i < n → Pv i σ H → g (.int (lo + i)) σ H fun σ2 H2 => tb { nx := Pv (i + 1), rt := rt, bk := nx, ct := Pv (i + 1) } σ2 H2) (hd : ∀ σ H, Pv n σ H → nx σ H) :
    ∃ W : Nat → Nat → L2.St → Hp → Prop, (∃ m, W 0 m σ H) ∧ ∀ i m σ H, W i m σ H →
      ((Itr lo n).stop i H ∧ nx σ H) ∨ ((Itr lo n).go i H ∧ ∃ N : L2.St → Hp → Prop, (∀ σ' H', N σ' H' → ∃ m', m' < m ∧ W (i + 1) m' σ' H') ∧ ∀ x H', (Itr lo n).yld i H x H' → g x σ H' fun σ2 H2 => tb { nx := N, rt := rt, bk := nx, ct := N } σ2 H2) :=
  for_range (D := { nx := nx, rt := rt, bk := nx, ct := nx }) Pv h0 hs hd
end
/-! ### lists of any values read by a written place -/
theorem atI_lt {xs : List V} {i : Int} {v : V} {j : Nat} (e : i = (j : Int)) (h : xs[j]? = some v) : atI xs i = some v := by
  rw [e]
  exact atI_nat h
/-- o[i] of a list, for o[i] op= e -/
theorem pget_list {X : Cx} : PGet X (rIxL X.K) := by
  intro pins s σ H o i ov iv Q I ro ri h
  obtain ⟨p, xs, k, z, rfl, rfl, hq, he, q⟩ := h
  cases ro
  obtain ⟨t, rfl⟩ := ri
  obtain ⟨its, r, pl, hz⟩ := I.list hq
  obtain ⟨j, h1, h2, h3, h4, h5⟩ := atI_get he
  obtain ⟨w, ew, rw'⟩ := r.get h2
  have hl := r.length
  have hn := line63
  have fin : EP X pins σ Q w s := ⟨z, H, I, rw', q⟩
  by_cases h0 : 0 ≤ k
  · have hj : k.toNat = j := by
      rw [seqIndex_of h0 h5] at h1
      exact Option.some.inj h1
    exact wpAny_getItem_list pl.isList h0 (by omega) (by rw [hj]; simpa using ew) fin
  · have hj : (k + (its.toArray.size : Int)).toNat = j := by
      rw [seqIndex_neg (by omega) h4] at h1
      rw [List.size_toArray, ← hl]
      exact Option.some.inj h1
    exact wpAny_getItem_list_neg pl.isList (by omega) (by rw [List.size_toArray] <;> omega) (by omega) (by rw [hj]; simpa using ew) fin

/-! ### a def of the module, by its name -/
def Cal (P : Program) (w : World) (K : PySem.W.Frag) (mg : Str → Option Value) (base : Heap) (x : Str) (k : Nat) (sp : Sp) : Prop :=
  ∃ f, mg x = some (.ref f) ∧ FnR P w K mg base CX0 k f sp ∧ PySem.W.keepIn K (.ref f) = true
section
variable {P : Program} {w : World} {K : PySem.W.Frag} {mg : Str → Option Value} {base : Heap}
def tCal (sp : Sp) (t : TA) : TE := fun σ H Q => t σ H fun vs H1 => sp vs H1 Q E0
theorem pe_cal {X : Cx} {x : Str} {k : Nat} {sp : Sp} {e : Expr} {es : List Expr} {t : TA} {p pos : Pos} (C : Cal X.prog X.w X.K X.mg X.base x k sp) (hr : Room k X.A) (hg : Gl X x) (ha : PA X (e :: es) t)
    (hdb : (x == ("__debug__" : Str)) = false := by decide) (he : starEach (e :: es) X.env = (false, eval e X.env) :: starEach es X.env := by rfl)
    (hpl : (backTo pos (starEach es X.env)).any (·.1) = false := by rfl) : PE X (.Call (.Name x p) (e :: es) [] pos) (tCal sp t) := by
  obtain ⟨f, hm, F, hk⟩ := C
  refine ⟨fun pins s σ H Q I h => ?_⟩
  refine wpAny_Call_Name_kw (ld_glob I hg hm ?_ hdb)
  refine PySem.W.callWith_K (h₀ := X.base) I.ok.mod.kin hk (thn (ha.run pos pins s σ H _ I h) fun us s1 ⟨vs, H1, I1, r, q⟩ => ⟨I1.kIn, ?_⟩) he hpl
  exact wpAny_call (run_fnR F hr pass0 I1 r q)
theorem pe_cal0 {X : Cx} {x : Str} {k : Nat} {sp : Sp} {p pos : Pos} (C : Cal X.prog X.w X.K X.mg X.base x k sp) (hr : Room k X.A) (hg : Gl X x)
    (hdb : (x == ("__debug__" : Str)) = false := by decide) : PE X (.Call (.Name x p) [] [] pos) (tCal sp tNil) := by
  obtain ⟨f, hm, F, hk⟩ := C
  refine ⟨fun pins s σ H Q I h => ?_⟩
  refine wpAny_Call_Name_kw (ld_glob I hg hm ?_ hdb)
  exact PySem.W.callWith_K0 I.kIn hk (wpAny_call (run_fnR (us := []) F hr pass0 I .nil h))
theorem r_cal {sp : Sp} {t : TA} {σ : L2.St} {H : Hp} {Q : VK} (q : t σ H fun vs H1 => sp vs H1 Q E0) : tCal sp t σ H Q := q
/-- from a def of the text to its call -/
theorem cal_of {x : Str} {st : Stmt} {f : Addr} {fd : FuncData} {N ps : List Str} {k : Nat} {sp : Sp} (hm : mg x = some (.ref f)) (F : Fun K x x st f fd)
    (hb : ∀ (kV doc pm : Value) (an : Option Addr) (cdv ct : Value) (us : List Value), us.length = ps.length → bindArgs (PySem.W.fnOf x x (defArgs st) (defBody st) (defScope st) .none kV doc pm an cdv ct) ⟨us, []⟩ = pure (ps.zip us))
    (G : FnOk P w K mg base CX0 k f fd ps sp) : Cal P w K mg base x k sp := by
  refine ⟨f, hm, ?_, F.kp⟩
  refine (G.raw (F.binds hb) .nil).imp fun vs H Q E h => ?_
  show sp (vs ++ []) H Q E
  rw [List.append_nil]
  exact h
end
/-! ### heaps -/
theorem same_new {H : Hp} {p : Addr} {o : HO} (h : H p = none) : Same H (upd H p o) := fun b x e => by
  rw [upd_ne (ne_of_none e h)]
  exact e
/-- all but what stands at d is as it was -/
def Keep (d : Addr) (H H' : Hp) : Prop := ∀ b o, b ≠ d → H b = some o → H' b = some o
theorem Keep.refl (d : Addr) (H : Hp) : Keep d H H := fun _ _ _ h => h
theorem Keep.trans {d : Addr} {H H1 H2 : Hp} (a : Keep d H H1) (b : Keep d H1 H2) : Keep d H H2 := fun c o n h => b c o n (a c o n h)
theorem Same.keep {d : Addr} {H H1 : Hp} (a : Same H H1) : Keep d H H1 := fun c o _ h => a c o h
theorem keep_upd {d : Addr} {H : Hp} {o : HO} : Keep d H (upd H d o) := fun b x n e => by
  rw [upd_ne n]
  exact e
theorem Keep.seq {K : PySem.W.Frag} {d : Addr} {H H' : Hp} {a : Addr} {xs : List V} (e : Keep d H H') (n : a ≠ d) (h : SqL K H a xs) : SqL K H' a xs := by
  rcases h with (h | ⟨o, h⟩) | h
  · exact .inl (.inl (e _ _ n h))
  · exact .inl (.inr ⟨o, e _ _ n h⟩)
  · exact .inr h
end Zn
namespace Zn
open PySem
def topS (i : Nat) : Stmt := PySem.Challenge.pw_metorshut_k30_values.main.body.getD i (.Pass ⟨0, 0, 0, 0⟩)
end Zn
local macro_rules | `(tactic| walk_at "fd") => `(tactic| (repeat (first | assumption | exact L2.upd_same | refine' Zn.at_new (by assumption) ?_)))
local macro_rules | `(tactic| walk_at "sm") => `(tactic| (repeat (first | assumption | exact L2.Same.refl _ | refine L2.Same.trans ?_ (Zn.same_new (by assumption)))))

local macro_rules | `(tactic| walk_at "rd1") => `(tactic| first
  | (with_reducible refine Zn.r_seq ?_)
  | (with_reducible refine Zn.r_asg ?_)
  | (with_reducible refine Zn.r_ret ?_)
  | (with_reducible refine Zn.r_ifs ?_)
  | (with_reducible refine Zn.r_test ?_)
  | (with_reducible refine Zn.r_op ?_)
  | ((with_reducible refine' Zn.r_var ?hv ?_); (case hv => exact rfl))
  | (with_reducible refine Zn.r_c ?_)
  | (with_reducible refine Zn.r_gname ?_)
  | (with_reducible refine Zn.r_I0 ?_)
  | (with_reducible refine Zn.r_bl ?_)
  | ((with_reducible refine Zn.r_eq ?hs ?_); (case hs => exact rfl))
  | ((with_reducible refine Zn.r_ne ?hs ?_); (case hs => exact rfl))
  | (with_reducible refine Zn.r_CB ?_)
  | (with_reducible refine Zn.r_cal ?_)
  | (with_reducible refine Zn.r_cons ?_)
  | (with_reducible refine Zn.r_nil ?_)
  | (with_reducible refine Zn.r_tTup ?_)
  | (with_reducible refine Zn.r_tLst ?_)
  | (with_reducible refine Zn.r_B ?_)
  | (with_reducible refine Zn.r_if ?_)
  | (with_reducible refine Zn.r_un ?_)
  | (with_reducible refine Zn.r_U ?_)
  | (with_reducible refine Zn.r_int1 ?_)
  | (with_reducible refine Zn.r_int1b ?_)
  | (with_reducible refine Zn.r_one ?_)
  | (with_reducible refine Zn.r_gsub ?_)
  | ((with_reducible refine' Zn.r_aug ?hv ?_); (case hv => exact rfl))
  | (with_reducible refine Zn.r_augS ?_)
  | (with_reducible refine Zn.r_ipI ?_)
  | (with_reducible refine Zn.r_and ?_)
  | (with_reducible refine Zn.r_or ?_)
  | (with_reducible refine Zn.r_not ?_)
  | (with_reducible refine Zn.r_andV ?_)
  | (with_reducible refine Zn.r_orV ?_)
  | (with_reducible refine Zn.r_notV' ?_)
  | (with_reducible refine Zn.r_BM ?_)
  | (with_reducible refine Zn.r_BM0 ?_)
  | (with_reducible refine Zn.r_par ?_)
  | (with_reducible refine Zn.r_gcons ?_)
  | (with_reducible refine Zn.r_gnil ?_)
  | (with_reducible refine Zn.r_drop ?_)
  | (with_reducible refine Zn.r_yes ?_)
  | ((with_reducible refine' Zn.r_len ?h ?_); (case h => first | exact .inl (Zn.sl_of (by assumption)) | exact .inr (Zn.st_of (by assumption)) | exact .inl (by assumption) | exact .inr (by assumption)))
  | (with_reducible refine Zn.r_for ?_)
  | (with_reducible refine Zn.r_lc ?_)
  | (with_reducible refine Zn.r_rng1 ?_)
  | (with_reducible refine Zn.r_ilist ?_)
  | (with_reducible refine Zn.r_itup ?_)
  | (with_reducible refine Zn.r_two ?_)
  | (with_reducible refine Zn.r_twoI ?_)
  | (with_reducible refine Zn.r_sl ?_)
  | (with_reducible refine Zn.r_noP ?_)
  | (with_reducible refine Zn.r_part ?_)
  | (with_reducible refine Zn.r_eI ?_)
  | (with_reducible refine Zn.r_tyS ?_)
  | ((with_reducible refine' Zn.r_tyL ?h ?_); (case h => first | exact Zn.sl_of (by walk_at "fd") | assumption))
  | ((with_reducible refine Zn.r_iteT ?h ?_); (case h => first | assumption | decide +kernel | exact rfl))
  | ((with_reducible refine Zn.r_iteF ?h ?_); (case h => first | assumption | decide +kernel | exact (fun h => Bool.noConfusion (show false = true from h))))
  | ((with_reducible refine Zn.r_rng ?h1 ?h2 ?_); (case h1 => first | omega | decide); (case h2 => first | omega | decide))
  | ((with_reducible refine' Zn.r_in ?h ?e1 ?e2 ?_); (case h => first | exact .inr (Zn.st_of (by walk_at "fd")) | exact .inl (Zn.sl_of (by walk_at "fd")) | exact .inl (by assumption) | exact .inr (by assumption)); (case e1 => rfl); (case e2 => rfl))
  | ((with_reducible refine Zn.r_al ?h ?_); (case h => exact Zn.len_ok (Nat.le_of_ble_eq_true rfl)); intro p hp)
  | (with_reducible refine Zn.r_next ?_)
  | ((with_reducible refine Zn.r_I ?hc ?_); (case hc => first | assumption | exact Zn.pow2_pos _ | omega | decide | exact Zn.mulR (by decide) (by decide) | exact Zn.mulL (by decide) (by decide) | exact ⟨by decide, by decide⟩ | exact ⟨by decide, by decide, by decide⟩ | exact Zn.mulR (by omega) (by omega) | exact Zn.mulL (by omega) (by omega) | exact ⟨by omega, by omega⟩ | exact ⟨by omega, by omega, by omega⟩))
  | ((with_reducible refine' Zn.r_setL ?h ?e ?_); (case h => walk_at "fd"); (case e => exact rfl))
  | ((with_reducible refine' Zn.r_ixL ?h ?e ?_); (case h => first | exact Zn.sl_of (by walk_at "fd") | assumption); (case e => exact rfl))
  | ((with_reducible refine' Zn.r_ixT ?h ?e ?_); (case h => first | exact Zn.st_of (by walk_at "fd") | assumption); (case e => exact rfl))
  | ((with_reducible refine' Zn.r_tupd ?h ?e ?_); (case h => first | exact Zn.st_of (by walk_at "fd") | assumption); (case e => exact rfl)))
local macro_rules | `(tactic| walk_at "rd") => `(tactic| ((try dsimp only); (repeat ((walk_at "rd1"); (try dsimp only)))))
namespace Zn
open PySem PySem.Spec PyProof.Rows L2
abbrev s__law_begin : Stmt := topS 16
theorem sc__law_begin : FnScope ["_law_script", "_law_cell"] ["_law_script"] (defScope s__law_begin) := ⟨rfl, rfl, rfl, by decide +kernel, rfl, by decide +kernel, by decide +kernel⟩

abbrev s__law_draw : Stmt := topS 17
theorem sc__law_draw : FnScope ["_law_d", "_law_many", "_law_found", "_law_size", "_law_cell"] ["_law_d", "_law_many"] (defScope s__law_draw) := ⟨rfl, rfl, rfl, by decide +kernel, rfl, by decide +kernel, by decide +kernel⟩

/-- what the drawer keeps: its own list at d, the script's ints at c -/
def DL (H : Hp) (d c : Addr) : Prop := ∃ (at_ rest st last : Int), H d = some (.lst [.ref c, .int at_, .int rest, .int st, .int last]) ∧ 0 ≤ at_ ∧ 0 ≤ rest ∧ 0 ≤ st ∧ st < 2147483647
structure Drw (H : Hp) (d c : Addr) : Prop where
  dl : DL H d c
  ne : c ≠ d
  cl : ∃ ns : List Int, H c = some (.lst (ns.map V.int))
theorem Drw.same {H H' : Hp} {d c : Addr} (D : Drw H d c) (s : Same H H') : Drw H' d c := by
  obtain ⟨⟨a, r, st, l, h1, h2⟩, ne, ns, h3⟩ := D
  exact ⟨⟨a, r, st, l, s _ _ h1, h2⟩, ne, ns, s _ _ h3⟩
theorem Drw.get {H : Hp} {d c : Addr} (D : Drw H d c) : ∃ xs, H d = some (.lst xs) := by
  obtain ⟨⟨a, r, st, l, h1, _⟩, _⟩ := D
  exact ⟨_, h1⟩
theorem Drw.upd {H : Hp} {d c a : Addr} {o : HO} (D : Drw H d c) (n1 : d ≠ a) (n2 : c ≠ a) : Drw (upd H a o) d c := by
  obtain ⟨⟨at_, r, st, l, h1, h2⟩, ne, ns, h3⟩ := D
  exact ⟨⟨at_, r, st, l, (upd_ne n1).trans h1, h2⟩, ne, ns, (upd_ne n2).trans h3⟩
theorem Drw.nd {H : Hp} {d c a : Addr} (D : Drw H d c) (h : H a = none) : d ≠ a := by
  obtain ⟨xs, e⟩ := D.get
  exact ne_of_none e h
theorem Drw.nc {H : Hp} {d c a : Addr} (D : Drw H d c) (h : H a = none) : c ≠ a := by
  obtain ⟨ns, e⟩ := D.cl
  exact ne_of_none e h
/-- a draw: a number below many; only the drawer's own list changes -/
def spDraw : Sp := fun vs H Q _ => ∃ (d c : Addr) (many : Int), vs = [.ref d, .int many] ∧ Drw H d c ∧ 1 ≤ many ∧ many < 1073741824 ∧
  ∀ (n : Int) (xs : List V), 0 ≤ n → n < many → Drw (upd H d (.lst xs)) d c → Q (.int n) (upd H d (.lst xs))
def spBegin (K : PySem.W.Frag) : Sp := fun vs H Q _ => ∃ (a : Addr) (ns : List Int), vs = [.ref a] ∧ SqL K H a (ns.map V.int) ∧ ns.length ≤ 63 ∧
  ∀ (H' : Hp) (d c : Addr), Same H H' → H d = none → Drw H' d c → Q (.ref d) H'
/-- the names that the drawer reads -/
structure TDraw (mg : Str → Option Value) : Prop where
  z_int : mg "int" = none
  z_len : mg "len" = none
  z_abs : mg "abs" = none
section
variable {P : Program} {w : World} {K : PySem.W.Frag} {mg : Str → Option Value} {base : Heap}
theorem ok_begin {f : Addr} {fd : FuncData} (F : Fun K "_law_begin" "_law_begin" s__law_begin f fd) (T : TDraw mg) : FnOk P w K mg base CX0 1 f fd ["_law_script"] (spBegin K) := by
  refine F.ok sc__law_begin (fun vs H Q E h => ?_) (fun cdv A outer s H vs Q E hr h => ?_)
  · obtain ⟨a, ns, rfl, _⟩ := h
    rfl
  · obtain ⟨a, ns, rfl, hS, hlen, q⟩ := h
    refine ⟨_, 
      (pss_one (ps_ret (pe_lst (pa_cons (pe_lc (own := [("_law_cell", 1)]) rfl sc__law_begin.nd (pi_list (pv 0)) (blkOk_by (N := ["_law_script", "_law_cell"]) (sc := defScope s__law_begin) (by decide +kernel)) (fun _ _ _ _ _ => (pg_name (i := 1) sc__law_begin.nd rfl (Or.inl rfl))) (fun _ _ _ _ _ => pts_nil) (fun _ _ _ _ _ => (pe_callTy call_int1 (by rfl) T.z_int (by decide +kernel) (pa_cons (pv 1) pa_nil)))) (pa_cons pe_int (pa_cons pe_int (pa_cons pe_int (pa_cons pe_int pa_nil)))))))), ?_⟩
    walk_at "rd"
    refine r_ref ⟨_, hS⟩ fun c hc => ?_
    refine lc_list (K := K) (a := a) (xs := ns.map V.int) (fun i H' => Same H H' ∧ H' c = some (.lst ((ns.take i).map V.int))) ⟨same_new hc, upd_same⟩ (fun i H' _ h => h.1.seq hS) (fun i x H' hi h => ?_) (fun H' h => ?_)
    · obtain ⟨u, rfl, hu⟩ : ∃ u, x = V.int u ∧ ns[i]? = some u := by
        rw [List.getElem?_map] at hi
        cases e : ns[i]? with
        | none => rw [e] at hi; cases hi
        | some u => rw [e] at hi; exact ⟨u, (Option.some.inj hi).symm, rfl⟩
      walk_at "rd"
      refine ⟨rfl, ?_⟩
      walk_at "rd"
      refine ⟨_, h.2, ?_, ?_, ?_⟩
      · rw [List.length_map, List.length_take]
        exact Nat.lt_of_le_of_lt (Nat.min_le_right _ _) (small1000 (by omega))
      · exact fun b o e => by
          rw [upd_ne (ne_of_none e hc)]
          exact h.1 _ _ e
      · rw [upd_same, List.take_add_one, hu, List.map_append]
        rfl
    · rw [List.length_map, List.take_of_length_le (Nat.le_refl _)] at h
      walk_at "rd"
      rename_i d hd
      have ncd : c ≠ d := ne_of_none h.2 hd
      refine q _ d c (h.1.trans (same_new hd)) (h.1.free hd) ⟨⟨0, 0, 7, 2, upd_same, by decide⟩, ncd, ns, by rw [upd_ne ncd]; exact h.2⟩
theorem ok_draw {f : Addr} {fd : FuncData} (F : Fun K "_law_draw" "_law_draw" s__law_draw f fd) (T : TDraw mg) : FnOk P w K mg base CX0 1 f fd ["_law_d", "_law_many"] spDraw := by
  refine F.ok sc__law_draw (fun vs H Q E h => ?_) (fun cdv A outer s H vs Q E hr h => ?_)
  · obtain ⟨d, c, m, rfl, _⟩ := h
    rfl
  · obtain ⟨d, c, m, rfl, ⟨⟨at_, rest, st, last, hd, a0, r0, s0, s1⟩, ncd, ns, hc⟩, m1, m2, q⟩ := h
    have hD : CDiv rest m := ⟨by omega, m2⟩
    have hm0 : 0 < m := by omega
    refine ⟨_, 
      (pss_cons (ps_if (pt_cmpR op_gt (pe_ix (r := rIxL K) ix_list (pv 0) pe_int (fun _ _ => rfl)) pe_int (nomark _)) 
       (pss_cons (ps_set (i := 2) sc__law_draw.nd rfl (Or.inl rfl) (pe_ix (r := rIxL K) ix_list (pv 0) pe_int (fun _ _ => rfl)))
       (pss_cons (ps_asg (pe_op op_fdiv (pv 2) (pv 1)) (pg_sub (pv 0) pe_int set_list))
       (pss_one (ps_ret (pe_op op_mod (pe_callTy call_int1 (by rfl) T.z_int (by decide +kernel) (pa_cons (pv 2) pa_nil)) (pv 1)))))) pss_nil)
      (pss_cons (ps_set (i := 3) sc__law_draw.nd rfl (Or.inl rfl) pe_int)
      (pss_cons (ps_if (pt_cmpR op_lt (pe_ix (r := rIxL K) ix_list (pv 0) pe_int (fun _ _ => rfl)) (pe_callB call_len_seq (by rfl) T.z_len (by decide +kernel) (pa_cons (pe_ix (r := rIxL K) ix_list (pv 0) pe_int (fun _ _ => rfl)) pa_nil)) (nomark _)) 
       (pss_cons (ps_set (i := 4) sc__law_draw.nd rfl (Or.inl rfl) (pe_ix (r := rIxL K) ix_list (pe_ix (r := rIxL K) ix_list (pv 0) pe_int (fun _ _ => rfl)) (pe_ix (r := rIxL K) ix_list (pv 0) pe_int (fun _ _ => rfl)) (fun _ _ => rfl)))
       (pss_one (ps_set (i := 3) sc__law_draw.nd rfl (Or.inl rfl) (pe_op op_add (pe_op op_mul pe_int (pe_callB call_abs (by rfl) T.z_abs (by decide +kernel) (pa_cons (pv 4) pa_nil))) (pe_callTy call_int1 (by rfl) T.z_int (by decide +kernel) (pa_cons (pe_cmpR op_lt (pv 4) pe_int (nomark _)) pa_nil)))))) pss_nil)
      (pss_cons (ps_augS (pv 0) pe_int Zn.pget_list pe_int ip_add set_list)
      (pss_cons (ps_if (pt_cmpR op_ge (pv 3) (pe_op op_mul pe_int (pe_op op_pow pe_int pe_int)) (nomark _)) 
       (pss_cons (ps_set (i := 2) sc__law_draw.nd rfl (Or.inl rfl) (pe_op op_mod (pe_callTy call_int1 (by rfl) T.z_int (by decide +kernel) (pa_cons (pe_op op_fdiv (pv 3) pe_int) pa_nil)) (pe_op op_shl pe_int pe_int)))
       (pss_cons (ps_asg (pe_op op_fdiv (pv 2) (pv 1)) (pg_sub (pv 0) pe_int set_list))
       (pss_one (ps_ret (pe_op op_mod (pe_callTy call_int1 (by rfl) T.z_int (by decide +kernel) (pa_cons (pv 2) pa_nil)) (pv 1)))))) pss_nil)
      (pss_cons (ps_asg (pe_op op_mod (pe_callTy call_int1 (by rfl) T.z_int (by decide +kernel) (pa_cons (pe_op op_add (pe_op op_add (pe_op op_add (pe_op op_mul (pe_ix (r := rIxL K) ix_list (pv 0) pe_int (fun _ _ => rfl)) pe_int) (pe_op op_mul (pe_op op_mod (pe_callTy call_int1 (by rfl) T.z_int (by decide +kernel) (pa_cons (pv 3) pa_nil)) pe_int) pe_int)) (pe_op op_mul (pe_ix (r := rIxL K) ix_list (pv 0) pe_int (fun _ _ => rfl)) pe_int)) pe_int) pa_nil)) pe_int) (pg_sub (pv 0) pe_int set_list))
      (pss_one (ps_ret (pe_op op_mod (pe_callTy call_int1 (by rfl) T.z_int (by decide +kernel) (pa_cons (pe_op op_fdiv (pe_ix (r := rIxL K) ix_list (pv 0) pe_int (fun _ _ => rfl)) pe_int) pa_nil)) (pv 1)))))))))), ?_⟩
    walk_at "rd"
    refine ite2 (fun h1 => ?_) (fun h1 => ?_)
    · have h1 : 0 < rest := of_decide_eq_true h1
      walk_at "rd"
      refine q _ _ (Int.emod_nonneg _ (by omega)) (Int.emod_lt_of_pos _ (by omega)) ⟨⟨at_, rest / m, st, last, upd_same, a0, Int.ediv_nonneg r0 (by omega), s0, s1⟩, ncd, ns, by rw [upd_ne ncd]; exact hc⟩
    · walk_at "rd"
      refine ite2 (fun h2 => ?_) (fun h2 => ?_)
      · have h2 : at_ < ((ns.map V.int).length : Int) := of_decide_eq_true h2
        rw [List.length_map] at h2
        have hj : at_.toNat < ns.length := by omega
        walk_at "rd"
        refine r_ixL (v := V.int ns[at_.toNat]) (sl_of hc) (atI_lt (j := at_.toNat) (by omega) (by rw [List.getElem?_map, List.getElem?_eq_getElem hj]; rfl)) ?_
        walk_at "rd"
        refine ite2 (fun h3 => ?_) (fun h3 => ?_)
        · walk_at "rd"
          rw [upd_upd]
          have e0 : ∀ z : Int, 0 ≤ z % (1 * 2 ^ Int.toNat 6000) := fun z => Int.emod_nonneg z (Int.ne_of_gt (pow2_pos (Int.toNat 6000)))
          refine q _ _ (Int.emod_nonneg _ (by omega)) (Int.emod_lt_of_pos _ (by omega)) ⟨⟨at_ + 1, _, st, last, upd_same, by omega, Int.ediv_nonneg (e0 _) (by omega), s0, s1⟩, ncd, ns, by rw [upd_ne ncd]; exact hc⟩
        · walk_at "rd"
          rw [upd_upd]
          refine q _ _ (Int.emod_nonneg _ (by omega)) (Int.emod_lt_of_pos _ (by omega)) ⟨⟨at_ + 1, rest, _, last, upd_same, by omega, r0, Int.emod_nonneg _ (by decide), Int.emod_lt_of_pos _ (by decide)⟩, ncd, ns, by rw [upd_ne ncd]; exact hc⟩
      · walk_at "rd"
        rw [upd_upd]
        refine q _ _ (Int.emod_nonneg _ (by omega)) (Int.emod_lt_of_pos _ (by omega)) ⟨⟨at_ + 1, rest, _, last, upd_same, by omega, r0, Int.emod_nonneg _ (by decide), Int.emod_lt_of_pos _ (by decide)⟩, ncd, ns, by rw [upd_ne ncd]; exact hc⟩
end
end Zn
/-! more readings: texts, while, chains -/
namespace Zn
open PySem PySem.Spec PyProof.Rows L2 TL
section
variable {σ : L2.St} {H : Hp} {K : PySem.W.Frag} {Q : VK} {ta tb te tc : TE} {t u c : TT} {D : Ends} {t1 t2 : TS} {g : TG} {i : Nat} {v x y : V} {r r' : R2} {tr : TA}
theorem r_chain (q : ta σ H fun x H1 => tb σ H1 fun y H2 => r x y H2 fun z H3 => ∃ k, z = .bl k ∧
    (if k = true then tc σ H3 fun v H4 => r' y v H4 Q else Q (.bl false) H3)) : tChain r r' ta tb tc σ H Q := q
theorem r_ss {a b : Str} {R : Str → Str → Prop} (q : R a b) : ∃ i j, V.str a = V.str i ∧ V.str b = V.str j ∧ R i j := ⟨a, b, rfl, rfl, q⟩
theorem r_sign {c : Nat} {z : Str} {R : Nat → Str → Prop} (q : R c z) : ∃ (d : Nat) (y : Str), V.str ⟨#[c]⟩ = V.str ⟨#[d]⟩ ∧ V.str z = V.str y ∧ R d y := ⟨c, z, rfl, rfl, q⟩
theorem r_ixS {z : Str} {i : Int} {c : Nat} (h : z.length ≤ sizeLine) (e : atI z.cps.toList i = some c) (q : Q (.str ⟨#[c]⟩) H) : rIxS (.str z) (.int i) H Q := ⟨z, i, c, rfl, rfl, h, e, q⟩
theorem r_slS {z : Str} {lo hi : Option Int} (h : z.length ≤ sizeLine) (q : Q (.str (cutS z lo hi)) H) : rSlS (.str z) lo hi H Q := ⟨z, rfl, h, q⟩
theorem r_lenS {z : Str} {R : Str → Prop} (q : R z) : ∃ y, [V.str z] = [V.str y] ∧ R y := ⟨z, rfl, q⟩
theorem r_istr {R : It → Hp → Prop} (q : te σ H fun v H1 => ∃ x, v = .str x ∧ R (Its x) H1) : iStr te σ H R := q
theorem r_1s {z : Str} {R : Str → Prop} (q : R z) : ∃ y, V.str z = V.str y ∧ R y := ⟨z, rfl, q⟩
theorem r_62 {j : Int} {R : Prop} (h1 : -(2 ^ 62) ≤ j) (h2 : j < 2 ^ 62) (q : R) : -(2 ^ 62) ≤ j ∧ j < 2 ^ 62 ∧ R := ⟨h1, h2, q⟩
theorem r_M1 {f : V → List V → Hp → VK → Prop} (q : ta σ H fun x H1 => (∃ a, x = .str a) ∧ tb σ H1 fun y H2 => f x [y] H2 Q) : tM1 f ta tb σ H Q := q
theorem r_exS {z : Str} {R : Prop} (q : R) : (∃ a, V.str z = V.str a) ∧ R := ⟨⟨z, rfl⟩, q⟩
theorem r_s1 {a b : Str} {R : Str → Str → Prop} (q : R a b) : ∃ i j, V.str a = V.str i ∧ [V.str b] = [V.str j] ∧ R i j := ⟨a, b, rfl, rfl, q⟩
theorem r_truL {p : Addr} {xs : List V} {R : Bool → Prop} (h : H p = some (.lst xs)) (q : R (!xs.isEmpty)) : ∃ k, TruV K (.ref p) H k ∧ R k := ⟨_, .inl ⟨xs, .inl (.inl h), rfl⟩, q⟩
theorem r_truT {p : Addr} {xs : List V} {R : Bool → Prop} (h : H p = some (.tup xs)) (q : R (!xs.isEmpty)) : ∃ k, TruV K (.ref p) H k ∧ R k := ⟨_, .inr (.inl ⟨xs, .inl (.inl h), rfl⟩), q⟩
theorem r_truI {i : Int} {R : Bool → Prop} (q : R (i != 0)) : ∃ k, TruV K (.int i) H k ∧ R k := ⟨_, rfl, q⟩
theorem seq_same (h2 : t2 D σ H) (h1 : ∀ nx' : L2.St → Hp → Prop, nx' σ H → t1 { D with nx := nx' } σ H) : tSeq t1 t2 D σ H := h1 (t2 D) h2
theorem ne_nil {xs : List V} (h : (!xs.isEmpty) = true) : xs ≠ [] := by
  intro e
  subst e
  cases h
theorem r_lz {n : Nat} {R : Prop} (h : n ≤ sizeLine) (q : R) : n ≤ sizeLine ∧ R := ⟨h, q⟩
theorem r_inY {p : Addr} {xs : List V} (h : SqL K H p xs ∨ SqT K H p xs) (e1 : flatV x = true) (e2 : xs.all flatV = true) (q : Q (.bl (inV x xs)) H) : rIn K false x (.ref p) H Q := ⟨p, xs, rfl, h, e1, e2, q⟩
theorem r_inN {p : Addr} {xs : List V} (h : SqL K H p xs ∨ SqT K H p xs) (e1 : flatV x = true) (e2 : xs.all flatV = true) (q : Q (.bl (!inV x xs)) H) : rIn K true x (.ref p) H Q := ⟨p, xs, rfl, h, e1, e2, q⟩
theorem r_while (q : ∃ Z : Nat → L2.St → Hp → Prop, (∃ m, Z m σ H) ∧ ∀ m σ H, Z m σ H → t σ H fun b H1 =>
    if b = true then ∃ Y : L2.St → Hp → Prop, (∀ σ' H', Y σ' H' → ∃ m', m' < m ∧ Z m' σ' H') ∧ t1 { D with nx := Y, ct := Y, bk := D.nx } σ H1
    else D.nx σ H1) : tWhile t t1 D σ H := q
theorem Same.mut {H H' : Hp} {g : Addr} {o : HO} (s : Same H H') (hg : H g = none) : Same H (upd H' g o) := fun b x e => by
  rw [upd_ne (ne_of_none e hg)]
  exact s _ _ e
theorem keep_new {d : Addr} {H H1 : Hp} {p : Addr} {o : HO} (s : Keep d H H1) (h : H1 p = none) : Keep d H (upd H1 p o) := s.trans (Same.keep (same_new h))
theorem Keep.free {d : Addr} {H H1 : Hp} {p : Addr} (s : Keep d H H1) (n : p ≠ d) (h : H1 p = none) : H p = none := by
  cases e : H p with
  | none => rfl
  | some x =>
    have := s _ _ n e
    rw [h] at this
    cases this
theorem Keep.mut {d : Addr} {H H1 : Hp} {p : Addr} {o : HO} (s : Keep d H H1) (h : H p = none) : Keep d H (upd H1 p o) := fun b x n e => by
  rw [upd_ne (ne_of_none e h)]
  exact s _ _ n e
theorem map_get {ns : List Int} {i : Nat} {x : V} (hi : (ns.map V.int)[i]? = some x) : ∃ u, x = V.int u ∧ ns[i]? = some u := by
  rw [List.getElem?_map] at hi
  cases e : ns[i]? with
  | none => rw [e] at hi; cases hi
  | some u => rw [e] at hi; exact ⟨u, (Option.some.inj hi).symm, rfl⟩
theorem small {w : Int} (h1 : 1 ≤ w) (h8 : w ≤ 8) : (2 : Int) ^ w.toNat ≤ 256 := by
  have : w = 1 ∨ w = 2 ∨ w = 3 ∨ w = 4 ∨ w = 5 ∨ w = 6 ∨ w = 7 ∨ w = 8 := by omega
  rcases this with h | h | h | h | h | h | h | h <;> subst h <;> decide
/-- the parts of a text -/
theorem tl_cut {z : Str} {a b : Int} (h0 : 0 ≤ a) (h1 : 0 ≤ b) : tl (cutS z (some a) (some b)) = ((tl z).drop a.toNat).take (b.toNat - a.toNat) := by
  show ((tl z).drop (HT.sIx z.length 0 (some a))).take (HT.sIx z.length z.length (some b) - HT.sIx z.length 0 (some a)) = _
  obtain ⟨n, rfl⟩ := Int.eq_ofNat_of_zero_le h0
  obtain ⟨m, rfl⟩ := Int.eq_ofNat_of_zero_le h1
  rw [HT.sIx_nat, HT.sIx_nat, len_tl, Int.toNat_natCast, Int.toNat_natCast]
  by_cases h : n ≤ (tl z).length
  · rw [Nat.min_eq_left h]
    by_cases h2 : m ≤ (tl z).length
    · rw [Nat.min_eq_left h2]
    · rw [Nat.min_eq_right (by omega), List.take_of_length_le (by rw [List.length_drop]; omega), List.take_of_length_le (by rw [List.length_drop]; omega)]
  · rw [List.drop_of_length_le (by omega), List.drop_of_length_le (by omega), List.take_nil, List.take_nil]
theorem tl_cut_to {z : Str} {b : Int} (h1 : 0 ≤ b) : tl (cutS z none (some b)) = (tl z).take b.toNat := by
  have := tl_cut (z := z) (Int.le_refl 0) h1
  show ((tl z).drop (HT.sIx z.length 0 none)).take (HT.sIx z.length z.length (some b) - HT.sIx z.length 0 none) = _
  have e : HT.sIx z.length 0 (some 0) = 0 := HT.sIx_nat _ _ 0 |>.trans (by simp)
  have e2 : HT.sIx z.length 0 none = 0 := rfl
  rw [e2, ← e]
  exact this
end
end Zn
/-! trees of tuples; heaps that keep all but some lists -/
namespace Zn
open PySem PySem.Spec PyProof.Rows L2 TL
theorem at0 {a : V} {l : List V} : atI (a :: l) 0 = some a := atI_nat (j := 0) rfl
theorem at1 {a b : V} {l : List V} : atI (a :: b :: l) 1 = some b := atI_nat (j := 1) rfl
theorem at2 {a b c : V} {l : List V} : atI (a :: b :: c :: l) 2 = some c := atI_nat (j := 2) rfl
theorem at3 {a b c d : V} {l : List V} : atI (a :: b :: c :: d :: l) 3 = some d := atI_nat (j := 3) rfl
theorem at4 {a b c d e : V} {l : List V} : atI (a :: b :: c :: d :: e :: l) 4 = some e := atI_nat (j := 4) rfl
/-- signs that a text can have -/
def okB (z : Str) : Bool := (tl z).all (decide <| · < 1114112)
theorem strOk_of {t : Str} (h : okB t = true) : PyData.strOk t = true := by
  unfold PyData.strOk
  rw [← Array.all_toList]
  exact h
/-- what stands is kept, but in the lists of S -/
structure Kp (S : List Addr) (H H' : Hp) : Prop where
  x : ∀ b o, b ∉ S → H b = some o → H' b = some o
  t : ∀ b xs, H b = some (.tup xs) → H' b = some (.tup xs)
theorem Kp.refl (S : List Addr) (H : Hp) : Kp S H H := ⟨fun _ _ _ h => h, fun _ _ h => h⟩
theorem Kp.trans {S : List Addr} {H H1 H2 : Hp} (a : Kp S H H1) (b : Kp S H1 H2) : Kp S H H2 := ⟨fun c o n h => b.x c o n (a.x c o n h), fun c o h => b.t c o (a.t c o h)⟩
theorem Kp.mono {S S' : List Addr} {H H1 : Hp} (a : Kp S H H1) (h : ∀ b ∈ S, b ∈ S') : Kp S' H H1 := ⟨fun c o n e => a.x c o (fun m => n (h c m)) e, a.t⟩
theorem Kp.same {S : List Addr} {H H1 : Hp} (s : Same H H1) : Kp S H H1 := ⟨fun c o _ e => s _ _ e, fun c o e => s _ _ e⟩
theorem Kp.new {S : List Addr} {H H1 : Hp} {p : Addr} {o : HO} (a : Kp S H H1) (h : H1 p = none) : Kp S H (upd H1 p o) := a.trans (.same (same_new h))
theorem Kp.set {S : List Addr} {H H1 : Hp} {p : Addr} {l : List V} {o : HO} (a : Kp S H H1) (m : p ∈ S) (h : H1 p = some (.lst l)) : Kp S H (upd H1 p o) :=
  a.trans ⟨fun c x n e => by rw [upd_ne (fun (k : c = p) => n (k ▸ m))]; exact e, fun c x e => by rw [upd_ne (ne_of e h (by intro z; cases z))]; exact e⟩
theorem Kp.free {S : List Addr} {H H1 : Hp} {p : Addr} (a : Kp S H H1) (n : p ∉ S) (h : H1 p = none) : H p = none := by
  cases e : H p with
  | none => rfl
  | some x =>
    have := a.x _ _ n e
    rw [h] at this
    cases this
/-- a list that was made behind H -/
theorem Kp.mut {S : List Addr} {H H1 : Hp} {p : Addr} {l : List V} {o : HO} (a : Kp S H H1) (h0 : H p = none) (h : H1 p = some (.lst l)) : Kp S H (upd H1 p o) :=
  ⟨fun c x n e => by rw [upd_ne (ne_of_none e h0)]; exact a.x _ _ n e, fun c x e => by rw [upd_ne (ne_of (a.t _ _ e) h (by intro z; cases z))]; exact a.t _ _ e⟩
theorem Kp.seq {S : List Addr} {K : PySem.W.Frag} {H H1 : Hp} {p : Addr} {l : List V} (a : Kp S H H1) (n : p ∉ S) (h : SqL K H p l) : SqL K H1 p l := by
  rcases h with (h | ⟨o, h⟩) | h
  · exact .inl (.inl (a.x _ _ n h))
  · exact .inl (.inr ⟨o, a.x _ _ n h⟩)
  · exact .inr h
theorem Kp.drw {H : Hp} {d c : Addr} {zs : List V} {S : List Addr} (D : Drw H d c) (m : d ∈ S) : Kp S H (upd H d (.lst zs)) := by
  obtain ⟨l, h⟩ := D.get
  exact (Kp.refl S H).set m h
/-- what is no reference -/
def Atom : V → Prop
  | .non => True
  | .bl _ => True
  | .int _ => True
  | .str s => okB s = true
  | _ => False
/-- a tree of tuples, at most n deep -/
def Tree : Nat → Hp → V → Prop
  | 0, _, v => Atom v
  | n + 1, H, v => Atom v ∨ ∃ p xs, v = .ref p ∧ H p = some (.tup xs) ∧ ∀ x ∈ xs, Tree n H x
theorem Tree.atom {v : V} {H : Hp} (h : Atom v) : ∀ n, Tree n H v
  | 0 => h
  | _ + 1 => .inl h
theorem Tree.up : ∀ {n : Nat} {H : Hp} {v : V}, Tree n H v → Tree (n + 1) H v
  | 0, _, _, h => .inl h
  | _ + 1, _, _, h => by
    rcases h with h | ⟨p, xs, e, hp, hx⟩
    · exact .inl h
    · exact .inr ⟨p, xs, e, hp, fun x m => (hx x m).up⟩
theorem Tree.le {n m : Nat} {H : Hp} {v : V} (h : Tree n H v) (hm : n ≤ m) : Tree m H v := by
  induction hm with
  | refl => exact h
  | step _ ih => exact ih.up
theorem Tree.kp : ∀ {n : Nat} {S : List Addr} {H H' : Hp} {v : V}, Tree n H v → Kp S H H' → Tree n H' v
  | 0, _, _, _, _, h, _ => h
  | _ + 1, _, _, _, _, h, k => by
    rcases h with h | ⟨p, xs, e, hp, hx⟩
    · exact .inl h
    · exact .inr ⟨p, xs, e, k.t _ _ hp, fun x m => (hx x m).kp k⟩
theorem Tree.mk {n : Nat} {H : Hp} {p : Addr} {xs : List V} (hp : H p = some (.tup xs)) (h : ∀ x ∈ xs, Tree n H x) : Tree (n + 1) H (.ref p) := .inr ⟨p, xs, rfl, hp, h⟩
theorem Tree.tup {n : Nat} {H : Hp} {p : Addr} {xs : List V} (hp : H p = none) (h : ∀ x ∈ xs, Tree n H x) : Tree (n + 1) (upd H p (.tup xs)) (.ref p) :=
  .mk upd_same fun x m => (h x m).kp (.same (S := []) (same_new hp))
theorem Tree.str {s : Str} {H : Hp} {n : Nat} (h : okB s = true) : Tree n H (.str s) := .atom (v := .str s) h n
theorem Tree.int {i : Int} {H : Hp} {n : Nat} : Tree n H (.int i) := .atom (v := .int i) trivial n
theorem Tree.non {H : Hp} {n : Nat} : Tree n H .non := .atom (v := .non) trivial n
theorem all_cons {α : Type} {P : α → Prop} {x : α} {xs : List α} (h : P x) (hs : ∀ y ∈ xs, P y) : ∀ y ∈ x :: xs, P y := fun y m => by
  rcases List.mem_cons.mp m with rfl | m
  · exact h
  · exact hs y m
theorem all_nil {α : Type} {P : α → Prop} : ∀ y ∈ ([] : List α), P y := fun _ m => by cases m
/-- the tree as a value -/
theorem Tree.dp {K : PySem.W.Frag} : ∀ {n : Nat} {H : Hp} {v : V}, Tree n H v → ∃ D : PyData, Dp K H v D ∧ D.canLay0 = true ∧ D.depth ≤ n := by
  have at_ : ∀ {v : V} {H : Hp}, Atom v → ∃ D : PyData, Dp K H v D ∧ D.canLay0 = true ∧ D.depth ≤ 0 := fun {v H} h => by
    cases v with
    | non => exact ⟨.none, .non, rfl, by simp [PyData.depth]⟩
    | bl b => exact ⟨.bool b, .bl b, rfl, by simp [PyData.depth]⟩
    | int i => exact ⟨.int i, .int i, rfl, by simp [PyData.depth]⟩
    | str s => exact ⟨.str s, .str s, by simp [PyData.canLay0, strOk_of h], by simp [PyData.depth]⟩
    | _ => exact h.elim
  intro n
  induction n with
  | zero => exact fun h => at_ h
  | succ n ih =>
    intro H v h
    rcases h with h | ⟨p, xs, rfl, hp, hx⟩
    · obtain ⟨D, h1, h2, h3⟩ := at_ (H := H) h
      exact ⟨D, h1, h2, by omega⟩
    · have : ∃ ds : List PyData, DpAll K H xs ds ∧ PyData.canLayAll0 ds = true ∧ PyData.depthAll ds ≤ n := by
        clear hp
        induction xs with
        | nil => exact ⟨[], .nil, by simp [PyData.canLayAll0], by simp [PyData.depthAll]⟩
        | cons x xs ihx =>
          obtain ⟨ds, h1, h2, h3⟩ := ihx fun y m => hx y (List.mem_cons_of_mem _ m)
          obtain ⟨e, g1, g2, g3⟩ := ih (hx x List.mem_cons_self)
          exact ⟨e :: ds, .cons g1 h1, by simp [PyData.canLayAll0, g2, h2], by simp only [PyData.depthAll]; omega⟩
      obtain ⟨ds, h1, h2, h3⟩ := this
      exact ⟨.tuple ds, .tup (.inl (.inl hp)) h1, by simp [PyData.canLay0, h2], by simp only [PyData.depth]; omega⟩
end Zn
/-! more rules: any of ints, zip of tuples -/
namespace Zn
open PySem PySem.Spec PyProof.Rows L2 TL
section
variable {X : Cx}
def rAnyI (K : PySem.W.Frag) : List V → Hp → VK → Prop := fun vs H Q => ∃ (a : Addr) (ns : List Int), vs = [V.ref a] ∧ SqL K H a (ns.map V.int) ∧ Q (.bl (ns.any (· != 0))) H
theorem truth_ints {prog : Program} {w : World} {A : Around} {ns : List Int} {its : List Value} (e : IntsAre its ns) :
    TruthOf prog w A (fun i v => its.toArray[i]? = some v) (fun i => ns.getD i 0 != 0) := fun i v s Q E hv hq => by
  have hv' : its[i]? = some v := by simpa using hv
  have hi : i < ns.length := by
    have h1 := (vals_of_ints e).length
    rw [List.length_map] at h1
    rw [h1]
    exact (List.getElem?_eq_some_iff.mp hv').1
  obtain ⟨t, ht⟩ := e.get i ns[i] (List.getElem?_eq_getElem hi)
  rw [ht] at hv'
  cases hv'
  have hg : ns.getD i 0 = ns[i] := by rw [List.getD_eq_getElem?_getD, List.getElem?_eq_getElem hi] <;> rfl
  have hq' : Q (ns.getD i 0 != 0) s := hq
  rw [hg] at hq'
  exact PyProof.Rows.truthy_int hq'
theorem any_rangeI : ∀ ns : List Int, (List.range ns.length).any (fun i => ns.getD i 0 != 0) = ns.any (· != 0)
  | [] => rfl
  | b :: bs => by
    rw [List.length_cons, List.range_succ_eq_map, List.any_cons, List.any_map, List.any_cons, ← any_rangeI bs]
    all_goals rfl
theorem cr_anyI (hc : X.calm = true) : CallR X (.builtin "any") (rAnyI X.K) := by
  intro pins s σ H vs us Q I r h
  obtain ⟨a, ns, rfl, hs, q⟩ := h
  obtain ⟨its, rv, hl, _⟩ := I.list hs
  rw [Vals.ref1 r]
  have hb := rv.ints
  have hlen : its.length = ns.length := by
    have h1 := rv.length
    rw [List.length_map] at h1
    exact h1.symm
  refine call_any_walk (iter_any hl.isList fun s₂ e2 st hne => ?_)
  subst e2
  refine ⟨_, _, _, _, _, _, _, rfl, Walks.list (A := X.A.in1) (I.ok.hd hc) _ a hne its.toArray, st, truth_ints hb, fun h' tk hk => ?_⟩
  refine ⟨.bl _, H, I.kept fun b o eo => hk b o (fun hmem => ?_) (Heap.get?_push_of_some _ eo), ?_, q⟩
  · rcases List.mem_cons.mp hmem with e1 | hmem
    · exact absurd (e1 ▸ Heap.lt_size eo) (Nat.lt_irrefl _)
    · cases hmem
  · show Value.bool _ = Value.bool _
    rw [← any_rangeI, List.size_toArray, hlen]
end
theorem walk_zipT {K : PySem.W.Frag} {a b : Addr} {xs ys : List V} {n : Nat} (hn : n = min xs.length ys.length) : Walk (RZ.ItzT K a b) n (fun H => SqT K H a xs ∧ SqT K H b ys) (YPair (fun i => xs[i]?) (fun i => ys[i]?)) := by
  subst hn
  refine ⟨fun i _ hi q => ?_, fun _ q => ⟨xs, ys, q.1, q.2, by omega⟩, fun i H v H' _ q y => ?_⟩
  · have h1 : i < xs.length := by omega
    have h2 : i < ys.length := by omega
    exact ⟨xs, ys, xs[i], ys[i], q.1, q.2, by simp [h1], by simp [h2]⟩
  · obtain ⟨T, x, z, h1, h2, h3, h4, h5⟩ := y
    exact ⟨T, x, z, h1, h2, h3, h4 xs q.1, h5 ys q.2⟩
/-- tuples stand still -/
def Tp (H H' : Hp) : Prop := ∀ b xs, H b = some (.tup xs) → H' b = some (.tup xs)
theorem Same.tp {H H' : Hp} (s : Same H H') : Tp H H' := fun b xs h => s _ _ h
theorem Kp.tp {S : List Addr} {H H' : Hp} (s : Kp S H H') : Tp H H' := s.t
theorem Tp.refl (H : Hp) : Tp H H := fun _ _ h => h
theorem Tp.trans {H H1 H2 : Hp} (a : Tp H H1) (b : Tp H1 H2) : Tp H H2 := fun c x h => b c x (a c x h)
theorem Tp.set {H : Hp} {p : Addr} {l : List V} {o : HO} (h : H p = some (.lst l)) : Tp H (upd H p o) := fun c x e => by
  rw [upd_ne (ne_of e h (by intro z; cases z))]
  exact e
theorem getL {α : Type} {xs : List α} {i : Nat} {x : α} (h : xs[i]? = some x) : i < xs.length := (List.getElem?_eq_some_iff.mp h).1
theorem get_map {α β : Type} {f : α → β} {xs : List α} {i : Nat} {y : β} (h : (xs.map f)[i]? = some y) : ∃ x, xs[i]? = some x ∧ f x = y := by
  rw [List.getElem?_map] at h
  cases e : xs[i]? with
  | none => rw [e] at h; cases h
  | some u => rw [e] at h; exact ⟨u, rfl, Option.some.inj h⟩
theorem take_snoc {α : Type} {xs : List α} {i : Nat} {x : α} (h : xs[i]? = some x) : xs.take (i + 1) = xs.take i ++ [x] := by
  rw [List.take_add_one, h]
  rfl
theorem lt_line {n : Nat} (h : n < 100000) : n < sizeLine := Nat.lt_of_lt_of_le h (by decide)
/-- a comprehension whose list is known ahead: only new things are made in its turns -/
theorem lcM {J : It} {n : Nat} {G : Hp → Prop} {Y : Nat → Hp → V → Hp → Prop} (w : Walk J n G Y) (out : List V) {g : TG} {tt : TT} {te : TE} {vs : List Nat} {σ : L2.St} {H1 : Hp} {C : Addr} {Qd : Hp → Prop}
    (hn : out.length = n) (hz : n < 100000) (hC : H1 C = none) (hG : ∀ H', Same H1 H' → G H')
    (hs : ∀ i x H' H'', i < n → Same H1 H' → Y i H' x H'' → (∀ y H4, out[i]? = some y → Same H' H4 → ∃ acc, H4 C = some (.lst acc) ∧ acc.length < sizeLine ∧ (Same H1 (upd H4 C (.lst (acc ++ [y]))) ∧ upd H4 C (.lst (acc ++ [y])) C = some (.lst (out.take (i + 1))))) →
      g x (wipe σ vs) H'' fun σ2 H2 => wipe σ2 vs = wipe σ vs ∧ tt σ2 H2 fun b H3 =>
      if b = true then te σ2 H3 fun y H4 => ∃ acc, H4 C = some (.lst acc) ∧ acc.length < sizeLine ∧ (Same H1 (upd H4 C (.lst (acc ++ [y]))) ∧ upd H4 C (.lst (acc ++ [y])) C = some (.lst (out.take (i + 1)))) else (Same H1 H3 ∧ H3 C = some (.lst (out.take (i + 1)))))
    (hd : ∀ H', Same H1 H' → H' C = some (.lst out) → Qd H') :
    ∃ W : Nat → Nat → Hp → Prop, (∃ m, W 0 m (upd H1 C (.lst []))) ∧ ∀ i m H, W i m H →
      (J.stop i H ∧ Qd H) ∨ (J.go i H ∧ ∃ Nx : Hp → Prop, (∀ H', Nx H' → ∃ m', m' < m ∧ W (i + 1) m' H') ∧ ∀ x H', J.yld i H x H' → g x (wipe σ vs) H' fun σ2 H2 => wipe σ2 vs = wipe σ vs ∧ tt σ2 H2 fun b H3 =>
        if b = true then te σ2 H3 fun y H4 => ∃ acc, H4 C = some (.lst acc) ∧ acc.length < sizeLine ∧ Nx (upd H4 C (.lst (acc ++ [y]))) else Nx H3) := by
  refine lc_it w (fun i H' => Same H1 H' ∧ H' C = some (.lst (out.take i))) ⟨same_new hC, upd_same⟩ (fun i H' _ h => hG H' h.1) (fun i x H' H'' hi h hy => ?_) (fun H' h => hd H' h.1 ?_)
  · refine hs i x H' H'' hi h.1 hy fun y H4 e s => ⟨out.take i, s _ _ h.2, ?_, Zn.Same.mut (h.1.trans s) hC, ?_⟩
    · rw [List.length_take]
      exact lt_line (by omega)
    · rw [upd_same, take_snoc e]
  · rw [h.2, List.take_of_length_le (by omega)]
theorem r_zip {K : PySem.W.Frag} {ta : TA} {σ : L2.St} {H : Hp} {R : It → Hp → Prop} (q : ta σ H fun vs H1 => ∃ a b xs ys, vs = [.ref a, .ref b] ∧ ((SqL K H1 a xs ∧ SqL K H1 b ys ∧ R (Itz K a b) H1) ∨ (SqT K H1 a xs ∧ SqT K H1 b ys ∧ R (RZ.ItzT K a b) H1))) : RZ.iZipA K ta σ H R := q
theorem r_zip2 {K : PySem.W.Frag} {H1 : Hp} {a b : Addr} {xs ys : List V} {R1 R2 : Addr → Addr → Prop} (h1 : SqT K H1 a xs) (h2 : SqT K H1 b ys) (q : R2 a b) :
    ∃ a' b' xs ys, [V.ref a, V.ref b] = [.ref a', .ref b'] ∧ ((SqL K H1 a' xs ∧ SqL K H1 b' ys ∧ R1 a' b') ∨ (SqT K H1 a' xs ∧ SqT K H1 b' ys ∧ R2 a' b')) := ⟨a, b, xs, ys, rfl, .inr ⟨h1, h2, q⟩⟩
theorem r_all {K : PySem.W.Frag} {H : Hp} {Q : VK} {a : Addr} {bs : List Bool} (h : SqL K H a (bs.map V.bl)) (q : Q (.bl (bs.all id)) H) : rAll K [.ref a] H Q := ⟨a, bs, rfl, h, q⟩
theorem r_any {K : PySem.W.Frag} {H : Hp} {Q : VK} {a : Addr} {bs : List Bool} (h : SqL K H a (bs.map V.bl)) (q : Q (.bl (bs.any id)) H) : rAny K [.ref a] H Q := ⟨a, bs, rfl, h, q⟩
theorem r_anyI {K : PySem.W.Frag} {H : Hp} {Q : VK} {a : Addr} {ns : List Int} (h : SqL K H a (ns.map V.int)) (q : Q (.bl (ns.any (· != 0))) H) : rAnyI K [.ref a] H Q := ⟨a, ns, rfl, h, q⟩
theorem r_sum {K : PySem.W.Frag} {H : Hp} {Q : VK} {a : Addr} {ns : List Int} (h : SqL K H a (ns.map V.int)) (q : Q (.int ns.sum) H) : rSum K [.ref a] H Q := ⟨a, ns, rfl, h, q⟩
end Zn
namespace Zn
open PySem PySem.Spec PyProof.Rows L2 TL
theorem r_rep {H : Hp} {Q : VK} {p : Addr} {k : Int} {xs : List V} (h : H p = some (.lst xs)) (h0 : -(2 ^ 63) ≤ k) (h1 : k < 2 ^ 63) (h2 : xs.length * k.toNat ≤ sizeLine) (q : ∀ c, H c = none → Q (.ref c) (upd H c (.lst (List.replicate k.toNat xs).flatten))) : rRep (.ref p) (.int k) H Q := ⟨p, k, xs, rfl, rfl, h, h0, h1, h2, q⟩
theorem rep_one {v : V} (n : Nat) : (List.replicate n [v]).flatten = List.replicate n v := by
  induction n with
  | zero => rfl
  | succ n ih => rw [List.replicate_succ, List.flatten_cons, ih]; rfl
theorem cutV_to {xs : List V} (n : Nat) : cutV xs none (some (n : Int)) = xs.take n := by
  unfold cutV
  rw [HT.sIx_nat]
  show (xs.drop 0).take (min n xs.length - 0) = _
  rw [List.drop_zero, Nat.sub_zero]
  by_cases h : n ≤ xs.length
  · rw [Nat.min_eq_left h]
  · rw [Nat.min_eq_right (by omega), List.take_of_length_le (Nat.le_refl _), List.take_of_length_le (by omega)]
theorem cutV_from {xs : List V} (n : Nat) : cutV xs (some (n : Int)) none = xs.drop n := by
  unfold cutV
  rw [HT.sIx_nat]
  show (xs.drop (min n xs.length)).take (xs.length - min n xs.length) = _
  by_cases h : n ≤ xs.length
  · rw [Nat.min_eq_left h, List.take_of_length_le (by rw [List.length_drop]; omega)]
  · rw [Nat.min_eq_right (by omega), List.drop_of_length_le (Nat.le_refl _), List.drop_of_length_le (by omega), List.take_nil]
theorem ints_at {ns : List Int} {i : Int} {j : Nat} {u : Int} (e : i = (j : Int)) (h : ns[j]? = some u) : atI (ns.map V.int) i = some (.int u) := atI_lt e (by rw [List.getElem?_map, h]; rfl)
theorem getD_at {ns : List Int} {j : Nat} (h : j < ns.length) : ns[j]? = some (ns.getD j 0) := by
  rw [List.getD_eq_getElem?_getD, List.getElem?_eq_getElem h]
  rfl
end Zn
namespace Zn
open PySem PySem.Spec PyProof.Rows L2 TL
/-- a comprehension that draws: R tells of what is made so far -/
theorem lcK {J : It} {n : Nat} {G : Hp → Prop} {Y : Nat → Hp → V → Hp → Prop} (w : Walk J n G Y) (S : List Addr) (R : Hp → List V → Prop) {d c : Addr} {g : TG} {tt : TT} {te : TE} {vs : List Nat} {σ : L2.St} {H1 : Hp} {C : Addr} {Qd : Hp → Prop}
    (hz : n < 100000) (hC : H1 C = none) (hCS : C ∉ S) (hD : Drw H1 d c) (hG : ∀ H', Kp S H1 H' → G H')
    (stab : ∀ H H' xs, Kp (C :: S) H H' → R H xs → R H' xs) (h0 : R (upd H1 C (.lst [])) [])
    (hs : ∀ i x H' H'' xs, i < n → Kp S H1 H' → Drw H' d c → H' C = some (.lst xs) → xs.length = i → R H' xs → Y i H' x H'' → (∀ y H4, Kp S H' H4 → Drw H4 d c → R H4 (xs ++ [y]) → ∃ acc, H4 C = some (.lst acc) ∧ acc.length < sizeLine ∧ (∃ zs, Kp S H1 (upd H4 C (.lst (acc ++ [y]))) ∧ Drw (upd H4 C (.lst (acc ++ [y]))) d c ∧ upd H4 C (.lst (acc ++ [y])) C = some (.lst zs) ∧ zs.length = i + 1 ∧ R (upd H4 C (.lst (acc ++ [y]))) zs)) →
      g x (wipe σ vs) H'' fun σ2 H2 => wipe σ2 vs = wipe σ vs ∧ tt σ2 H2 fun b H3 =>
      if b = true then te σ2 H3 fun y H4 => ∃ acc, H4 C = some (.lst acc) ∧ acc.length < sizeLine ∧ (∃ zs, Kp S H1 (upd H4 C (.lst (acc ++ [y]))) ∧ Drw (upd H4 C (.lst (acc ++ [y]))) d c ∧ upd H4 C (.lst (acc ++ [y])) C = some (.lst zs) ∧ zs.length = i + 1 ∧ R (upd H4 C (.lst (acc ++ [y]))) zs)
      else (∃ zs, Kp S H1 H3 ∧ Drw H3 d c ∧ H3 C = some (.lst zs) ∧ zs.length = i + 1 ∧ R H3 zs))
    (hd : ∀ H' xs, Kp S H1 H' → Drw H' d c → H' C = some (.lst xs) → xs.length = n → R H' xs → Qd H') :
    ∃ W : Nat → Nat → Hp → Prop, (∃ m, W 0 m (upd H1 C (.lst []))) ∧ ∀ i m H, W i m H →
      (J.stop i H ∧ Qd H) ∨ (J.go i H ∧ ∃ Nx : Hp → Prop, (∀ H', Nx H' → ∃ m', m' < m ∧ W (i + 1) m' H') ∧ ∀ x H', J.yld i H x H' → g x (wipe σ vs) H' fun σ2 H2 => wipe σ2 vs = wipe σ vs ∧ tt σ2 H2 fun b H3 =>
        if b = true then te σ2 H3 fun y H4 => ∃ acc, H4 C = some (.lst acc) ∧ acc.length < sizeLine ∧ Nx (upd H4 C (.lst (acc ++ [y]))) else Nx H3) := by
  refine lc_it w (fun i H' => ∃ zs, Kp S H1 H' ∧ Drw H' d c ∧ H' C = some (.lst zs) ∧ zs.length = i ∧ R H' zs) ⟨[], (Kp.refl _ _).new hC, hD.same (same_new hC), upd_same, rfl, h0⟩ (fun i H' _ ⟨_, k, _⟩ => hG H' k) (fun i x H' H'' hi ⟨zs, k, D, hz', hl, r⟩ hy => ?_) (fun H' ⟨zs, k, D, hz', hl, r⟩ => hd H' zs k D hz' hl r)
  refine hs i x H' H'' zs hi k D hz' hl r hy fun y H4 k4 D4 r4 => ?_
  have h4 := k4.x _ _ hCS hz'
  refine ⟨zs, h4, lt_line (by omega), zs ++ [y], (k.trans k4).mut hC h4, D4.upd (hD.nd hC) (hD.nc hC), upd_same, by rw [List.length_append, hl]; rfl, ?_⟩
  exact stab H4 _ _ ((Kp.refl _ _).set List.mem_cons_self h4) r4
theorem notin1 {a d : Addr} (h : a ≠ d) : a ∉ [d] := by simpa using h
theorem notin2 {a d e : Addr} (h : a ≠ d) (k : a ≠ e) : a ∉ [d, e] := by simp [h, k]
theorem small0 {w : Int} (h1 : 0 ≤ w) (h8 : w ≤ 8) : 1 ≤ (2 : Int) ^ w.toNat ∧ (2 : Int) ^ w.toNat ≤ 256 := by
  have : w = 0 ∨ w = 1 ∨ w = 2 ∨ w = 3 ∨ w = 4 ∨ w = 5 ∨ w = 6 ∨ w = 7 ∨ w = 8 := by omega
  rcases this with h | h | h | h | h | h | h | h | h <;> subst h <;> decide
theorem ixN_at {n : Nat} {i : Int} (h0 : 0 ≤ i) (h1 : i < (n : Int)) : ixN n i = some i.toNat := by
  have h1' : i.toNat < n := by omega
  unfold ixN
  simp [h0, h1, h1']
theorem ints_ex {ns : List Int} {i : Int} (h0 : 0 ≤ i) (h1 : i < (ns.length : Int)) : atI (ns.map V.int) i = some (.int (ns.getD i.toNat 0)) := ints_at (j := i.toNat) (by omega) (getD_at (by omega))
theorem getD_mem {ns : List Int} {j : Nat} (h : j < ns.length) : ns.getD j 0 ∈ ns := List.mem_of_getElem? (getD_at h)
end Zn
/-! places within a def's own text, by numbers -/
namespace Zn
open PySem
def exK : Expr → List Expr
  | .BoolOp _ vs _ => vs
  | .BinOp l _ r _ => [l, r]
  | .UnaryOp _ o _ => [o]
  | .IfExp t b o _ => [t, b, o]
  | .ListComp e gs _ _ => e :: gs.flatMap fun g => g.iter :: g.ifs
  | .Compare l _ cs _ => l :: cs
  | .Call f as _ _ => f :: as
  | .Attribute v _ _ => [v]
  | .Subscript v s _ => [v, s]
  | .Starred v _ => [v]
  | .List es _ => es
  | .Tuple es _ _ => es
  | _ => []
def stK : Stmt → List Expr
  | .Return (some v) _ => [v]
  | .Assign ts v _ => v :: ts
  | .AugAssign t _ v _ => [v, t]
  | .For t i _ _ _ => [i, t]
  | .While t _ _ _ => [t]
  | .If t _ _ _ => [t]
  | .Expr v _ => [v]
  | _ => []
def blK : Stmt → List (List Stmt)
  | .For _ _ b _ _ => [b]
  | .While _ b _ _ => [b]
  | .If _ b o _ => [b, o]
  | _ => []
def p0 : Pos := ⟨0, 0, 0, 0⟩
def stA (ss : List Stmt) (i : Nat) : Stmt := ss.getD i (.Pass p0)
def blA (s : Stmt) (i : Nat) : List Stmt := (blK s).getD i []
def exA (s : Stmt) (i : Nat) : Expr := (stK s).getD i (.Name "" p0)
def exP (e : Expr) : List Nat → Expr
  | [] => e
  | i :: is => exP ((exK e).getD i (.Name "" p0)) is
def lcS (d : Scope) : Expr → Scope
  | .ListComp _ _ s _ => s
  | _ => d
end Zn
namespace Zn
open PySem PySem.Spec PyProof.Rows L2
theorem lookup_relabF {f : Str × NameKind → Str × NameKind} (hf : ∀ n k, f (n, k) = (n, .cell) ∨ f (n, k) = (n, k)) : ∀ {names : List (Str × NameKind)} {x : Str}, names.lookup x = some .cell ∨ names.lookup x = some .free → (names.map f).lookup x = some .cell ∨ (names.map f).lookup x = some .free
  | [], _, h => by simp at h
  | (n, k) :: names, x, h => by
    rw [List.map_cons]
    rw [List.lookup_cons] at h
    rcases hf n k with e | e <;> rw [e, List.lookup_cons] <;> cases hx : x == n <;> rw [hx] at h
    · exact lookup_relabF hf h
    · exact .inl rfl
    · exact lookup_relabF hf h
    · exact h
theorem lookup_relab {env : Env} {names : List (Str × NameKind)} {x : Str} (h : names.lookup x = some .cell ∨ names.lookup x = some .free) :
    (names.map fun (n, k) => if (k == NameKind.free && env.scope.kind == .function && env.kindOf n == some .cell) then (n, NameKind.cell) else (n, k)).lookup x = some .cell ∨ (names.map fun (n, k) => if (k == NameKind.free && env.scope.kind == .function && env.kindOf n == some .cell) then (n, NameKind.cell) else (n, k)).lookup x = some .free := by
  refine lookup_relabF (fun n k => ?_) h
  dsimp only
  split
  · exact .inl rfl
  · exact .inr rfl
theorem blk2 {N : List Str} {sc scope : Scope} {own : List (Str × Nat)} {env : Env} (h : BlkOk N sc scope own) : BlkOk N (relabel sc env) scope own :=
  ⟨h.kind, h.uniq, h.ix, fun y hy e => lookup_relab (h.free y hy e), h.own⟩
end Zn
namespace Zn
open PySem PySem.Spec PyProof.Rows L2 TL
theorem r_tupOfL {K : PySem.W.Frag} {H : Hp} {p : Addr} {ys : List V} {R : V → Hp → Prop} (h : SqL K H p ys) (q : ∀ l, H l = none → R (.ref l) (upd H l (.tup ys))) :
    ∃ p' ys', [V.ref p] = [V.ref p'] ∧ ((SqL K H p' ys' ∧ ∀ l, H l = none → R (.ref l) (upd H l (.tup ys'))) ∨ (SqT K H p' ys' ∧ R (.ref p') H)) := ⟨p, ys, rfl, .inl ⟨h, q⟩⟩
theorem r_tupOfT {K : PySem.W.Frag} {H : Hp} {p : Addr} {ys : List V} {R : V → Hp → Prop} (h : SqT K H p ys) (q : R (.ref p) H) :
    ∃ p' ys', [V.ref p] = [V.ref p'] ∧ ((SqL K H p' ys' ∧ ∀ l, H l = none → R (.ref l) (upd H l (.tup ys'))) ∨ (SqT K H p' ys' ∧ R (.ref p') H)) := ⟨p, ys, rfl, .inr ⟨h, q⟩⟩
theorem r_lst1 {K : PySem.W.Frag} {H : Hp} {p : Addr} {ys : List V} {R : V → Hp → Prop} (h : SqL K H p ys ∨ SqT K H p ys) (q : ∀ l, H l = none → R (.ref l) (upd H l (.lst ys))) :
    ∃ p' ys', [V.ref p] = [V.ref p'] ∧ (SqL K H p' ys' ∨ SqT K H p' ys') ∧ ∀ l, H l = none → R (.ref l) (upd H l (.lst ys')) := ⟨p, ys, rfl, h, q⟩
theorem cutV_most {xs : List V} : cutV xs none (some (-1)) = xs.take (xs.length - 1) := by
  unfold cutV
  have e : HT.sIx xs.length xs.length (some (-1)) = xs.length - 1 := by
    show (if (-1 : Int) < 0 then ((-1 : Int) + (xs.length : Int)).toNat else min (-1 : Int).toNat xs.length) = _
    rw [if_pos (by decide)]
    omega
  rw [e]
  show (xs.drop 0).take (xs.length - 1 - 0) = _
  rw [List.drop_zero, Nat.sub_zero]
theorem atI_end {α : Type} {xs : List α} {v : α} (h : xs[xs.length - 1]? = some v) : atI xs (-1) = some v := by
  have hl : xs.length - 1 < xs.length := (List.getElem?_eq_some_iff.mp h).1
  have e : ixN xs.length (-1) = some (xs.length - 1) := by
    unfold ixN
    rw [if_neg (by decide), if_pos (by omega)]
    congr 1
    omega
  unfold atI
  rw [e]
  exact h
theorem map_cutV {ns : List Int} {lo hi : Option Int} : ∃ ms : List Int, cutV (ns.map V.int) lo hi = ms.map V.int ∧ ms.length ≤ ns.length := by
  unfold cutV
  rw [← List.map_drop, ← List.map_take]
  refine ⟨_, rfl, ?_⟩
  rw [List.length_take, List.length_drop]
  omega
end Zn
namespace Zn
open PySem PySem.Spec PyProof.Rows L2 TL
abbrev rTupOf (K : PySem.W.Frag) : List V → Hp → VK → Prop := fun xs H Q => ∃ p ys, xs = [.ref p] ∧ ((SqL K H p ys ∧ ∀ l, H l = none → Q (.ref l) (upd H l (.tup ys))) ∨ (SqT K H p ys ∧ Q (.ref p) H))
abbrev rLstOf (K : PySem.W.Frag) : List V → Hp → VK → Prop := fun xs H Q => ∃ p ys, xs = [.ref p] ∧ (SqL K H p ys ∨ SqT K H p ys) ∧ ∀ l, H l = none → Q (.ref l) (upd H l (.lst ys))
abbrev rLenS (K : PySem.W.Frag) : List V → Hp → VK → Prop := fun xs H Q => ∃ p ys, xs = [.ref p] ∧ (SqL K H p ys ∨ SqT K H p ys) ∧ Q (.int ys.length) H
end Zn
namespace Zn
open PySem PySem.Spec PyProof.Rows L2 TL
theorem r_tpL {K : PySem.W.Frag} {H : Hp} {p : Addr} {ys : List V} {Q : VK} (h : SqL K H p ys) (q : ∀ l, H l = none → Q (.ref l) (upd H l (.tup ys))) : rTupOf K [.ref p] H Q := ⟨p, ys, rfl, .inl ⟨h, q⟩⟩
theorem r_tpT {K : PySem.W.Frag} {H : Hp} {p : Addr} {ys : List V} {Q : VK} (h : SqT K H p ys) (q : Q (.ref p) H) : rTupOf K [.ref p] H Q := ⟨p, ys, rfl, .inr ⟨h, q⟩⟩
theorem r_lsO {K : PySem.W.Frag} {H : Hp} {p : Addr} {ys : List V} {Q : VK} (h : SqL K H p ys ∨ SqT K H p ys) (q : ∀ l, H l = none → Q (.ref l) (upd H l (.lst ys))) : rLstOf K [.ref p] H Q := ⟨p, ys, rfl, h, q⟩
theorem r_lnS {K : PySem.W.Frag} {H : Hp} {p : Addr} {ys : List V} {Q : VK} (h : SqL K H p ys ∨ SqT K H p ys) (q : Q (.int ys.length) H) : rLenS K [.ref p] H Q := ⟨p, ys, rfl, h, q⟩
theorem cat_ints {a b : List Int} : a.map V.int ++ b.map V.int = (a ++ b).map V.int := List.map_append.symm
theorem cat_int1 {a : List Int} {u : Int} : a.map V.int ++ [V.int u] = (a ++ [u]).map V.int := by rw [List.map_append]; rfl
end Zn
namespace Zn
open PySem PySem.Spec PyProof.Rows L2 TL
theorem fz {K : PySem.W.Frag} {a b : Addr} {xs ys : List V} {g : TG} {tb : TS} {nx : L2.St → Hp → Prop} {rt : VK} {σ : L2.St} {H : Hp} (hl : xs.length = ys.length) (Pv : Nat → L2.St → Hp → Prop) (h0 : Pv 0 σ H) (hq : ∀ i σ H, Pv i σ H → SqT K H a xs ∧ SqT K H b ys)
    (hs : ∀ (i : Nat) (x y : V) (T : Addr) (σ : L2.St) (H : Hp), xs[i]? = some x → ys[i]? = some y → Pv i σ H → H T = none → g (.ref T) σ (upd H T (.tup [x, y])) fun σ2 H2 => tb { nx := Pv (i + 1), rt := rt, bk := nx, ct := Pv (i + 1) } σ2 H2) (hd : ∀ σ H, Pv xs.length σ H → nx σ H) :
    ∃ W : Nat → Nat → L2.St → Hp → Prop, (∃ m, W 0 m σ H) ∧ ∀ i m σ H, W i m σ H →
      ((RZ.ItzT K a b).stop i H ∧ nx σ H) ∨ ((RZ.ItzT K a b).go i H ∧ ∃ N : L2.St → Hp → Prop, (∀ σ' H', N σ' H' → ∃ m', m' < m ∧ W (i + 1) m' σ' H') ∧ ∀ v H', (RZ.ItzT K a b).yld i H v H' → g v σ H' fun σ2 H2 => tb { nx := N, rt := rt, bk := nx, ct := N } σ2 H2) :=
  RZ.for_zipT (D := { nx := nx, rt := rt, bk := nx, ct := nx }) hl Pv h0 hq hs hd
end Zn
namespace Zn
open PySem PySem.Spec PyProof.Rows L2 TL
theorem r_nn {R : Prop} (q : R) : V.non = V.non ∧ R := ⟨rfl, q⟩
end Zn
local macro_rules | `(tactic| walk_at "rs1") => `(tactic| first
  | (with_reducible refine Zn.r_ss ?_)
  | (with_reducible refine Zn.r_chain ?_)
  | (with_reducible refine Zn.r_M1 ?_)
  | (with_reducible refine Zn.r_truI ?_)
  | ((with_reducible refine' Zn.r_truL ?h ?_); (case h => walk_at "fd"))
  | ((with_reducible refine' Zn.r_truT ?h ?_); (case h => walk_at "fd"))
  | (with_reducible refine Zn.r_exS ?_)
  | (with_reducible refine Zn.r_s1 ?_)
  | (with_reducible refine Zn.r_sign ?_)
  | ((with_reducible refine Zn.r_slS ?h ?_); (case h => first | assumption | omega))
  | (with_reducible refine Zn.r_lenS ?_)
  | (with_reducible refine Zn.r_istr ?_)
  | (with_reducible refine Zn.r_1s ?_)
  | ((with_reducible refine Zn.r_62 ?h1 ?h2 ?_); (case h1 => first | omega | decide); (case h2 => first | omega | decide))
  | ((with_reducible refine' Zn.r_inY ?h ?e1 ?e2 ?_); (case h => first | exact .inr (Zn.st_of (by walk_at "fd")) | exact .inl (Zn.sl_of (by walk_at "fd")) | exact .inl (by assumption) | exact .inr (by assumption)); (case e1 => rfl); (case e2 => rfl))
  | ((with_reducible refine' Zn.r_inN ?h ?e1 ?e2 ?_); (case h => first | exact .inr (Zn.st_of (by walk_at "fd")) | exact .inl (Zn.sl_of (by walk_at "fd")) | exact .inl (by assumption) | exact .inr (by assumption)); (case e1 => rfl); (case e2 => rfl))
  | (with_reducible refine Zn.r_while ?_)
  | (with_reducible refine Zn.r_zip ?_)
  | (with_reducible refine Zn.r_zipM ?_)
  | (with_reducible refine Zn.r_lstRev ?_)
  | (with_reducible refine Zn.r_star ?_)
  | (with_reducible refine Zn.r_dget ?_)
  | (with_reducible refine Zn.r_dni ?_)
  | (with_reducible refine Zn.r_din ?_)
  | (with_reducible refine Zn.r_dput ?_)
  | (with_reducible refine Zn.r_nn ?_)
  | (walk_at "rd1")
  | ((with_reducible refine' Zn.r_ixT ?h ?e ?_); (case h => first | exact Zn.st_of (by walk_at "fd") | assumption); (case e => first | exact Zn.at1 | exact Zn.at2 | exact Zn.at3 | exact Zn.at0 | exact Zn.at4))
  | ((with_reducible refine Zn.r_lz ?h ?_); (case h => first | assumption | omega)))
local macro_rules | `(tactic| walk_at "rs") => `(tactic| ((try dsimp only); (repeat ((walk_at "rs1"); (try dsimp only)))))
local macro_rules | `(tactic| walk_at "rt") => `(tactic| ((try dsimp only); (repeat ((fail_if_success (with_reducible refine Zn.r_seq ?_)); (walk_at "rs1"); (try dsimp only)))))
/-! rules of my own: extend by a tuple, a read that is one of two, defs with a default -/
namespace Zn
open PySem PySem.Spec PyProof.Rows L2 TL
theorem meets_extT (l : Addr) (items : Array Value) (n : Nat) (b : Addr) (items2 : Array Value) (hs0 : ¬(!items.isEmpty && Builtin.List.listTooLong (items.size + items2.size)) = true) (hs1 : items.size ≤ sizeLine) (hs2 : items.size + items2.size ≤ sizeLine) :
    Meets (Builtin.«list.extend» ⟨[.ref l, .ref b], []⟩) (fun _ R s => s.heap.get? l = some { cls := .type "list", data := .seq items n } ∧ IsTup s.heap b items2 ∧ R (.ok (.ret Value.none)) { s with heap := s.heap.update l (Obj.mapSeq fun x => x ++ items2) }) :=
  .of_wp fun prog w A R s h => by
    obtain ⟨hl, ⟨o, ho, hc, n2, hd⟩, h⟩ := h
    have hz' : (items ++ items2).size ≤ sizeLine + 1 := by rw [Array.size_append]; omega
    show wpAny _ A.in1 (Builtin.List.listExtendWith (.ref l) (.ref b) .none) _ _ s
    unfold Builtin.List.listExtendWith
    refine wpAny_bind (wpAny_typeOf ⟨o, ho, hc⟩ ?_)
    have h1 : (Builtin.List.listSameRef (.ref l) (.ref b) || Value.type "tuple" == Value.type "list" || Value.type "tuple" == Value.type "tuple") = true := by simp
    simp only [h1, if_true]
    refine wpAny_bind ?_
    unfold Builtin.List.listItems
    refine wpAny_bind (wpAny_seqItems ho hd (wpAny_pure ?_))
    refine wpAny_bind ?_
    refine wpAny_bind (wpAny_seqItems hl rfl (wpAny_pure ?_))
    simp only [if_neg hs0]
    show wpAny _ A.in1 (updateSeq l (· ++ items2) >>= fun _ => ret .none) _ _ s
    refine wpAny_bind (wpAny_updateSeq hl rfl (hz := hs1) (_hz' := hz') ?_)
    exact wpAny_pure ⟨_, rfl, h⟩
section
variable {X : Cx}
def rExtT (K : PySem.W.Frag) : V → List V → Hp → VK → Prop := fun x vs H Q => ∃ l b xs zs, x = .ref l ∧ vs = [.ref b] ∧ H l = some (.lst xs) ∧ SqT K H b zs ∧ xs.length + zs.length ≤ sizeLine ∧ Q .non (upd H l (.lst (xs ++ zs)))
theorem mt_extT : MtM X "list.extend" (rExtT X.K) := by
  intro pins s σ H x vs v us Q I rx rv h
  obtain ⟨l, b, xs, zs, rfl, rfl, hH, hB, hz, q⟩ := h
  cases rx
  obtain ⟨u, rfl, ru⟩ := rv.one
  cases ru
  obtain ⟨z, its, n, r, hl, e⟩ := I.lstM hH
  obtain ⟨its2, r2, e2, z2⟩ := I.tuple hB
  have hl2 := r2.length
  have hsz : its.toArray.size + its2.toArray.size ≤ sizeLine := by rw [List.size_toArray, List.size_toArray]; omega
  have hlong : ¬ (!its.toArray.isEmpty && Builtin.List.listTooLong (its.toArray.size + its2.toArray.size)) = true := by
    rw [notLongL hsz, Bool.and_false]
    exact Bool.false_ne_true
  refine call_meets PySem.F.slot_list_extend ⟨_, e, rfl⟩ PySem.F.entry_list_extend (PySem.F.args_list_extend_2 _ _)
    (meets_extT l its.toArray n b its2.toArray hlong (by rw [List.size_toArray]; omega) hsz) ⟨e, e2, ?_⟩
  refine ⟨.non, _, I.lset (its' := its ++ its2) hH e (by simp) (r.append r2) ?_, rfl, q⟩
  rw [List.length_append]
  omega
/-- one of two readings -/
def tEi (t1 t2 : TE) : TE := fun σ H Q => t1 σ H Q ∨ t2 σ H Q
theorem pe_ei {e : Expr} {t1 t2 : TE} (h1 : PE X e t1) (h2 : PE X e t2) : PE X e (tEi t1 t2) :=
  ⟨fun pins s σ H Q I h => h.elim (h1.run pins s σ H Q I) (h2.run pins s σ H Q I)⟩
end
theorem r_extT {K : PySem.W.Frag} {H : Hp} {Q : VK} {p b : Addr} {xs zs : List V} (h : H p = some (.lst xs)) (hb : SqT K H b zs) (e : xs.length + zs.length ≤ sizeLine) (q : Q .non (upd H p (.lst (xs ++ zs)))) : rExtT K (.ref p) [.ref b] H Q := ⟨p, b, xs, zs, rfl, rfl, h, hb, e, q⟩
theorem r_dget {σ : L2.St} {H : Hp} {Q : VK} {td ty : TE} (q : td σ H fun x H1 => ty σ H1 fun y H2 => ∃ a v, x = .ref a ∧ DGet H2 a y (some v) ∧ Q v H2) : tDGet td ty σ H Q := q
theorem r_dni {σ : L2.St} {H : Hp} {Q : VK} {td ty : TE} (q : ty σ H fun y H1 => td σ H1 fun x H2 => ∃ a o, x = .ref a ∧ DGet H2 a y o ∧ Q (.bl (!o.isSome)) H2) : tDNotIn ty td σ H Q := q
theorem r_din {σ : L2.St} {H : Hp} {Q : VK} {td ty : TE} (q : ty σ H fun y H1 => td σ H1 fun x H2 => ∃ a o, x = .ref a ∧ DGet H2 a y o ∧ Q (.bl o.isSome) H2) : tDIn ty td σ H Q := q
theorem r_dput {σ : L2.St} {H : Hp} {D : Ends} {td ty tv : TE} (q : tv σ H fun v H1 => td σ H1 fun x H2 => ty σ H2 fun y H3 => ∃ a H4, x = .ref a ∧ DPut H3 a y v H4 ∧ D.nx σ H4) : sDPut td ty tv D σ H := q
/-- dicts with ints as keys, at most 63 entries and so on -/
theorem dgi {H : Hp} {a : Addr} {kvs : List (Key × V)} {i : Int} (h : H a = some (.dK kvs)) : DGet H a (.int i) (valV kvs (.inl i)) := .k (k := Sum.inl i) h
theorem dpi {H : Hp} {a : Addr} {kvs : List (Key × V)} {i : Int} {v : V} (h : H a = some (.dK kvs)) (hl : kvs.length < sizeLine) : DPut H a (.int i) v (upd H a (.dK (putK kvs (.inl i) v))) := .k (k := Sum.inl i) h hl
section
variable {X : Cx}
theorem pe_calS {x : Str} {k : Nat} {sp : Sp} {e : Expr} {es : List Expr} {t : TA} {p pos : Pos} (C : Cal X.prog X.w X.K X.mg X.base x k sp) (hr : Room k X.A) (hg : Gl X x) (ha : PA X (e :: es) t)
    (hdb : (x == ("__debug__" : Str)) = false := by decide) (he : starEach (e :: es) X.env = (false, eval e X.env) :: starEach es X.env := by rfl)
    (hst : (backTo pos (starEach es X.env)).any (·.1) = true := by rfl) : PE X (.Call (.Name x p) (e :: es) [] pos) (tCal sp t) := by
  obtain ⟨f, hm, F, hk⟩ := C
  exact StX.pe_callS2 F hr hk hg hm pass0 ha hdb he hst
end
theorem r_star {K : PySem.W.Frag} {te : TE} {t : TA} {σ : L2.St} {H : Hp} {Q : List V → Hp → Prop} (q : te σ H fun x H1 => ∃ p xs, x = V.ref p ∧ (SqT K H1 p xs ∨ SqL K H1 p xs) ∧ t σ H1 fun ys H2 => Q (xs ++ ys) H2) : StX.tStar K te t σ H Q := q
/-- from a def with defaults to its call without them -/
theorem cal_ofD {P : Program} {w : World} {K : PySem.W.Frag} {mg : Str → Option Value} {base : Heap} {x : Str} {f : Addr} {fd : FuncData} {ps : List Str} {k : Nat} {sp : Sp} {dvs : List V} (hm : mg x = some (.ref f)) (hk : PySem.W.keepIn K (.ref f) = true)
    (hb : ∃ ds, Vals dvs ds ∧ Binds K fd ps ds) (G : FnOk P w K mg base CX0 k f fd ps sp) : Cal P w K mg base x k (fun vs H Q E => sp (vs ++ dvs) H Q E) := by
  obtain ⟨ds, hd, hb⟩ := hb
  exact ⟨f, hm, (G.raw hb hd).imp fun vs H Q E h => h, hk⟩
end Zn
/-! list(reversed(a list)) -/
namespace Zn
open PySem PySem.Spec PyProof.Rows L2 TL
open Sem (wp)
section
variable {prog : Program} {w : World} {A : Around} {E : Value → Shared → Prop} {s : Shared}
theorem ext_rev {R : Result → Shared → Prop} {it l : Addr} {items : Array Value} (hh : A.handled = none) (hit : s.heap.IsRevIter it l ((items.size : Int) - 1)) (hl : s.heap.IsList l items) (hne : l ≠ it) (hn : items.size ≤ sizeLine)
    (S : Addr) (res : Value) (c₀ : Nat) (hS : s.heap.get? S = some { cls := .type "list", data := .seq #[] c₀ }) (hSi : S ≠ it) (hSl : S ≠ l)
    (hR : ∀ h' tk acc' c', (∀ b o, b ≠ S → b ≠ it → s.heap.get? b = some o → h'.get? b = some o) → h'.get? S = some { cls := .type "list", dict := none, data := .seq acc' c', slots := #[] } →
      ItemsOf (fun i v => items[items.size - 1 - i]? = some v) acc' items.size → R (.ok (.ret res)) { s with heap := h', toks := tk }) :
    wpAny (model prog w) A.in1 (Builtin.List.listExtendWith (.ref S) (.ref it) res)
      (fun fin s' => match fin with | .done f => R (.ok f) s' | .again c' => c'.quiet = true ∧ codeAny (model prog w) A c' R s') (fun e s' => R (.error e) s') s := by
  have W := (Walks.listRev (prog := prog) (w := w) (A := A.in1) hh it l hne items).toS
  have hSf : S ∉ [it, l] := by simp only [List.mem_cons, List.not_mem_nil, or_false, not_or]; exact ⟨hSi, hSl⟩
  have hT : s.TypeIs (.ref it) "list_reverseiterator" := Heap.IsRevIter.typeIs (s := s) hit
  have h1 : Builtin.List.listSameRef (.ref S) (.ref it) = false := by simp [Builtin.List.listSameRef, hSi]
  unfold Builtin.List.listExtendWith
  refine wpAny_bind (wpAny_typeOf hT ?_)
  rw [if_neg (by rw [h1]; decide)]
  refine wpAny_bind (wpAny_pyIter_revIter (s := s) hit ?_)
  refine wpAny_bind (wpAny_holding ?_)
  unfold Builtin.List.listLengthHint
  refine wpAny_bind (wpAny_specialOf hT RT.nolen_lri ?_)
  show wpAny _ A.in1 (specialOf (Value.ref it) (Str.ofString "__length_hint__") >>= _) _ _ _
  refine wpAny_bind (wpAny_specialOf hT RT.hint_lri ?_)
  generalize hid : ("list_reverseiterator.__length_hint__" : String) = id0
  wp_delta
  rw [show splitId id0 = some ("list_reverseiterator", "__length_hint__") from by subst hid; decide +kernel]
  subst hid
  refine wpAny_bind (wpAny_isInstance (b := true) hT (by rw [isSubtype_type]; kernel_rfl) ?_)
  refine wpAny_pure ?_
  rw [if_neg (by decide)]
  have e0 : ((items.size : Nat) : Int) - 1 - ((0 : Nat) : Int) = (items.size : Int) - 1 := by omega
  refine wpAny_pure ⟨plainId_quiet F.plain_extend_loop _, codeAny_extend_loopS W hn _ hSf _ items.size 0 _ _ _ rfl (Nat.zero_le _) ⟨Nat.zero_le _, by rw [e0]; exact hit, hl⟩ hS (ItemsOf.nil _) fun s' acc' c' hm hS' hacc => ?_⟩
  rw [Moved.eq_with hm]
  refine hR s'.heap s'.toks acc' c' (fun b o hb hbi e => hm.heap b o (fun hmem => ?_) e) hS' hacc
  rcases List.mem_cons.mp hmem with e' | hmem
  · exact hb e'
  · exact hbi (List.mem_singleton.mp hmem)
theorem init_rev {R : Result → Shared → Prop} {it l : Addr} {items : Array Value} (hh : A.handled = none) (hit : s.heap.IsRevIter it l ((items.size : Int) - 1)) (hl : s.heap.IsList l items) (hne : l ≠ it) (hn : items.size ≤ sizeLine)
    (S : Addr) (hS : s.heap.get? S = some { cls := .type "list", data := .seq #[] }) (hSi : S ≠ it) (hSl : S ≠ l)
    (hR : ∀ h' tk acc' c', (∀ b o, b ≠ S → b ≠ it → s.heap.get? b = some o → h'.get? b = some o) → h'.get? S = some { cls := .type "list", dict := none, data := .seq acc' c', slots := #[] } →
      ItemsOf (fun i v => items[items.size - 1 - i]? = some v) acc' items.size → R (.ok (.ret .none)) { s with heap := h', toks := tk }) :
    wpAny (model prog w) A.in1 (Builtin.«list.__init__» ⟨[.ref S, .ref it], []⟩)
      (fun fin s' => match fin with | .done f => R (.ok f) s' | .again c' => c'.quiet = true ∧ codeAny (model prog w) A c' R s') (fun e s' => R (.error e) s') s := by
  show wpAny _ _ (do let old ← Builtin.List.listItems (.ref S); Builtin.List.listUpdate (.ref S) (fun _ => #[]); letGo old.toList.reverse; Builtin.List.listExtendWith (.ref S) (.ref it) .none) _ _ s
  refine wpAny_bind ?_
  unfold Builtin.List.listItems
  refine wpAny_bind (wpAny_seqItems hS rfl (wpAny_pure ?_))
  show wpAny _ _ (updateSeq S (fun _ => #[]) >>= fun _ => letGo (#[] : Array Value).toList.reverse >>= fun _ => Builtin.List.listExtendWith (.ref S) (.ref it) .none) _ _ s
  refine wpAny_bind (wpAny_updateSeq hS rfl ?_)
  have hS₂ := Heap.get?_update_self (Obj.mapSeq (fun _ => (#[] : Array Value))) hS rfl
  have oth : ∀ b o, b ≠ S → s.heap.get? b = some o → (s.heap.update S (Obj.mapSeq (fun _ => (#[] : Array Value)))).get? b = some o :=
    fun b o hb e => (Heap.get?_update_other _ _ (Ne.symm hb)).trans e
  refine wpAny_bind (wpAny_letGo ?_)
  refine ext_rev (s := { s with heap := s.heap.update S (Obj.mapSeq (fun _ => (#[] : Array Value))) }) hh (hit.at fun o e => oth it o (Ne.symm hSi) e) (by obtain ⟨ol, hol, r⟩ := hl; exact ⟨ol, oth l ol (Ne.symm hSl) hol, r⟩) hne hn S .none _ hS₂ hSi hSl fun h' tk acc' c' hk hS' hacc => ?_
  exact hR h' tk acc' c' (fun b o hb hbi e => hk b o hb hbi (oth b o hb e)) hS' hacc
theorem call_list_rev {Q : Value → Shared → Prop} {it l : Addr} {items : Array Value} (hh : A.handled = none) (hit : s.heap.IsRevIter it l ((items.size : Int) - 1)) (hl : s.heap.IsList l items) (hne : l ≠ it) (hn : items.size ≤ sizeLine)
    (hQ : ∀ h' tk acc' c', (∀ b o, b ≠ it → s.heap.get? b = some o → h'.get? b = some o) →
      h'.get? s.heap.objs.size = some { cls := .type "list", dict := none, data := .seq acc' c', slots := #[] } → ItemsOf (fun i v => items[items.size - 1 - i]? = some v) acc' items.size → Q (.ref s.heap.objs.size) { s with heap := h', toks := tk }) :
    wpAny (model prog w) A (call (.type "list") [.ref it]) Q E s := by
  refine callType_codes (Q₁ := fun obj s₁ => obj = .ref s.heap.objs.size ∧ s₁ = { s with heap := s.heap.push { cls := .type "list", data := .seq #[] } }) F.called_list (F.typeCall_list_1 _) F.entry_list_init
    (code_list_new _ ⟨rfl, rfl⟩) fun obj s₁ h₁ => ?_
  obtain ⟨rfl, rfl⟩ := h₁
  obtain ⟨oi, hoi, _⟩ := id hit
  obtain ⟨ol, hol, _⟩ := id hl
  have hSi : s.heap.objs.size ≠ it := Nat.ne_of_gt (Heap.lt_size hoi)
  have hSl : s.heap.objs.size ≠ l := Nat.ne_of_gt (Heap.lt_size hol)
  have hS : (s.heap.push { cls := .type "list", data := .seq #[] }).get? s.heap.objs.size = some { cls := .type "list", data := .seq #[] } := Heap.get?_push_size _ rfl
  refine ⟨⟨_, hS, rfl⟩, F.args_list_init_2 _ _, init_rev (A := A.in1) (s := { s with heap := s.heap.push { cls := .type "list", data := .seq #[] } }) hh (hit.at fun o e => Heap.get?_push_of_some _ e) (hl.push _) hne hn _ hS hSi hSl fun h' tk acc' c' hk hS' hacc => ?_⟩
  exact ⟨rfl, hQ h' tk acc' c' (fun b o hbi e => hk b o (Nat.ne_of_lt (Heap.lt_size e)) hbi (Heap.get?_push_of_some _ e)) hS' hacc⟩
end
section
variable {X : Cx}
/-- list(reversed(x)), x a list: a new list -/
def tLstRev (K : PySem.W.Frag) (te : TE) : TE := fun σ H Q => te σ H fun v H1 => ∃ (a : Addr) (xs : List V), v = .ref a ∧ SqL K H1 a xs ∧ ∀ q, H1 q = none → Q (.ref q) (upd H1 q (.lst xs.reverse))
theorem pe_lstRev {e : Expr} {te : TE} {p p2 pos pos2 : Pos} (hc : X.calm = true) (hg : Gl X "list") (hm : X.mg "list" = none) (hg2 : Gl X "reversed") (hm2 : X.mg "reversed" = none) (he : PE X e te)
    (hs : starEach [e] X.env = (false, eval e X.env) :: starEach [] X.env := by rfl)
    (hs2 : starEach [.Call (.Name "reversed" p2) [e] [] pos2] X.env = (false, eval (.Call (.Name "reversed" p2) [e] [] pos2) X.env) :: starEach [] X.env := by rfl) :
    PE X (.Call (.Name "list" p) [.Call (.Name "reversed" p2) [e] [] pos2] [] pos) (tLstRev X.K te) := by
  refine ⟨fun pins s σ H Q I h => ?_⟩
  refine Call_ (ld_blt I hg hm boot_list (PyProof.Rows.callWith_type1 (args_cons (Call_ (ld_blt I hg2 hm2 PyProof.Rows.boot_reversed (PyProof.Rows.callWith_type1 (args_cons (thn (he.run pins s σ H _ I h) fun u s1 ⟨v, H1, I1, r1, q1⟩ => args_nil ?_) hs) hs rfl))) hs2) hs2 rfl))
  obtain ⟨a, xs, ev, hq, q⟩ := q1
  subst ev
  obtain rfl : u = Value.ref a := r1
  obtain ⟨its, rv, p', hz⟩ := I1.list hq
  refine call_reversed_list p'.isList (args_nil ?_)
  have k0 : ∀ b o, s1.heap.get? b = some o → (s1.heap.push (revObj a ((its.toArray.size : Int) - 1))).get? b = some o := fun b o e => Heap.get?_push_of_some _ e
  have I2 : Inv X pins σ H1 { s1 with heap := s1.heap.push (revObj a ((its.toArray.size : Int) - 1)) } := I1.kept (t' := s1.toks) k0
  obtain ⟨f0, f1, f2, f3, f4, f5⟩ := I1.fpOk (H' := H1) (b := s1.heap.objs.size) (Nat.le_refl _) (I1.hok.fresh (Nat.le_refl _))
  have hl := p'.isList
  obtain ⟨ol, hol, _⟩ := id hl
  have hne : a ≠ s1.heap.objs.size := Nat.ne_of_lt (Heap.lt_size hol)
  have hn : its.toArray.size ≤ sizeLine := by rw [List.size_toArray, ← rv.length]; exact hz
  refine call_list_rev (s := { s1 with heap := s1.heap.push (revObj a ((its.toArray.size : Int) - 1)) }) (I1.ok.hd hc) ⟨_, Heap.get?_push_size _ rfl, rfl, rfl⟩ (hl.push _) hne hn fun h' tk acc c' hk e' hi => ?_
  have fr := I2.hok.fresh (Nat.le_refl (s1.heap.push (revObj a ((its.toArray.size : Int) - 1))).objs.size)
  have I3 : Inv X pins σ H1 { s1 with heap := h', toks := tk } := I2.turned (t' := tk) (fun b o hb e => hk b o hb e) f0 f1 f3 f4 f5
  refine ⟨.ref _, upd H1 _ (.lst xs.reverse), I2.turnedNew (t' := tk) (ch := [s1.heap.objs.size]) (fun b o hb e => hk b o (by simpa using hb) e) (fun b hb => ?_) (Nat.le_refl _) (show ObjOk X.prog X.w _ _ _ (.lst xs.reverse) from ⟨by rw [List.length_reverse]; exact hz, acc.toList, c', RT.vals_rev rv hi, ?_⟩), rfl, q _ fr⟩
  · rw [List.mem_singleton] at hb
    subst hb
    exact ⟨f0, f1, f2, f3, f4, f5⟩
  · rw [Array.toArray_toList]
    exact e'
end
theorem r_lstRev {K : PySem.W.Frag} {te : TE} {σ : L2.St} {H : Hp} {Q : VK} (q : te σ H fun v H1 => ∃ (a : Addr) (xs : List V), v = .ref a ∧ SqL K H1 a xs ∧ ∀ q, H1 q = none → Q (.ref q) (upd H1 q (.lst xs.reverse))) : tLstRev K te σ H Q := q
end Zn
/-! zip of a tuple and a list (or of any two of both kinds): one notion of a thing walked by an iterator of its own -/
namespace Zn
open PySem PySem.Spec PyProof.Rows L2 TL
/-- it stands at the k-th of the items of l: a tuple (true) or a list -/
def SI : Bool → Heap → Addr → Addr → Nat → Array Value → Prop
  | false, h, it, l, k, xs => h.IsListIter it l k ∧ h.IsList l xs
  | true, h, it, l, k, xs => h.IsTupleIter it l k ∧ h.IsTuple l xs
theorem SI.ext {t : Bool} {h h' : Heap} {it l a : Addr} {k : Nat} {xs : Array Value} (x : SI t h it l k xs) (hs : Heap.ExtBut a h h') (n1 : it ≠ a) (n2 : l ≠ a) : SI t h' it l k xs := by
  cases t
  · exact ⟨x.1.extBut hs n1, x.2.extBut hs n2⟩
  · exact ⟨x.1.extBut hs n1, x.2.extBut hs n2⟩
section
variable {prog : Program} {w : World} {A : Around} {E : Value → Shared → Prop} {s : Shared} {t u : Bool}
theorem SI.next {it l : Addr} {i : Nat} {items : Array Value} {x : Value} {Q : Value → Shared → Prop} (hi : SI t s.heap it l i items) (hne : l ≠ it) (hx : items[i]? = some x)
    (hQ : ∀ h', SI t h' it l (i + 1) items → Heap.SameBut it s.heap h' → Q x { s with heap := h' }) : wpAny (model prog w) A (Builtin.SmallTypes.nextOf (.ref it)) Q E s := by
  cases t
  · exact wpAny_nextOf_list_item hi.1 hi.2 hx fun h' c hs => hQ h' ⟨c, hi.2.extBut hs.extBut hne⟩ hs
  · exact RZ.nextOf_tuple_item hi.1 hi.2 hx fun h' c hs => hQ h' ⟨c, hi.2.extBut hs.extBut hne⟩ hs
theorem SI.stop {it l : Addr} {i : Nat} {items : Array Value} {Q : Value → Shared → Prop} (hh : A.handled = none) (hi : SI t s.heap it l i items) (hx : items[i]? = none)
    (hE : ∀ h' e, Heap.ExtBut it s.heap h' → (∃ o, h'.get? e = some o ∧ o.cls = .type "StopIteration") → E (.ref e) { s with heap := h' }) : wpAny (model prog w) A (Builtin.SmallTypes.nextOf (.ref it)) Q E s := by
  cases t
  · exact wpAny_nextOf_list_end hh hi.1 hi.2 hx hE
  · exact RZ.nextOf_tuple_end hh hi.1 hi.2 hx hE
/-- what a zip is between two turns -/
structure Zp (t u : Bool) (h : Heap) (z TI TO i1 i2 : Addr) (l1 l2 : Addr) (k : Nat) (xs ys : Array Value) : Prop where
  z : IsZip h z TI TO .none
  i : IsPair h TI (.ref i1) (.ref i2)
  o : ∃ a b, IsPair h TO a b
  a : SI t h i1 l1 k xs
  b : SI u h i2 l2 k ys
theorem zipM_item {z TI TO i1 i2 l1 l2 : Addr} {k : Nat} {xs ys : Array Value} {x y : Value} {Q : Value → Shared → Prop} (D : ZipApart z TI TO i1 i2 l1 l2) (Z : Zp t u s.heap z TI TO i1 i2 l1 l2 k xs ys) (hx : xs[k]? = some x) (hy : ys[k]? = some y)
    (hQ : ∀ h', IsZip h' z TI TO (rawInt s.heap.objs.size) → IsPair h' TO x y → SI t h' i1 l1 (k + 1) xs → SI u h' i2 l2 (k + 1) ys → IsPair h' s.heap.objs.size x y → h'.objs.size = s.heap.objs.size + 1 →
      (∀ c o, c ≠ z → c ≠ TO → c ≠ i1 → c ≠ i2 → s.heap.get? c = some o → h'.get? c = some o) → Q (.ref s.heap.objs.size) { s with heap := h' }) :
    wpAny (model prog w) A (Builtin.«zip.__next__» ⟨[.ref z], []⟩) (fun fin s' => ∃ v, fin = .done (.ret v) ∧ Q v s') E s := by
  obtain ⟨hz, hTI, ⟨a, b, hTO⟩, ha, hb⟩ := Z
  show wpAny _ _ (field (.ref z) 2 >>= _) _ _ _
  refine wpAny_bind (wpAny_field hz rfl (x := .bool false) rfl ?_)
  show wpAny _ _ (field (.ref z) 3 >>= _) _ _ _
  refine wpAny_bind (wpAny_field hz rfl (x := .ref TI) rfl (wpAny_bind (wpAny_seqItems hTI rfl ?_)))
  show wpAny _ _ (Builtin.SmallTypes.ownedTupleIsFree (.ref z) >>= _) _ _ _
  refine wpAny_bind ?_
  unfold Builtin.SmallTypes.ownedTupleIsFree
  refine wpAny_bind (wpAny_field hz rfl (x := .none) rfl (wpAny_pure ?_))
  simp only [if_true]
  refine wpAny_bind (wpAny_rule (wpAny_bind (wpAny_field hz rfl (x := .ref TO) rfl (wpAny_bind (wpAny_setField_rec hz (by simp) fun g1 z1 s1 => ?_)))))
  have z1 : IsZip g1 z TI TO .ellipsis := z1
  refine wpAny_bind ?_
  simp only [List.zipIdx_cons, List.zipIdx_nil, List.forIn_cons, List.forIn_nil]
  refine wpAny_bind (wpAny_bind (wpAny_onRaise ?_))
  show wpAny _ _ (Builtin.SmallTypes.nextOf (.ref i1) >>= _) _ _ _
  refine wpAny_bind (SI.next (s := { s with heap := g1 }) (ha.ext s1.extBut D.i1z D.l1z) D.l1i1 hx fun g2 a2 s2 => wpAny_pure ?_)
  have o2 : IsPair g2 TO a b := s2.extBut _ _ D.TOi1 (s1.extBut _ _ D.TOz hTO)
  refine wpAny_bind (wpAny_seqItems o2 rfl (wpAny_bind (wpAny_updateSeq_pair o2 fun g3 o3 s3 => wpAny_bind (wpAny_letGo (wpAny_pure ?_)))))
  have o3 : IsPair g3 TO x b := o3
  refine wpAny_bind (wpAny_bind (wpAny_onRaise ?_))
  show wpAny _ _ (Builtin.SmallTypes.nextOf (.ref i2) >>= _) _ _ _
  have b3 : SI u g3 i2 l2 k ys := ((hb.ext s1.extBut D.i2z D.l2z).ext s2.extBut D.i12.symm D.l2i1).ext s3.extBut D.TOi2.symm D.l2TO
  refine wpAny_bind (SI.next (s := { s with heap := g3 }) b3 D.l2i2 hy fun g4 b4 s4 => wpAny_pure ?_)
  have o4 : IsPair g4 TO x b := s4.extBut _ _ D.TOi2 o3
  refine wpAny_bind (wpAny_seqItems o4 rfl (wpAny_bind (wpAny_updateSeq_pair o4 fun g5 o5 s5 => wpAny_bind (wpAny_letGo (wpAny_pure (wpAny_pure ?_))))))
  have o5 : IsPair g5 TO x y := o5
  refine wpAny_bind (wpAny_seqItems o5 rfl (wpAny_bind (wpAny_newTuple ?_)))
  have size5 : g5.objs.size = s.heap.objs.size := by rw [s5.1, s4.1, s3.1, s2.1, s1.1]
  have z5 : IsZip g5 z TI TO .ellipsis := s5.extBut _ _ D.TOz.symm (s4.extBut _ _ D.i2z.symm (s3.extBut _ _ D.TOz.symm (s2.extBut _ _ D.i1z.symm z1)))
  have k5 : ∀ c o, c ≠ z → c ≠ TO → c ≠ i1 → c ≠ i2 → s.heap.get? c = some o → g5.get? c = some o := fun c o c1 c2 c3 c4 e =>
    s5.extBut _ _ c2 (s4.extBut _ _ c4 (s3.extBut _ _ c2 (s2.extBut _ _ c3 (s1.extBut _ _ c1 e))))
  have a5 : SI t g5 i1 l1 (k + 1) xs := ((a2.ext s3.extBut D.TOi1.symm D.l1TO).ext s4.extBut D.i12 D.l1i2).ext s5.extBut D.TOi1.symm D.l1TO
  have b5 : SI u g5 i2 l2 (k + 1) ys := b4.ext s5.extBut D.TOi2.symm D.l2TO
  have zl : z ≠ g5.objs.size := Nat.ne_of_lt (Heap.lt_size z5)
  show wpAny _ _ (Builtin.SmallTypes.ownedTupleHandOut (.ref z) (.ref g5.objs.size) >>= _) _ _ _
  refine wpAny_bind ?_
  unfold Builtin.SmallTypes.ownedTupleHandOut
  have z6 : IsZip (g5.push { cls := .type "tuple", data := .seq #[x, y] }) z TI TO .ellipsis := Heap.get?_push_of_some _ z5
  have p6 : IsPair (g5.push { cls := .type "tuple", data := .seq #[x, y] }) g5.objs.size x y := Heap.get?_push_size _ rfl
  have e6 : Heap.ExtBut z g5 (g5.push { cls := .type "tuple", data := .seq #[x, y] }) := fun c o _ e => Heap.get?_push_of_some _ e
  refine wpAny_bind (wpAny_setField_rec z6 (by simp) fun g7 z7 s7 => ?_)
  have z7 : IsZip g7 z TI TO (rawInt g5.objs.size) := z7
  refine wpAny_setField_rec z7 (by simp) fun g8 z8 s8 => ?_
  have z8 : IsZip g8 z TI TO (rawInt g5.objs.size) := z8
  have p8 : IsPair g8 g5.objs.size x y := s8.extBut _ _ zl.symm (s7.extBut _ _ zl.symm p6)
  have size8 : g8.objs.size = g5.objs.size + 1 := by rw [s8.1, s7.1, Heap.size_push]
  have up : ∀ c o, c ≠ z → g5.get? c = some o → g8.get? c = some o := fun c o c1 e => s8.extBut _ _ c1 (s7.extBut _ _ c1 (e6 c o c1 e))
  rw [size5] at z8 p8 size8
  refine wpAny_pure ⟨_, rfl, ?_⟩
  show Q (.ref g5.objs.size) _
  rw [size5]
  exact hQ g8 z8 (up _ _ D.TOz o5) (((a5.ext e6 D.i1z D.l1z).ext s7.extBut D.i1z D.l1z).ext s8.extBut D.i1z D.l1z) (((b5.ext e6 D.i2z D.l2z).ext s7.extBut D.i2z D.l2z).ext s8.extBut D.i2z D.l2z) p8 size8 fun c o c1 c2 c3 c4 e => up c o c1 (k5 c o c1 c2 c3 c4 e)
theorem zipM_end {z TI TO i1 i2 l1 l2 : Addr} {k : Nat} {xs ys : Array Value} {Q : Fin → Shared → Prop} (hh : A.handled = none) (D : ZipApart z TI TO i1 i2 l1 l2) (Z : Zp t u s.heap z TI TO i1 i2 l1 l2 k xs ys) (hend : xs[k]? = none ∨ ys[k]? = none)
    (hE : ∀ h' e, (∀ c o, c ≠ z → c ≠ TO → c ≠ i1 → c ≠ i2 → s.heap.get? c = some o → h'.get? c = some o) → (∃ o, h'.get? e = some o ∧ o.cls = .type "StopIteration") → E (.ref e) { s with heap := h' }) :
    wpAny (model prog w) A (Builtin.«zip.__next__» ⟨[.ref z], []⟩) Q E s := by
  obtain ⟨hz, hTI, ⟨a, b, hTO⟩, ha, hb⟩ := Z
  show wpAny _ _ (field (.ref z) 2 >>= _) _ _ _
  refine wpAny_bind (wpAny_field hz rfl (x := .bool false) rfl ?_)
  show wpAny _ _ (field (.ref z) 3 >>= _) _ _ _
  refine wpAny_bind (wpAny_field hz rfl (x := .ref TI) rfl (wpAny_bind (wpAny_seqItems hTI rfl ?_)))
  show wpAny _ _ (Builtin.SmallTypes.ownedTupleIsFree (.ref z) >>= _) _ _ _
  refine wpAny_bind ?_
  unfold Builtin.SmallTypes.ownedTupleIsFree
  refine wpAny_bind (wpAny_field hz rfl (x := .none) rfl (wpAny_pure ?_))
  simp only [if_true]
  refine wpAny_bind (wpAny_rule (wpAny_bind (wpAny_field hz rfl (x := .ref TO) rfl (wpAny_bind (wpAny_setField_rec hz (by simp) fun g1 z1 s1 => ?_)))))
  have z1 : IsZip g1 z TI TO .ellipsis := z1
  refine wpAny_bind ?_
  simp only [List.zipIdx_cons, List.zipIdx_nil, List.forIn_cons, List.forIn_nil]
  refine wpAny_bind (wpAny_bind (wpAny_onRaise ?_))
  show wpAny _ _ (Builtin.SmallTypes.nextOf (.ref i1) >>= _) _ _ _
  cases hx : xs[k]? with
  | none =>
    refine wpAny_bind (SI.stop (s := { s with heap := g1 }) hh (ha.ext s1.extBut D.i1z D.l1z) hx fun g2 e s2 he => ?_)
    obtain ⟨oe, he, hc⟩ := he
    have z2 : IsZip g2 z TI TO .ellipsis := s2 _ _ D.i1z.symm z1
    have ne : e ≠ z := fun q => by subst q; rw [z2] at he; cases he; simp at hc
    exact wpAny_setField_rec z2 (by simp) fun g3 _ s3 => hE g3 e (fun c o c1 _ c3 _ q => s3.extBut _ _ c1 (s2 _ _ c3 (s1.extBut _ _ c1 q))) ⟨oe, s3.extBut _ _ ne he, hc⟩
  | some x =>
    have hy : ys[k]? = none := by
      rcases hend with h | h
      · rw [hx] at h; cases h
      · exact h
    refine wpAny_bind (SI.next (s := { s with heap := g1 }) (ha.ext s1.extBut D.i1z D.l1z) D.l1i1 hx fun g2 a2 s2 => wpAny_pure ?_)
    have o2 : IsPair g2 TO a b := s2.extBut _ _ D.TOi1 (s1.extBut _ _ D.TOz hTO)
    refine wpAny_bind (wpAny_seqItems o2 rfl (wpAny_bind (wpAny_updateSeq_pair o2 fun g3 o3 s3 => wpAny_bind (wpAny_letGo (wpAny_pure ?_)))))
    refine wpAny_bind (wpAny_bind (wpAny_onRaise ?_))
    show wpAny _ _ (Builtin.SmallTypes.nextOf (.ref i2) >>= _) _ _ _
    have b3 : SI u g3 i2 l2 k ys := ((hb.ext s1.extBut D.i2z D.l2z).ext s2.extBut D.i12.symm D.l2i1).ext s3.extBut D.TOi2.symm D.l2TO
    refine wpAny_bind (SI.stop (s := { s with heap := g3 }) hh b3 hy fun g4 e s4 he => ?_)
    obtain ⟨oe, he, hc⟩ := he
    have z4 : IsZip g4 z TI TO .ellipsis := s4 _ _ D.i2z.symm (s3.extBut _ _ D.TOz.symm (s2.extBut _ _ D.i1z.symm z1))
    have ne : e ≠ z := fun q => by subst q; rw [z4] at he; cases he; simp at hc
    exact wpAny_setField_rec z4 (by simp) fun g5 _ s5 => hE g5 e (fun c o c1 c2 c3 c4 q => s5.extBut _ _ c1 (s4 _ _ c4 (s3.extBut _ _ c2 (s2.extBut _ _ c3 (s1.extBut _ _ c1 q))))) ⟨oe, s5.extBut _ _ ne he, hc⟩
theorem zipM_pyItem {z TI TO i1 i2 l1 l2 : Addr} {k : Nat} {xs ys : Array Value} {x y : Value} {Q : Option Value → Shared → Prop} (D : ZipApart z TI TO i1 i2 l1 l2) (Z : Zp t u s.heap z TI TO i1 i2 l1 l2 k xs ys) (hx : xs[k]? = some x) (hy : ys[k]? = some y)
    (hQ : ∀ h', IsZip h' z TI TO (rawInt s.heap.objs.size) → IsPair h' TO x y → SI t h' i1 l1 (k + 1) xs → SI u h' i2 l2 (k + 1) ys → IsPair h' s.heap.objs.size x y → h'.objs.size = s.heap.objs.size + 1 →
      (∀ c o, c ≠ z → c ≠ TO → c ≠ i1 → c ≠ i2 → s.heap.get? c = some o → h'.get? c = some o) → Q (some (.ref s.heap.objs.size)) { s with heap := h' }) : wpAny (model prog w) A (pyNext (.ref z)) Q E s := by
  have hT : s.TypeIs (.ref z) "zip" := ⟨_, Z.z, rfl⟩
  unfold pyNext
  exact wpAny_bind (wpAny_attempt (wpAny_callSpecial?_slot (name := Str.ofString "__next__") hT F.slot_zip_next
    (wpAny_call_entry F.slot_zip_next hT F.entry_zip_next (zipM_item D Z hx hy fun h' a1 a2 a3 a4 a5 a6 a7 => wpAny_pure (hQ h' a1 a2 a3 a4 a5 a6 a7)) (F.args_zip_next_1 _))))
theorem zipM_pyEnd {z TI TO i1 i2 l1 l2 : Addr} {k : Nat} {xs ys : Array Value} {Q : Option Value → Shared → Prop} (hh : A.handled = none) (D : ZipApart z TI TO i1 i2 l1 l2) (Z : Zp t u s.heap z TI TO i1 i2 l1 l2 k xs ys) (hend : xs[k]? = none ∨ ys[k]? = none)
    (hQ : ∀ h', (∀ c o, c ≠ z → c ≠ TO → c ≠ i1 → c ≠ i2 → s.heap.get? c = some o → h'.get? c = some o) → Q none { s with heap := h' }) : wpAny (model prog w) A (pyNext (.ref z)) Q E s := by
  have hT : s.TypeIs (.ref z) "zip" := ⟨_, Z.z, rfl⟩
  unfold pyNext
  refine wpAny_bind (wpAny_attempt (wpAny_callSpecial?_slot (name := Str.ofString "__next__") hT F.slot_zip_next
    (wpAny_call_entry F.slot_zip_next hT F.entry_zip_next (zipM_end hh D Z hend fun h' e hk he => ?_) (F.args_zip_next_1 _))))
  obtain ⟨o, ho, hc⟩ := he
  exact wpAny_bind (wpAny_isInstance (T := "StopIteration") (b := true) ⟨o, ho, hc⟩ isSubtype_stop (wpAny_pure (hQ _ hk)))
end
/-- the heap behind the making of a zip: both iterators, both pairs, the zip -/
abbrev zm1 (h : Heap) (l1 : Addr) : Heap := h.push { cls := .type "tuple_iterator", data := .fields #[.ref l1, .int 0 0] }
abbrev zm2 (h : Heap) (l1 l2 : Addr) : Heap := (zm1 h l1).push { cls := .type "list_iterator", data := .fields #[.ref l2, .int 0 0] }
abbrev zm3 (h : Heap) (l1 l2 : Addr) : Heap := (zm2 h l1 l2).push { cls := .type "tuple", data := .seq #[.ref h.objs.size, .ref (zm1 h l1).objs.size] }
abbrev zm4 (h : Heap) (l1 l2 : Addr) : Heap := (zm3 h l1 l2).push { cls := .type "tuple", data := .seq #[.none, .none] }
abbrev zm5 (h : Heap) (l1 l2 : Addr) : Heap := (zm4 h l1 l2).push { cls := .type "zip", data := .fields #[.none, .bool false, .bool false, .ref (zm2 h l1 l2).objs.size, .ref (zm3 h l1 l2).objs.size] }
theorem meets_zipM (l1 l2 : Addr) (xs ys : Array Value) :
    Meets (Builtin.«zip.__new__» ⟨[.type "zip", .ref l1, .ref l2], []⟩) (fun _ R s => s.heap.IsTuple l1 xs ∧ s.heap.IsList l2 ys ∧ R (.ok (.ret (.ref (zm4 s.heap l1 l2).objs.size))) { s with heap := zm5 s.heap l1 l2 }) :=
  .of_wp fun prog w A R s h => by
    obtain ⟨hp, g, d, tk, os⟩ := s
    obtain ⟨h1, h2, h⟩ := h
    have hsub := sub_zip
    have H1 : Heap.IsTuple (Shared.heap ⟨hp, g, d, tk, os⟩) l1 xs := h1
    have H2 : Heap.IsList (Shared.heap ⟨hp.push { cls := .type "tuple_iterator", data := .fields #[.ref l1, .int 0 0] }, g, d, tk, os⟩) l2 ys := Heap.IsList.push h2 _
    wp_walk using wpAny_pyIter_tuple H1, wpAny_pyIter_list H2
    exact ⟨_, rfl, h⟩
section
variable {prog : Program} {w : World} {A : Around} {E : Value → Shared → Prop} {s : Shared}
theorem call_zipM {l1 l2 : Addr} {xs ys : Array Value} {Q : Value → Shared → Prop} (h1 : s.heap.IsTuple l1 xs) (h2 : s.heap.IsList l2 ys)
    (h : ∀ h', Zp true false h' (s.heap.objs.size + 4) (s.heap.objs.size + 2) (s.heap.objs.size + 3) s.heap.objs.size (s.heap.objs.size + 1) l1 l2 0 xs ys → (∀ c o, s.heap.get? c = some o → h'.get? c = some o) → Q (.ref (s.heap.objs.size + 4)) { s with heap := h' }) :
    wpAny (model prog w) A (call (.type "zip") [.ref l1, .ref l2]) Q E s := by
  refine callType_new F.called_zip (by decide) (F.typeCall_zip_2 _ _) (F.newCall_zip_2 _ _) (fun obj => F.args_object_init_3 obj _ _) F.entry_zip_new (meets_zipM l1 l2 xs ys) ⟨h1, h2, ?_⟩
  have n1 : (zm1 s.heap l1).objs.size = s.heap.objs.size + 1 := Heap.size_push ..
  have n2 : (zm2 s.heap l1 l2).objs.size = s.heap.objs.size + 2 := by rw [Heap.size_push, n1]
  have n3 : (zm3 s.heap l1 l2).objs.size = s.heap.objs.size + 3 := by rw [Heap.size_push, n2]
  have n4 : (zm4 s.heap l1 l2).objs.size = s.heap.objs.size + 4 := by rw [Heap.size_push, n3]
  have u1 : ∀ c o, (zm1 s.heap l1).get? c = some o → (zm5 s.heap l1 l2).get? c = some o := fun c o e => Heap.get?_push_of_some _ (Heap.get?_push_of_some _ (Heap.get?_push_of_some _ (Heap.get?_push_of_some _ e)))
  have u0 : ∀ c o, s.heap.get? c = some o → (zm5 s.heap l1 l2).get? c = some o := fun c o e => u1 c o (Heap.get?_push_of_some _ e)
  have q1 : (zm5 s.heap l1 l2).get? s.heap.objs.size = some _ := u1 _ _ (Heap.get?_push_size _ rfl)
  have q2 : (zm5 s.heap l1 l2).get? (zm1 s.heap l1).objs.size = some _ := Heap.get?_push_of_some _ (Heap.get?_push_of_some _ (Heap.get?_push_of_some _ (Heap.get?_push_size _ rfl)))
  have q3 : (zm5 s.heap l1 l2).get? (zm2 s.heap l1 l2).objs.size = some _ := Heap.get?_push_of_some _ (Heap.get?_push_of_some _ (Heap.get?_push_size _ rfl))
  have q4 : (zm5 s.heap l1 l2).get? (zm3 s.heap l1 l2).objs.size = some _ := Heap.get?_push_of_some _ (Heap.get?_push_size _ rfl)
  have q5 : (zm5 s.heap l1 l2).get? (zm4 s.heap l1 l2).objs.size = some _ := Heap.get?_push_size _ rfl
  show _ ∧ _
  rw [n2, n3, n4] at q5
  rw [n1, n2] at q3
  rw [n3] at q4
  rw [n1] at q2
  rw [n4]
  obtain ⟨o1, e1, c1⟩ := h1
  obtain ⟨o2, e2, c2⟩ := h2
  exact ⟨⟨_, q5, rfl⟩, h _ ⟨q5, q3, ⟨_, _, q4⟩, ⟨⟨_, q1, rfl, rfl⟩, o1, u0 _ _ e1, c1⟩, ⟨⟨_, q2, rfl, rfl⟩, o2, u0 _ _ e2, c2⟩⟩ u0⟩
end
/-- the tuple at a and the list at b as they stand at each turn, the items in new pairs -/
def ItzM (K : PySem.W.Frag) (a b : Addr) : It :=
  ⟨fun i H => ∃ (xs ys : List V) (x y : V), SqT K H a xs ∧ SqL K H b ys ∧ xs[i]? = some x ∧ ys[i]? = some y,
    fun i H v H' => ∃ T x y, v = .ref T ∧ H T = none ∧ H' = upd H T (.tup [x, y]) ∧ (∀ xs, SqT K H a xs → xs[i]? = some x) ∧ ∀ ys, SqL K H b ys → ys[i]? = some y,
    fun i H => ∃ xs ys : List V, SqT K H a xs ∧ SqL K H b ys ∧ (xs.length ≤ i ∨ ys.length ≤ i)⟩
theorem turn_zipM {P : Program} {w : World} {K : PySem.W.Frag} {elts : List Expr} {kk : Nat} {tpos : Pos} {a b z TI TO i1 i2 : Addr} (D : ZipApart z TI TO i1 i2 a b) :
    Turn P w K (.Tuple elts kk tpos) (ItzM K a b) [z, TI, TO, i1, i2] z (fun i h => IsZip h z TI TO .none ∧ IsPair h TI (.ref i1) (.ref i2) ∧ (∃ x y, IsPair h TO x y) ∧ h.IsTupleIter i1 a i ∧ h.IsListIter i2 b i) where
  mem := by simp
  obj := fun i h st c hc => by
    obtain ⟨hz, hTI, ⟨x, y, hTO⟩, ⟨o1, e1, _, d1⟩, ⟨o2, e2, _, d2⟩⟩ := st
    simp only [List.mem_cons, List.not_mem_nil, or_false] at hc
    rcases hc with rfl | rfl | rfl | rfl | rfl
    · exact ⟨_, hz, fun v q => nomatch q⟩
    · exact ⟨_, hTI, fun v q => nomatch q⟩
    · exact ⟨_, hTO, fun v q => nomatch q⟩
    · exact ⟨o1, e1, fun v q => by rw [d1] at q; cases q⟩
    · exact ⟨o2, e2, fun v q => by rw [d2] at q; cases q⟩
  keep := fun i h h' st k => by
    obtain ⟨hz, hTI, ⟨x, y, hTO⟩, ⟨o1, e1, r1⟩, ⟨o2, e2, r2⟩⟩ := st
    exact ⟨k z (by simp) _ hz, k TI (by simp) _ hTI, ⟨x, y, k TO (by simp) _ hTO⟩, ⟨o1, k i1 (by simp) _ e1, r1⟩, ⟨o2, k i2 (by simp) _ e2, r2⟩⟩
  item := by
    intro X hP hw hK hc i pins s σ H E I hf st hg
    subst hP hw hK
    obtain ⟨hz, hTI, hTO, h1, h2⟩ := st
    obtain ⟨xs, ys, x, y, hqx, hqy, hx, hy⟩ := hg
    obtain ⟨its, rv, p, _⟩ := I.tuple hqx
    obtain ⟨its2, rv2, p2, _⟩ := I.list hqy
    obtain ⟨v1, hv1, r1⟩ := rv.get hx
    obtain ⟨v2, hv2, r2⟩ := rv2.get hy
    have hzl : z < s.heap.objs.size := Heap.lt_size hz
    refine zipM_pyItem (t := true) (u := false) D ⟨hz, hTI, hTO, ⟨h1, p⟩, ⟨h2, p2.isList⟩⟩ (x := v1) (y := v2) (by simpa using hv1) (by simpa using hv2) fun h' z' o' a' b' hT hsz hk => ?_
    refine ⟨_, rfl, wpAny_letOwnedTupleGo_zip (s := { s with heap := h' }) z' fun h'' z'' sb => ?_⟩
    have hT2 : h''.get? s.heap.objs.size = some { cls := .type "tuple", data := .seq #[v1, v2] } := (sb.2 _ (Nat.ne_of_gt hzl)).trans hT
    have new : ObjOk X.prog X.w (upd H s.heap.objs.size (.tup [x, y])) h'' s.heap.objs.size (.tup [x, y]) :=
      ⟨by show 2 ≤ sizeLine; decide, [v1, v2], .cons r1 (.cons r2 .nil), ⟨_, hT2, rfl, _, rfl⟩⟩
    have I1 : Inv X pins σ (upd H s.heap.objs.size (.tup [x, y])) { s with heap := h'' } :=
      I.turnedNew (t' := s.toks) (ch := [z, TI, TO, i1, i2]) (fun c o hb q => (sb.2 c (fun q' => hb (by simp [q']))).trans (hk c o (fun q' => hb (by simp [q'])) (fun q' => hb (by simp [q'])) (fun q' => hb (by simp [q'])) (fun q' => hb (by simp [q'])) q)) hf (Nat.le_refl _) new
    refine ⟨.ref s.heap.objs.size, _, I1, rfl, ⟨_, x, y, rfl, I.hok.fresh (Nat.le_refl _), rfl, fun l hl => by rw [I.tuple_inj hl hqx]; exact hx, fun l hl => ?_⟩, ⟨z'', (sb.2 _ D.TIz).trans (hk _ _ D.TIz D.TITO D.TIi1 D.TIi2 hTI), ⟨v1, v2, (sb.2 _ D.TOz).trans o'⟩, ?_, ?_⟩, fun c hcm => ?_⟩
    · rw [I.list_inj hl hqy]
      exact hy
    · exact a'.1.at fun o q => (sb.2 _ D.i1z).trans q
    · exact b'.1.at fun o q => (sb.2 _ D.i2z).trans q
    · have hlt : c < s.heap.objs.size := by
        simp only [List.mem_cons, List.not_mem_nil, or_false] at hcm
        obtain ⟨_, _, hTO⟩ := hTO
        obtain ⟨_, e1, _⟩ := h1
        obtain ⟨_, e2, _⟩ := h2
        rcases hcm with rfl | rfl | rfl | rfl | rfl
        · exact hzl
        · exact Heap.lt_size hTI
        · exact Heap.lt_size hTO
        · exact Heap.lt_size e1
        · exact Heap.lt_size e2
      rw [upd_ne (Nat.ne_of_lt hlt)]
      exact (hf c hcm).1
  done := by
    intro X hP hw hK hc i pins s σ H E I hf st hg
    subst hP hw hK
    obtain ⟨hz, hTI, hTO, h1, h2⟩ := st
    obtain ⟨xs, ys, hqx, hqy, hend⟩ := hg
    obtain ⟨its, rv, p, _⟩ := I.tuple hqx
    obtain ⟨its2, rv2, p2, _⟩ := I.list hqy
    have n1 := rv.length
    have n2 := rv2.length
    have he : its.toArray[i]? = none ∨ its2.toArray[i]? = none := by
      rcases hend with q | q
      · exact .inl (by simp; omega)
      · exact .inr (by simp; omega)
    exact zipM_pyEnd (t := true) (u := false) (I.ok.hd hc) D ⟨hz, hTI, hTO, ⟨h1, p⟩, ⟨h2, p2.isList⟩⟩ he fun h' hk => ⟨rfl, I.turnedL (t' := s.toks) (ch := [z, TI, TO, i1, i2]) (fun c o hb q =>
      hk c o (fun q' => hb (by simp [q'])) (fun q' => hb (by simp [q'])) (fun q' => hb (by simp [q'])) (fun q' => hb (by simp [q'])) q) hf⟩
  self := fun A i s Q E st h => wpAny_pyIter_zip st.1 h
def iZipM (K : PySem.W.Frag) (ta : TA) : TI := fun σ H R => ta σ H fun vs H1 => ∃ a b xs ys, vs = [.ref a, .ref b] ∧ SqT K H1 a xs ∧ SqL K H1 b ys ∧ R (ItzM K a b) H1
theorem pi_zipM {X : Cx} {e e2 : Expr} {ta : TA} {p pos tpos : Pos} {elts : List Expr} {kk : Nat} (hg : Gl X "zip") (hm : X.mg "zip" = none) (ha : PA X [e, e2] ta)
    (hs : starEach [e, e2] X.env = (false, eval e X.env) :: starEach [e2] X.env := by rfl) (hpl : (backTo pos (starEach [e2] X.env)).any (·.1) = false := by rfl) :
    PI X (.Tuple elts kk tpos) (.Call (.Name "zip" p) [e, e2] [] pos) (iZipM X.K ta) := by
  refine ⟨fun pins s σ H R I h => ?_⟩
  refine Call_ (ld_blt I hg hm PyProof.Rows.boot_zip (PyProof.Rows.callWith_type1 (thn (ha.run pos pins s σ H _ I h) fun us s1 ⟨vs, H1, I1, r1, q1⟩ => ?_) hs hpl))
  obtain ⟨a, b, xs, ys, ex, hqx, hqy, q⟩ := q1
  subst ex
  cases r1 with
  | cons r rr =>
    cases rr with
    | cons r' rr =>
      cases rr
      cases r
      cases r'
      obtain ⟨its, rv, p1, _⟩ := I1.tuple hqx
      obtain ⟨its2, rv2, p2, _⟩ := I1.list hqy
      obtain ⟨o1, ho1, _⟩ := id p1
      refine call_zipM (show s1.heap.IsTuple a its.toArray from p1) p2.isList fun h' Z hk => wpAny_pyIter_zip Z.z ?_
      have I2 : Inv X pins σ H1 { s1 with heap := h' } := I1.kept (t' := s1.toks) hk
      refine ⟨s1.heap.objs.size + 4, [s1.heap.objs.size + 4, s1.heap.objs.size + 2, s1.heap.objs.size + 3, s1.heap.objs.size, s1.heap.objs.size + 1], _, _, H1, rfl, I2, turn_zipM (PySem.W.ktu_apart s1.heap.objs.size a b (Heap.lt_size ho1) p2.lt), ⟨Z.z, Z.i, Z.o, Z.a.1, Z.b.1⟩, fun c hc => ?_, q⟩
      have hle : s1.heap.objs.size ≤ c := by
        simp only [List.mem_cons, List.not_mem_nil, or_false] at hc
        rcases hc with rfl | rfl | rfl | rfl | rfl <;> first | exact Nat.le_refl _ | exact Nat.le_add_right _ _
      exact I1.fpOk hle (I1.hok.fresh hle)
theorem walk_zipM {K : PySem.W.Frag} {a b : Addr} {xs ys : List V} {n : Nat} (hn : n = min xs.length ys.length) : Walk (ItzM K a b) n (fun H => SqT K H a xs ∧ SqL K H b ys) (YPair (fun i => xs[i]?) (fun i => ys[i]?)) := by
  subst hn
  refine ⟨fun i _ hi q => ?_, fun _ q => ⟨xs, ys, q.1, q.2, by omega⟩, fun i H v H' _ q y => ?_⟩
  · have h1 : i < xs.length := by omega
    have h2 : i < ys.length := by omega
    exact ⟨xs, ys, xs[i], ys[i], q.1, q.2, by simp [h1], by simp [h2]⟩
  · obtain ⟨T, x, z, h1, h2, h3, h4, h5⟩ := y
    exact ⟨T, x, z, h1, h2, h3, h4 xs q.1, h5 ys q.2⟩
/-- a loop over a walk, what follows told apart -/
theorem fw {J : It} {n : Nat} {G : Hp → Prop} {Y : Nat → Hp → V → Hp → Prop} (w : Walk J n G Y) {g : TG} {tb : TS} {nx : L2.St → Hp → Prop} {rt : VK} {σ : L2.St} {H : Hp} (Pv : Nat → L2.St → Hp → Prop) (h0 : Pv 0 σ H) (hG : ∀ i σ H, i ≤ n → Pv i σ H → G H)
    (hs : ∀ i x σ H H', i < n → Pv i σ H → Y i H x H' → g x σ H' fun σ2 H2 => tb { nx := Pv (i + 1), rt := rt, bk := nx, ct := Pv (i + 1) } σ2 H2) (hd : ∀ σ H, Pv n σ H → nx σ H) :
    ∃ W : Nat → Nat → L2.St → Hp → Prop, (∃ m, W 0 m σ H) ∧ ∀ i m σ H, W i m σ H →
      (J.stop i H ∧ nx σ H) ∨ (J.go i H ∧ ∃ N : L2.St → Hp → Prop, (∀ σ' H', N σ' H' → ∃ m', m' < m ∧ W (i + 1) m' σ' H') ∧ ∀ x H', J.yld i H x H' → g x σ H' fun σ2 H2 => tb { nx := N, rt := rt, bk := nx, ct := N } σ2 H2) :=
  for_it (D := { nx := nx, rt := rt, bk := nx, ct := nx }) w Pv h0 hG hs hd
theorem r_zipM {K : PySem.W.Frag} {ta : TA} {σ : L2.St} {H : Hp} {R : It → Hp → Prop} (q : ta σ H fun vs H1 => ∃ a b xs ys, vs = [.ref a, .ref b] ∧ SqT K H1 a xs ∧ SqL K H1 b ys ∧ R (ItzM K a b) H1) : iZipM K ta σ H R := q
end Zn
local macro_rules | `(tactic| walk_at "rs1") => `(tactic| first
  | (with_reducible refine Zn.r_ss ?_)
  | (with_reducible refine Zn.r_chain ?_)
  | (with_reducible refine Zn.r_M1 ?_)
  | (with_reducible refine Zn.r_truI ?_)
  | ((with_reducible refine' Zn.r_truL ?h ?_); (case h => walk_at "fd"))
  | ((with_reducible refine' Zn.r_truT ?h ?_); (case h => walk_at "fd"))
  | (with_reducible refine Zn.r_exS ?_)
  | (with_reducible refine Zn.r_s1 ?_)
  | (with_reducible refine Zn.r_sign ?_)
  | ((with_reducible refine Zn.r_slS ?h ?_); (case h => first | assumption | omega))
  | (with_reducible refine Zn.r_lenS ?_)
  | (with_reducible refine Zn.r_istr ?_)
  | (with_reducible refine Zn.r_1s ?_)
  | ((with_reducible refine Zn.r_62 ?h1 ?h2 ?_); (case h1 => first | omega | decide); (case h2 => first | omega | decide))
  | ((with_reducible refine' Zn.r_inY ?h ?e1 ?e2 ?_); (case h => first | exact .inr (Zn.st_of (by walk_at "fd")) | exact .inl (Zn.sl_of (by walk_at "fd")) | exact .inl (by assumption) | exact .inr (by assumption)); (case e1 => rfl); (case e2 => rfl))
  | ((with_reducible refine' Zn.r_inN ?h ?e1 ?e2 ?_); (case h => first | exact .inr (Zn.st_of (by walk_at "fd")) | exact .inl (Zn.sl_of (by walk_at "fd")) | exact .inl (by assumption) | exact .inr (by assumption)); (case e1 => rfl); (case e2 => rfl))
  | (with_reducible refine Zn.r_while ?_)
  | (with_reducible refine Zn.r_zip ?_)
  | (with_reducible refine Zn.r_zipM ?_)
  | (with_reducible refine Zn.r_lstRev ?_)
  | (with_reducible refine Zn.r_star ?_)
  | (with_reducible refine Zn.r_dget ?_)
  | (with_reducible refine Zn.r_dni ?_)
  | (with_reducible refine Zn.r_din ?_)
  | (with_reducible refine Zn.r_dput ?_)
  | (with_reducible refine Zn.r_nn ?_)
  | (walk_at "rd1")
  | ((with_reducible refine' Zn.r_ixT ?h ?e ?_); (case h => first | exact Zn.st_of (by walk_at "fd") | assumption); (case e => first | exact Zn.at1 | exact Zn.at2 | exact Zn.at3 | exact Zn.at0 | exact Zn.at4))
  | ((with_reducible refine Zn.r_lz ?h ?_); (case h => first | assumption | omega)))
local macro_rules | `(tactic| walk_at "rs") => `(tactic| ((try dsimp only); (repeat ((walk_at "rs1"); (try dsimp only)))))
local macro_rules | `(tactic| walk_at "rt") => `(tactic| ((try dsimp only); (repeat ((fail_if_success (with_reducible refine Zn.r_seq ?_)); (walk_at "rs1"); (try dsimp only)))))
namespace Zn
open PySem PySem.Spec PyProof.Rows L2 TL
abbrev s_result : Stmt := topS 6
theorem sc_result : FnScope ["op", "width", "words", "choice", "left", "right"] ["op", "width", "words"] (defScope s_result) := ⟨rfl, rfl, rfl, by decide +kernel, rfl, by decide +kernel, by decide +kernel⟩

abbrev s__of_one : Stmt := topS 7
theorem sc__of_one : FnScope ["op", "word"] ["op", "word"] (defScope s__of_one) := ⟨rfl, rfl, rfl, by decide +kernel, rfl, by decide +kernel, by decide +kernel⟩

abbrev s__related : Stmt := topS 8
theorem sc__related : FnScope ["op", "left", "right"] ["op", "left", "right"] (defScope s__related) := ⟨rfl, rfl, rfl, by decide +kernel, rfl, by decide +kernel, by decide +kernel⟩

abbrev s__of_two : Stmt := topS 9
theorem sc__of_two : FnScope ["op", "width", "left", "right"] ["op", "width", "left", "right"] (defScope s__of_two) := ⟨rfl, rfl, rfl, by decide +kernel, rfl, by decide +kernel, by decide +kernel⟩

abbrev s__divided : Stmt := topS 10
theorem sc__divided : FnScope ["op", "left", "right"] ["op", "left", "right"] (defScope s__divided) := ⟨rfl, rfl, rfl, by decide +kernel, rfl, by decide +kernel, by decide +kernel⟩

/-! ### the mathematics: what each operation is worth -/
def mask (w x : Int) : Int := Builtin.bitAnd x (1 * 2 ^ w.toNat - 1)
theorem mask_mod (w x : Int) : mask w x = x % 2 ^ w.toNat := by
  unfold mask
  rw [Int.one_mul]
  exact PySem.W.kbt_mask x w.toNat
theorem mask_id {w x : Int} (h0 : 0 ≤ x) (h1 : x < 2 ^ w.toNat) : mask w x = x := by
  rw [mask_mod]
  exact Int.emod_eq_of_lt h0 h1
theorem and_in {w x y : Int} (x0 : 0 ≤ x) (x1 : x < 2 ^ w.toNat) (y0 : 0 ≤ y) : 0 ≤ Builtin.bitAnd x y ∧ Builtin.bitAnd x y < 2 ^ w.toNat := by
  have h := bitAnd_range y x0
  rw [bitAnd_comm] at h
  exact ⟨h.1, Int.lt_of_le_of_lt h.2 x1⟩
theorem nat_lt {w : Int} {n : Nat} : ((n : Int) < 2 ^ w.toNat) ↔ n < 2 ^ w.toNat := by
  rw [show ((2 : Int) ^ w.toNat) = ((2 ^ w.toNat : Nat) : Int) by simp]
  exact Int.ofNat_lt
theorem or_in {w x y : Int} (x0 : 0 ≤ x) (x1 : x < 2 ^ w.toNat) (y0 : 0 ≤ y) (y1 : y < 2 ^ w.toNat) : 0 ≤ Builtin.bitOr x y ∧ Builtin.bitOr x y < 2 ^ w.toNat := by
  rw [Bits.bitOr_pp x0 y0]
  refine ⟨Int.natCast_nonneg _, nat_lt.mpr (Nat.or_lt_two_pow (nat_lt.mp ?_) (nat_lt.mp ?_))⟩ <;> omega
theorem xor_in {w x y : Int} (x0 : 0 ≤ x) (x1 : x < 2 ^ w.toNat) (y0 : 0 ≤ y) (y1 : y < 2 ^ w.toNat) : 0 ≤ Builtin.bitXor x y ∧ Builtin.bitXor x y < 2 ^ w.toNat := by
  rw [Bits.bitXor_pp x0 y0]
  refine ⟨Int.natCast_nonneg _, nat_lt.mpr (Nat.xor_lt_two_pow (nat_lt.mp ?_) (nat_lt.mp ?_))⟩ <;> omega
/-- a word of width w -/
def Word (w x : Int) : Prop := 0 ≤ x ∧ x < 2 ^ w.toNat
/-- op at width w over the words xs is worth z -/
inductive Val : Str → Int → List Int → Int → Prop
  | not {w x} : Val "not" w [x] (mask w (-x - 1))
  | neg {w x} : Val "neg" w [x] (mask w (-x))
  | wide {w x} : Val "wide" w [x] (mask w x)
  | pick1 {w l r} : Val "pick" w [1, l, r] l
  | pick0 {w l r} : Val "pick" w [0, l, r] r
  | add {w x y} : Val "+" w [x, y] (mask w (x + y))
  | sub {w x y} : Val "-" w [x, y] (mask w (x - y))
  | mul {w x y} (b : x < 2 ^ 64) (a : -(2 ^ 64) < x) : Val "*" w [x, y] (mask w (x * y))
  | and {w x y} (a : Word w x) (b : Word w y) : Val "&" w [x, y] (Builtin.bitAnd x y)
  | or {w x y} (a : Word w x) (b : Word w y) : Val "|" w [x, y] (Builtin.bitOr x y)
  | xor {w x y} (a : Word w x) (b : Word w y) : Val "^" w [x, y] (Builtin.bitXor x y)
  | shl {w x y} (a : Word w x) (b : 0 ≤ y) (c : 1 ≤ w) (d : w ≤ 8) (e : x.natAbs < 2 ^ 64) : Val "<<" w [x, y] (mask w (x * 2 ^ (if 8 < y then 8 else y).toNat))
  | shr {w x y} (a : Word w x) (b : 0 ≤ y) (c : 1 ≤ w) (d : w ≤ 8) : Val ">>" w [x, y] (x / 2 ^ (if 8 < y then 8 else y).toNat)
  | div0 {w x} (a : Word w x) : Val "div" w [x, 0] 0
  | rem0 {w x} (a : Word w x) : Val "rem" w [x, 0] 0
  | div {w x y} (a : Word w x) (b : Word w y) (c : y ≠ 0) (d : y < 1073741824) : Val "div" w [x, y] (x / y)
  | rem {w x y} (a : Word w x) (b : Word w y) (c : y ≠ 0) (d : y < 1073741824) : Val "rem" w [x, y] (x - x / y * y)
  | eq {w x y} : Val "==" w [x, y] (if decide (x = y) then 1 else 0)
  | ne {w x y} : Val "!=" w [x, y] (if decide (x = y) then 0 else 1)
  | lt {w x y} : Val "<" w [x, y] (if decide (x < y) then 1 else 0)
  | le {w x y} : Val "<=" w [x, y] (if decide (x ≤ y) then 1 else 0)
/-- which widths the operands have -/
inductive Shape : Str → Int → List Int → Prop
  | one {op w} (h : op = "not" ∨ op = "neg") : Shape op w [w]
  | wide {w v} (h0 : 1 ≤ v) (h1 : v ≤ 8) : Shape "wide" w [v]
  | shift {op w v} (h : op = "<<" ∨ op = ">>") (h0 : 1 ≤ v) (h1 : v ≤ 8) : Shape op w [w, v]
  | pick {w} : Shape "pick" w [1, w, w]
  | two {op w} (h : op ∈ (["+", "-", "*", "&", "|", "^", "div", "rem", "==", "!=", "<", "<="] : List Str)) : Shape op w [w, w]
/-- words of these widths -/
def Fits : List Int → List Int → Prop
  | [], [] => True
  | w :: ws, x :: xs => Word w x ∧ Fits ws xs
  | _, _ => False
theorem Fits.snoc : ∀ {ws xs : List Int} {w x : Int}, Fits ws xs → Word w x → Fits (ws ++ [w]) (xs ++ [x])
  | [], [], _, _, _, h => ⟨h, trivial⟩
  | _ :: _, _ :: _, _, _, ⟨a, b⟩, h => ⟨a, Fits.snoc b h⟩
  | [], _ :: _, _, _, h, _ => h.elim
  | _ :: _, [], _, _, h, _ => h.elim
theorem val_ex {op : Str} {w : Int} {ws xs : List Int} (h1 : 1 ≤ w) (h8 : w ≤ 8) (s : Shape op w ws) (f : Fits ws xs) : ∃ z, Val op w xs z := by
  have hs := small h1 h8
  cases s with
  | one h =>
    obtain ⟨x, rfl⟩ : ∃ x, xs = [x] := by
      match xs, f with
      | [x], _ => exact ⟨x, rfl⟩
    rcases h with rfl | rfl
    · exact ⟨_, .not⟩
    · exact ⟨_, .neg⟩
  | wide h0 h1 =>
    obtain ⟨x, rfl⟩ : ∃ x, xs = [x] := by
      match xs, f with
      | [x], _ => exact ⟨x, rfl⟩
    exact ⟨_, .wide⟩
  | shift h h0 h1' =>
    obtain ⟨x, y, rfl, a, b⟩ : ∃ x y, xs = [x, y] ∧ Word w x ∧ 0 ≤ y := by
      match xs, f with
      | [x, y], h => exact ⟨x, y, rfl, h.1, h.2.1.1⟩
    rcases h with rfl | rfl
    · exact ⟨_, .shl a b h1 h8 (by have := a.1; have := a.2; omega)⟩
    · exact ⟨_, .shr a b h1 h8⟩
  | pick =>
    obtain ⟨c, l, r, rfl, a⟩ : ∃ c l r, xs = [c, l, r] ∧ Word 1 c := by
      match xs, f with
      | [c, l, r], h => exact ⟨c, l, r, rfl, h.1⟩
    have a1 : 0 ≤ c := a.1
    have a2 : c < 2 := a.2
    have : c = 0 ∨ c = 1 := by omega
    rcases this with rfl | rfl
    · exact ⟨_, .pick0⟩
    · exact ⟨_, .pick1⟩
  | two h =>
    obtain ⟨x, y, rfl, a, b⟩ : ∃ x y, xs = [x, y] ∧ Word w x ∧ Word w y := by
      match xs, f with
      | [x, y], h => exact ⟨x, y, rfl, h.1, h.2.1⟩
    have a0 := a.1
    have a1 := a.2
    have b0 := b.1
    have b1 := b.2
    simp only [List.mem_cons, List.not_mem_nil, or_false] at h
    rcases h with rfl | rfl | rfl | rfl | rfl | rfl | rfl | rfl | rfl | rfl | rfl | rfl
    · exact ⟨_, .add⟩
    · exact ⟨_, .sub⟩
    · exact ⟨_, .mul (by omega) (by omega)⟩
    · exact ⟨_, .and a b⟩
    · exact ⟨_, .or a b⟩
    · exact ⟨_, .xor a b⟩
    · by_cases e : y = 0
      · subst e
        exact ⟨_, .div0 a⟩
      · exact ⟨_, .div a b e (by omega)⟩
    · by_cases e : y = 0
      · subst e
        exact ⟨_, .rem0 a⟩
      · exact ⟨_, .rem a b e (by omega)⟩
    · exact ⟨_, .eq⟩
    · exact ⟨_, .ne⟩
    · exact ⟨_, .lt⟩
    · exact ⟨_, .le⟩
theorem pow_pos' (n : Nat) : (0 : Int) < 2 ^ n := Int.pow_pos (by decide)
theorem shl0 {w x k : Int} (h : w ≤ k) : mask w (x * 2 ^ k.toNat) = mask w 0 := by
  rw [mask_mod, mask_mod, Int.zero_emod]
  obtain ⟨j, e⟩ : ∃ j, k.toNat = w.toNat + j := ⟨k.toNat - w.toNat, by omega⟩
  rw [e, Int.pow_add]
  refine Int.emod_eq_zero_of_dvd ⟨x * 2 ^ j, ?_⟩
  rw [Int.mul_left_comm]
theorem pow_mono {m n : Nat} (h : m ≤ n) : (2 : Int) ^ m ≤ 2 ^ n := by
  have := Nat.pow_le_pow_right (show 0 < 2 by decide) h
  have e : ∀ k : Nat, ((2 : Int) ^ k) = ((2 ^ k : Nat) : Int) := fun k => by simp
  rw [e, e]
  omega
theorem shr0 {w x k : Int} (a : Word w x) (h : w ≤ k) : x / 2 ^ k.toNat = mask w 0 := by
  rw [mask_mod, Int.zero_emod]
  have := @pow_mono w.toNat k.toNat (by omega)
  exact Int.ediv_eq_zero_of_lt a.1 (Int.lt_of_lt_of_le a.2 this)
theorem shr1 {w x : Int} {k : Nat} (a : Word w x) : 0 ≤ x / 2 ^ k ∧ x / 2 ^ k < 2 ^ w.toNat :=
  ⟨Int.ediv_nonneg a.1 (Int.le_of_lt (pow_pos' k)), Int.lt_of_le_of_lt (Int.ediv_le_self _ a.1) a.2⟩
/-! ### promises -/
/-- the names that the words' operations read -/
structure TWord (K : PySem.W.Frag) (mg : Str → Option Value) (aR : Addr) : Prop where
  z_len : mg "len" = none
  g_RELATIONS : mg "RELATIONS" = some (.ref aR)
  q_RELATIONS : ∀ H, SqT K H aR [.str "==", .str "!=", .str "<", .str "<="]
section
variable {P : Program} {w : World} {K : PySem.W.Frag} {mg : Str → Option Value} {base : Heap} {aR : Addr}
theorem TWord.r_RELATIONS (_ : TWord K mg aR) : RelV (.ref aR) (.ref aR) := rfl
/-- told of a word of one operation: the heap grows -/
def spDiv : Sp := fun vs H Q _ => ∃ (o : Str) (x y z : Int) (w : Int), vs = [.str o, .int x, .int y] ∧ (o = "div" ∨ o = "rem") ∧ Val o w [x, y] z ∧ ∀ H', Same H H' → Q (.int z) H'
theorem ok_divided {f : Addr} {fd : FuncData} (F : Fun K "_divided" "_divided" s__divided f fd) : FnOk P w K mg base CX0 1 f fd ["op", "left", "right"] spDiv := by
  refine F.ok sc__divided (fun vs H Q E h => ?_) (fun cdv A outer s H vs Q E hr h => ?_)
  · obtain ⟨o, x, y, z, w, rfl, _⟩ := h
    rfl
  · obtain ⟨o, x, y, z, w, rfl, ho, v, q⟩ := h
    refine ⟨_, 
      (pss_cons (ps_if (pt_cmpR op_eq (pv 2) pe_int (nomark _)) 
       (pss_one (ps_ret pe_int)) pss_nil)
      (pss_one (ps_ret (pe_ifExp (pt_cmpR op_eq (pv 0) pe_str (nomark _)) (pe_op op_fdiv (pv 1) (pv 2)) (pe_op op_mod (pv 1) (pv 2)))))), ?_⟩
    cases v with
    | div0 a => walk_at "rd"; exact q _ (Same.refl _)
    | rem0 a => walk_at "rd"; exact q _ (Same.refl _)
    | div a b c d =>
      have hd : ¬ (decide (V.int y = V.int 0) = true) := fun k => c (V.int.inj (of_decide_eq_true k))
      have hc : CDiv x y := ⟨by have := b.1; omega, d⟩
      walk_at "rd"
      exact q _ (Same.refl _)
    | rem a b c d =>
      have hd : ¬ (decide (V.int y = V.int 0) = true) := fun k => c (V.int.inj (of_decide_eq_true k))
      have hc : 0 < y := by have := b.1; omega
      walk_at "rd"
      have e : x % y = x - x / y * y := by
        have := Int.emod_def x y
        rw [Int.mul_comm] at this
        exact this
      rw [e]
      exact q _ (Same.refl _)
    | _ => exfalso; rcases ho with ho | ho <;> exact absurd ho (by decide +kernel)
def spOne : Sp := fun vs H Q _ => ∃ (o : Str) (x z : Int) (w : Int), vs = [.str o, .int x] ∧ (o = "not" ∨ o = "neg" ∨ o = "wide") ∧ Val o w [x] z ∧ ∀ u, mask w u = z → Q (.int u) H
theorem ok_of_one {f : Addr} {fd : FuncData} (F : Fun K "_of_one" "_of_one" s__of_one f fd) : FnOk P w K mg base CX0 1 f fd ["op", "word"] spOne := by
  refine F.ok sc__of_one (fun vs H Q E h => ?_) (fun cdv A outer s H vs Q E hr h => ?_)
  · obtain ⟨o, x, z, w, rfl, _⟩ := h
    rfl
  · obtain ⟨o, x, z, w, rfl, ho, v, q⟩ := h
    refine ⟨_, 
      (pss_cons (ps_if (pt_cmpR op_eq (pv 0) pe_str (nomark _)) 
       (pss_one (ps_ret (pe_un un_inv (pv 1)))) pss_nil)
      (pss_cons (ps_if (pt_cmpR op_eq (pv 0) pe_str (nomark _)) 
       (pss_one (ps_ret (pe_un un_neg (pv 1)))) pss_nil)
      (pss_one (ps_ret (pv 1))))), ?_⟩
    cases v <;> first
      | (exfalso; rcases ho with ho | ho | ho <;> exact absurd ho (by decide +kernel))
      | (walk_at "rd"; exact q _ rfl)
def spRel : Sp := fun vs H Q _ => ∃ (o : Str) (x y z : Int) (w : Int), vs = [.str o, .int x, .int y] ∧ (o = "==" ∨ o = "!=" ∨ o = "<" ∨ o = "<=") ∧ Val o w [x, y] z ∧ ∀ b : Bool, (if b then 1 else 0 : Int) = z → Q (.bl b) H
theorem ok_related {f : Addr} {fd : FuncData} (F : Fun K "_related" "_related" s__related f fd) : FnOk P w K mg base CX0 1 f fd ["op", "left", "right"] spRel := by
  refine F.ok sc__related (fun vs H Q E h => ?_) (fun cdv A outer s H vs Q E hr h => ?_)
  · obtain ⟨o, x, y, z, w, rfl, _⟩ := h
    rfl
  · obtain ⟨o, x, y, z, w, rfl, ho, v, q⟩ := h
    refine ⟨_, 
      (pss_cons (ps_if (pt_cmpR op_eq (pv 0) pe_str (nomark _)) 
       (pss_one (ps_ret (pe_cmpR op_eq (pv 1) (pv 2) (nomark _)))) pss_nil)
      (pss_cons (ps_if (pt_cmpR op_eq (pv 0) pe_str (nomark _)) 
       (pss_one (ps_ret (pe_cmpR op_ne (pv 1) (pv 2) (nomark _)))) pss_nil)
      (pss_cons (ps_if (pt_cmpR op_eq (pv 0) pe_str (nomark _)) 
       (pss_one (ps_ret (pe_cmpR op_lt (pv 1) (pv 2) (nomark _)))) pss_nil)
      (pss_one (ps_ret (pe_cmpR op_le (pv 1) (pv 2) (nomark _))))))), ?_⟩
    cases v <;> first
      | (exfalso; rcases ho with ho | ho | ho | ho <;> exact absurd ho (by decide +kernel))
      | skip
    case eq => walk_at "rd"; exact q _ (by simp)
    case ne => walk_at "rd"; exact q _ (by by_cases e : x = y <;> simp [e])
    case lt => walk_at "rd"; exact q _ rfl
    case le => walk_at "rd"; exact q _ rfl
def spTwo : Sp := fun vs H Q _ => ∃ (o : Str) (x y z : Int) (w : Int), vs = [.str o, .int w, .int x, .int y] ∧ ¬ (o = "==" ∨ o = "!=" ∨ o = "<" ∨ o = "<=") ∧ Val o w [x, y] z ∧ ∀ (u : Int) (H' : Hp), Same H H' → mask w u = z → Q (.int u) H'
theorem ok_of_two {f : Addr} {fd : FuncData} (F : Fun K "_of_two" "_of_two" s__of_two f fd) (c__divided : Cal P w K mg base "_divided" 1 spDiv) : FnOk P w K mg base CX0 2 f fd ["op", "width", "left", "right"] spTwo := by
  refine F.ok sc__of_two (fun vs H Q E h => ?_) (fun cdv A outer s H vs Q E hr h => ?_)
  · obtain ⟨o, x, y, z, w, rfl, _⟩ := h
    rfl
  · obtain ⟨o, x, y, z, w, rfl, ho, v, q⟩ := h
    refine ⟨_, 
      (pss_cons (ps_if (pt_cmpR op_eq (pv 0) pe_str (nomark _)) 
       (pss_one (ps_ret (pe_op op_add (pv 2) (pv 3)))) pss_nil)
      (pss_cons (ps_if (pt_cmpR op_eq (pv 0) pe_str (nomark _)) 
       (pss_one (ps_ret (pe_op op_sub (pv 2) (pv 3)))) pss_nil)
      (pss_cons (ps_if (pt_cmpR op_eq (pv 0) pe_str (nomark _)) 
       (pss_one (ps_ret (pe_op op_mul (pv 2) (pv 3)))) pss_nil)
      (pss_cons (ps_if (pt_cmpR op_eq (pv 0) pe_str (nomark _)) 
       (pss_one (ps_ret (pe_op op_and (pv 2) (pv 3)))) pss_nil)
      (pss_cons (ps_if (pt_cmpR op_eq (pv 0) pe_str (nomark _)) 
       (pss_one (ps_ret (pe_op op_or (pv 2) (pv 3)))) pss_nil)
      (pss_cons (ps_if (pt_cmpR op_eq (pv 0) pe_str (nomark _)) 
       (pss_one (ps_ret (pe_op op_xor (pv 2) (pv 3)))) pss_nil)
      (pss_cons (ps_if (pt_cmpR (r := rIn K false) op_in_seq (pv 0) (pe_tup (pa_cons pe_str (pa_cons pe_str pa_nil))) (by rfl)) 
       (pss_one (ps_ret (Zn.pe_cal c__divided (hr.mono (by decide)) (by rfl) (pa_cons (pv 0) (pa_cons (pv 2) (pa_cons (pv 3) pa_nil)))))) pss_nil)
      (pss_cons (ps_if (pt_cmpR op_ge (pv 3) (pv 1) (nomark _)) 
       (pss_one (ps_ret pe_int)) pss_nil)
      (pss_one (ps_ret (pe_ifExp (pt_cmpR op_eq (pv 0) pe_str (nomark _)) (pe_op op_shl (pv 2) (pv 3)) (pe_op op_shr (pv 2) (pv 3))))))))))))), ?_⟩
    cases v with
    | add => walk_at "rd"; exact q _ _ (Same.refl _) rfl
    | sub => walk_at "rd"; exact q _ _ (Same.refl _) rfl
    | mul b a =>
      have hc : CMul x y := mulL a b
      walk_at "rd"; exact q _ _ (Same.refl _) rfl
    | and a b => walk_at "rd"; exact q _ _ (Same.refl _) (mask_id (and_in a.1 a.2 b.1).1 (and_in a.1 a.2 b.1).2)
    | or a b => walk_at "rd"; exact q _ _ (Same.refl _) (mask_id (or_in a.1 a.2 b.1 b.2).1 (or_in a.1 a.2 b.1 b.2).2)
    | xor a b => walk_at "rd"; exact q _ _ (Same.refl _) (mask_id (xor_in a.1 a.2 b.1 b.2).1 (xor_in a.1 a.2 b.1 b.2).2)
    | shl a b c d e =>
      walk_at "rd"
      refine ite2 (fun h => ?_) (fun h => ?_)
      · have h := of_decide_eq_true h
        walk_at "rd"
        exact q _ _ (by walk_at "sm") (shl0 (by split <;> omega)).symm
      · have h : ¬ w ≤ y := fun k => h (decide_eq_true k)
        have hc : CPow x y := ⟨b, by omega, e⟩
        have e8 : (if 8 < y then 8 else y) = y := if_neg (by omega)
        walk_at "rd"
        exact q _ _ (by walk_at "sm") (by rw [e8])
    | shr a b c d =>
      walk_at "rd"
      refine ite2 (fun h => ?_) (fun h => ?_)
      · have h := of_decide_eq_true h
        walk_at "rd"
        exact q _ _ (by walk_at "sm") (shr0 a (by split <;> omega)).symm
      · have h : ¬ w ≤ y := fun k => h (decide_eq_true k)
        have e8 : (if 8 < y then 8 else y) = y := if_neg (by omega)
        walk_at "rd"
        exact q _ _ (by walk_at "sm") (by rw [e8]; exact mask_id (shr1 a).1 (shr1 a).2)
    | div0 a =>
      walk_at "rd"
      exact ⟨_, x, 0, 0, w, rfl, .inl rfl, .div0 a, fun H' s => q _ _ (.trans (by walk_at "sm") s) (mask_id (Int.le_refl _) (pow_pos' _))⟩
    | rem0 a =>
      walk_at "rd"
      exact ⟨_, x, 0, 0, w, rfl, .inr rfl, .rem0 a, fun H' s => q _ _ (.trans (by walk_at "sm") s) (mask_id (Int.le_refl _) (pow_pos' _))⟩
    | div a b c d =>
      walk_at "rd"
      exact ⟨_, x, y, _, w, rfl, .inl rfl, .div a b c d, fun H' s => q _ _ (.trans (by walk_at "sm") s) (mask_id (Int.ediv_nonneg a.1 b.1) (Int.lt_of_le_of_lt (Int.ediv_le_self _ a.1) a.2))⟩
    | rem a b c d =>
      walk_at "rd"
      have e : x - x / y * y = x % y := by
        have := Int.emod_def x y
        rw [Int.mul_comm] at this
        exact this.symm
      have y0 := b.1
      exact ⟨_, x, y, _, w, rfl, .inr rfl, .rem a b c d, fun H' s => q _ _ (.trans (by walk_at "sm") s) (by
        rw [e]
        exact mask_id (Int.emod_nonneg _ c) (Int.lt_trans (Int.emod_lt_of_pos _ (by omega)) b.2))⟩
    | _ => exfalso; exact ho (by decide +kernel)
/-- an operation of the program, the words as they are told -/
def spRes : Sp := fun vs H Q _ => ∃ (o : Str) (w z : Int) (xs : List Int), vs = .str o :: .int w :: xs.map V.int ∧ xs.length ≤ 3 ∧ 1 ≤ w ∧ w ≤ 8 ∧ Val o w xs z ∧ ∀ H', Same H H' → Q (.int z) H'
/-- the same, the words in a tuple -/
def spRes0 : Sp := fun vs H Q _ => ∃ (o : Str) (p : Addr) (w z : Int) (xs : List Int), vs = [.str o, .int w, .ref p] ∧ H p = some (.tup (xs.map V.int)) ∧ 1 ≤ w ∧ w ≤ 8 ∧ Val o w xs z ∧ ∀ H', Same H H' → Q (.int z) H'
theorem body_result {A : Around} {outer : List Env} {s : Shared} {f : Addr} {cdv : Value} {H : Hp} {vs : List V} {Q : VK} {E : XK} (c__of_one : Cal P w K mg base "_of_one" 1 spOne) (c__related : Cal P w K mg base "_related" 1 spRel) (c__of_two : Cal P w K mg base "_of_two" 2 spTwo) (T : TWord K mg aR)
    (hr : Room 2 (A.deeper (envOfC "result" (defScope s_result) s.heap.objs.size f cdv))) (h : spRes0 vs H Q E) :
    ∃ t, PSs (cxOf CX0 P w K mg base ["op", "width", "words", "choice", "left", "right"] "result" (defScope s_result) f cdv A outer s H E).nox (defBody s_result) t ∧ t { nx := fun _ H' => Q .non H', rt := Q } (start ["op", "width", "words", "choice", "left", "right"] vs) H := by
  obtain ⟨o, p, w, z, xs, rfl, hp, w1, w8, v, q⟩ := h
  have hRel := T.q_RELATIONS H
  refine ⟨_, 
      (pss_cons (ps_if (pt_cmpR op_eq (pv 0) pe_str (nomark _)) 
       (pss_cons (ps_asg (pv 2) (pg_tup (by rfl) (pgs_cons (pg_name (i := 3) sc_result.nd rfl (Or.inl rfl)) (pgs_cons (pg_name (i := 4) sc_result.nd rfl (Or.inl rfl)) (pgs_cons (pg_name (i := 5) sc_result.nd rfl (Or.inl rfl)) pgs_nil)))))
       (pss_one (ps_ret (pe_ifExp (pt_cmpR op_eq (pv 3) pe_int (nomark _)) (pv 4) (pv 5))))) pss_nil)
      (pss_cons (ps_if (pt_cmpR op_eq (pe_callB call_len_seq (by rfl) T.z_len (by decide +kernel) (pa_cons (pv 2) pa_nil)) pe_int (nomark _)) 
       (pss_one (ps_ret (pe_op op_and (Zn.pe_cal c__of_one (hr.mono (by decide)) (by rfl) (pa_cons (pv 0) (pa_cons (pe_ix (r := rIxT K) ix_tup (pv 2) pe_int (fun _ _ => rfl)) pa_nil))) (pe_op op_sub (pe_op op_shl pe_int (pv 1)) pe_int)))) pss_nil)
      (pss_cons (ps_asg (pv 2) (pg_tup (by rfl) (pgs_cons (pg_name (i := 4) sc_result.nd rfl (Or.inl rfl)) (pgs_cons (pg_name (i := 5) sc_result.nd rfl (Or.inl rfl)) pgs_nil))))
      (pss_cons (ps_if (pt_cmpR (r := rIn K false) op_in_seq (pv 0) (pe_glob (by rfl) T.g_RELATIONS T.r_RELATIONS) (by rfl)) 
       (pss_one (ps_ret (pe_ifExp (pt_val (Zn.pe_cal c__related (hr.mono (by decide)) (by rfl) (pa_cons (pv 0) (pa_cons (pv 4) (pa_cons (pv 5) pa_nil))))) pe_int pe_int))) pss_nil)
      (pss_one (ps_ret (pe_op op_and (Zn.pe_cal c__of_two (hr.mono (by decide)) (by rfl) (pa_cons (pv 0) (pa_cons (pv 1) (pa_cons (pv 4) (pa_cons (pv 5) pa_nil))))) (pe_op op_sub (pe_op op_shl pe_int (pv 1)) pe_int)))))))), ?_⟩
  have hc : CPow 1 w := ⟨by omega, by omega, by decide⟩
  have v' := v
  cases v with
  | not =>
    have hp : H p = some (.tup [.int _]) := hp
    walk_at "rd"
    refine ⟨_, _, _, w, rfl, .inl rfl, .not, fun u e => ?_⟩
    walk_at "rd"
    show Q (.int (mask w u)) H
    rw [e]
    exact q _ (Same.refl _)
  | neg =>
    have hp : H p = some (.tup [.int _]) := hp
    walk_at "rd"
    refine ⟨_, _, _, w, rfl, .inr (.inl rfl), .neg, fun u e => ?_⟩
    walk_at "rd"
    show Q (.int (mask w u)) H
    rw [e]
    exact q _ (Same.refl _)
  | wide =>
    have hp : H p = some (.tup [.int _]) := hp
    walk_at "rd"
    refine ⟨_, _, _, w, rfl, .inr (.inr rfl), .wide, fun u e => ?_⟩
    walk_at "rd"
    show Q (.int (mask w u)) H
    rw [e]
    exact q _ (Same.refl _)
  | pick1 =>
    have hp : H p = some (.tup [.int 1, .int _, .int _]) := hp
    walk_at "rd"
    exact q _ (Same.refl _)
  | pick0 =>
    have hp : H p = some (.tup [.int 0, .int _, .int _]) := hp
    walk_at "rd"
    exact q _ (Same.refl _)
  | _ =>
    have hp : H p = some (.tup [.int _, .int _]) := hp
    walk_at "rd"
    first
      | (refine ⟨_, _, _, _, w, rfl, by decide +kernel, v', fun u H' s e => ?_⟩
         walk_at "rd"
         show Q (.int (mask w u)) H'
         rw [e]
         exact q _ (.trans (by walk_at "sm") s))
      | (refine ⟨_, _, _, _, w, rfl, by decide +kernel, v', fun b e => ?_⟩
         cases b
         · walk_at "rd"
           rw [← e] at q
           exact q _ (by walk_at "sm")
         · walk_at "rd"
           rw [← e] at q
           exact q _ (by walk_at "sm"))
theorem cal_result {f : Addr} {fd : FuncData} (F : Fun K "result" "result" s_result f fd) (hm : mg "result" = some (.ref f)) (c__of_one : Cal P w K mg base "_of_one" 1 spOne) (c__related : Cal P w K mg base "_related" 1 spRel) (c__of_two : Cal P w K mg base "_of_two" 2 spTwo) (T : TWord K mg aR) :
    Cal P w K mg base "result" 3 spRes := by
  refine ⟨f, hm, ?_, F.kp⟩
  obtain ⟨oc, od, kV, doc, pm, an, cdv, ct, osl, rfl, lk, hcd⟩ := F.ex
  have G := StX.fn_star (P := P) (w := w) (mg := mg) (base := base) (k := 2) (ps := ["op", "width"]) (pv := "words") (CX := CX0) (sp := spRes0) lk hcd sc_result (StX.cxUp_none) (StX.bind_star2 (B := fun l => bindArgs (PySem.W.fnOf "result" "result" (defArgs s_result) (defBody s_result) (defScope s_result) .none kV doc pm an cdv ct) ⟨l, []⟩) (p1 := "op") (p2 := "width") (pv := "words") (fun _ _ => rfl) (fun _ _ _ _ => rfl)) (fun A outer s H vs Q E hr h => by
    obtain ⟨t, h1, h2⟩ := body_result (P := P) (w := w) (mg := mg) (base := base) c__of_one c__related c__of_two T hr h
    exact ⟨t, h1.nox, h2⟩)
  refine G.imp fun vs H Q E h => ?_
  obtain ⟨o, wd, z, xs, rfl, hl, w1, w8, v, q⟩ := h
  refine ⟨[.str o, .int wd], xs.map V.int, rfl, rfl, len_ok (by rw [List.length_map]; omega), fun p hp => ?_⟩
  exact ⟨o, p, wd, z, xs, rfl, upd_same, w1, w8, v, fun H' s => q H' (.trans (same_new hp) s)⟩
end
end Zn
namespace Zn
open PySem PySem.Spec PyProof.Rows L2 TL
abbrev s_operands_of : Stmt := topS 1
theorem sc_operands_of : FnScope ["node"] ["node"] (defScope s_operands_of) := ⟨rfl, rfl, rfl, by decide +kernel, rfl, by decide +kernel, by decide +kernel⟩

abbrev s_cone_of : Stmt := topS 2
theorem sc_cone_of : FnScope ["rows", "terms", "left_out", "reached", "waiting", "at"] ["rows", "terms", "left_out"] (defScope s_cone_of) := ⟨rfl, rfl, rfl, by decide +kernel, rfl, by decide +kernel, by decide +kernel⟩

abbrev s_reckoning_width : Stmt := topS 3
theorem sc_reckoning_width : FnScope ["rows", "op", "width", "terms"] ["rows", "op", "width", "terms"] (defScope s_reckoning_width) := ⟨rfl, rfl, rfl, by decide +kernel, rfl, by decide +kernel, by decide +kernel⟩

abbrev s_value_of : Stmt := topS 12
theorem sc_value_of : FnScope ["nodes", "words", "term", "values", "at"] ["nodes", "words", "term"] (defScope s_value_of) := ⟨rfl, rfl, rfl, by decide +kernel, rfl, by decide +kernel, by decide +kernel⟩

abbrev s_values_of : Stmt := topS 13
theorem sc_values_of : FnScope ["nodes", "words", "values", "node"] ["nodes", "words"] (defScope s_values_of) := ⟨rfl, rfl, rfl, by decide +kernel, rfl, by decide +kernel, by decide +kernel⟩

abbrev s__value : Stmt := topS 14
theorem sc__value : FnScope ["nodes", "words", "values", "node", "op", "width", "number", "terms", "operands", "term"] ["nodes", "words", "values", "node"] (defScope s__value) := ⟨rfl, rfl, rfl, by decide +kernel, rfl, by decide +kernel, by decide +kernel⟩

/-! ### nodes -/
abbrev Nd := Str × Int × List Int
def ndV (nd : Nd) : List V := .str nd.1 :: .int nd.2.1 :: nd.2.2.map V.int
def IsNd (H : Hp) (v : V) (nd : Nd) : Prop := ∃ p, v = .ref p ∧ H p = some (.tup (ndV nd))
structure IsSheet (H : Hp) (N : Addr) (ns : List V) (nds : List Nd) : Prop where
  at_ : H N = some (.tup ns)
  len : ns.length = nds.length
  row : ∀ (j : Nat) (v : V) (nd : Nd), ns[j]? = some v → nds[j]? = some nd → IsNd H v nd
theorem IsSheet.tp {H H' : Hp} {N : Addr} {ns : List V} {nds : List Nd} (h : IsSheet H N ns nds) (k : Tp H H') : IsSheet H' N ns nds :=
  ⟨k _ _ h.at_, h.len, fun j v c a b => by obtain ⟨t, e, x⟩ := h.row j v c a b; exact ⟨t, e, k _ _ x⟩⟩
theorem IsSheet.get {H : Hp} {N : Addr} {ns : List V} {nds : List Nd} (h : IsSheet H N ns nds) {j : Nat} {nd : Nd} (hj : nds[j]? = some nd) : ∃ p, ns[j]? = some (.ref p) ∧ H p = some (.tup (ndV nd)) := by
  have hl : j < ns.length := by rw [h.len]; exact getL hj
  obtain ⟨p, e, hp⟩ := h.row j ns[j] nd (List.getElem?_eq_getElem hl) hj
  exact ⟨p, by rw [List.getElem?_eq_getElem hl, e], hp⟩
def leaf (o : Str) : Bool := decide (o = "word") || decide (o = "input")
def rwd (o : Str) (w : Int) : Int := if o = "==" ∨ o = "!=" ∨ o = "<" ∨ o = "<=" then 1 else w
/-- an operation over nodes ahead -/
structure OpOk (nds : List Nd) (j : Nat) (nd : Nd) (ws : List Int) (rw : Int) : Prop where
  sh : Shape nd.1 rw ws
  r1 : 1 ≤ rw
  r8 : rw ≤ 8
  w : nd.2.1 = rwd nd.1 rw
  len : ws.length = nd.2.2.length
  ops : ∀ (k : Nat) (a : Int), nd.2.2[k]? = some a → 0 ≤ a ∧ a < (j : Int) ∧ ∃ nd', nds[a.toNat]? = some nd' ∧ ws[k]? = some nd'.2.1
def OkNd (nds : List Nd) (j : Nat) (nd : Nd) : Prop :=
  (nd.1 = "word" ∧ 1 ≤ nd.2.1 ∧ nd.2.1 ≤ 8 ∧ ∃ v, nd.2.2 = [v] ∧ Word nd.2.1 v) ∨ (nd.1 = "input" ∧ 1 ≤ nd.2.1 ∧ nd.2.1 ≤ 8 ∧ ∃ n, nd.2.2 = [n] ∧ 0 ≤ n) ∨ ∃ ws rw, OpOk nds j nd ws rw
def OkSheet (nds : List Nd) : Prop := ∀ (j : Nat) (nd : Nd), nds[j]? = some nd → OkNd nds j nd
theorem shape_leaf {o : Str} {w : Int} {ws : List Int} (h : Shape o w ws) : leaf o = false := by
  cases h with
  | one h => rcases h with rfl | rfl <;> decide +kernel
  | wide h0 h1 => decide +kernel
  | shift h h0 h1 => rcases h with rfl | rfl <;> decide +kernel
  | pick => decide +kernel
  | two h =>
    simp only [List.mem_cons, List.not_mem_nil, or_false] at h
    rcases h with rfl | rfl | rfl | rfl | rfl | rfl | rfl | rfl | rfl | rfl | rfl | rfl <;> decide +kernel
theorem shape_len {o : Str} {w : Int} {ws : List Int} (h : Shape o w ws) : 1 ≤ ws.length ∧ ws.length ≤ 3 := by
  cases h <;> simp
theorem leaf_no {o : Str} (h : leaf o = false) : o ≠ "word" ∧ o ≠ "input" := by
  unfold leaf at h
  simpa using h
theorem shape_ws {o : Str} {w : Int} {ws : List Int} (h : Shape o w ws) (r1 : 1 ≤ w) (r8 : w ≤ 8) : ∀ v ∈ ws, 1 ≤ v ∧ v ≤ 8 := by
  cases h with
  | one h => simpa using ⟨r1, r8⟩
  | wide h0 h1 => simpa using ⟨h0, h1⟩
  | shift h h0 h1 => simpa using ⟨⟨r1, r8⟩, h0, h1⟩
  | pick => simpa using ⟨r1, r8⟩
  | two h => simpa using ⟨r1, r8⟩
theorem OkNd.w18 {nds : List Nd} {j : Nat} {nd : Nd} (h : OkNd nds j nd) : 1 ≤ nd.2.1 ∧ nd.2.1 ≤ 8 := by
  rcases h with ⟨_, a, b, _⟩ | ⟨_, a, b, _⟩ | ⟨ws, rw, h⟩
  · exact ⟨a, b⟩
  · exact ⟨a, b⟩
  · rw [h.w]
    unfold rwd
    have := h.r1
    have := h.r8
    split <;> omega
/-! ### values -/
def NVal (nds : List Nd) (words zs : List Int) (j : Nat) (nd : Nd) (z : Int) : Prop :=
  (nd.1 = "word" ∧ nd.2.2 = [z]) ∨ (nd.1 = "input" ∧ ∃ n, nd.2.2 = [n] ∧ 0 ≤ n ∧ z = if n < (words.length : Int) then mask nd.2.1 (words.getD n.toNat 0) else 0) ∨
    ∃ ws rw, OpOk nds j nd ws rw ∧ Val nd.1 rw (nd.2.2.map fun a => zs.getD a.toNat 0) z
structure EvL (nds : List Nd) (words zs : List Int) : Prop where
  len : zs.length = nds.length
  val : ∀ (j : Nat) (nd : Nd) (z : Int), nds[j]? = some nd → zs[j]? = some z → NVal nds words zs j nd z
  wd : ∀ (j : Nat) (nd : Nd) (z : Int), nds[j]? = some nd → zs[j]? = some z → Word nd.2.1 z
theorem one_word {w : Int} (h : 1 ≤ w) {b : Bool} : Word 1 (if b then 1 else 0) := by
  cases b <;> exact ⟨by decide, by decide⟩
theorem mask_word (w x : Int) : Word w (mask w x) := by
  rw [mask_mod]
  exact ⟨Int.emod_nonneg _ (Int.ne_of_gt (pow_pos' _)), Int.emod_lt_of_pos _ (pow_pos' _)⟩
theorem shape_pick {o : Str} {w : Int} {ws : List Int} (s : Shape o w ws) (e : o = "pick") : ws = [1, w, w] := by
  cases s with
  | pick => rfl
  | one h => rcases h with rfl | rfl <;> exact absurd e (by decide +kernel)
  | wide => exact absurd e (by decide +kernel)
  | shift h => rcases h with rfl | rfl <;> exact absurd e (by decide +kernel)
  | two h =>
    subst e
    exact absurd h (by decide +kernel)
theorem val_word {o : Str} {w : Int} {ws xs : List Int} {z : Int} (s : Shape o w ws) (f : Fits ws xs) (r1 : 1 ≤ w) (v : Val o w xs z) : Word (rwd o w) z := by
  cases v with
  | not => exact mask_word _ _
  | neg => exact mask_word _ _
  | wide => exact mask_word _ _
  | pick1 =>
    have := shape_pick s rfl
    subst this
    exact f.2.1
  | pick0 =>
    have := shape_pick s rfl
    subst this
    exact f.2.2.1
  | add => exact mask_word _ _
  | sub => exact mask_word _ _
  | mul => exact mask_word _ _
  | and a b => exact and_in a.1 a.2 b.1
  | or a b => exact or_in a.1 a.2 b.1 b.2
  | xor a b => exact xor_in a.1 a.2 b.1 b.2
  | shl => exact mask_word _ _
  | shr a => exact shr1 a
  | div0 => exact ⟨by decide, pow_pos' _⟩
  | rem0 => exact ⟨by decide, pow_pos' _⟩
  | div a b => exact ⟨Int.ediv_nonneg a.1 b.1, Int.lt_of_le_of_lt (Int.ediv_le_self _ a.1) a.2⟩
  | @rem _ x y a b c d =>
    have e : x - x / y * y = x % y := by
      have := Int.emod_def x y
      rw [Int.mul_comm] at this
      exact this.symm
    have y0 := b.1
    rw [e]
    exact ⟨Int.emod_nonneg _ c, Int.lt_trans (Int.emod_lt_of_pos _ (by omega)) b.2⟩
  | eq => exact one_word r1
  | @ne _ x y =>
    have : (if decide (x = y) = true then (0 : Int) else 1) = if !decide (x = y) then 1 else 0 := by cases decide (x = y) <;> rfl
    rw [this]
    exact one_word r1
  | lt => exact one_word r1
  | le => exact one_word r1
theorem fits_of : ∀ {ws xs : List Int}, ws.length = xs.length → (∀ (k : Nat) (w x : Int), ws[k]? = some w → xs[k]? = some x → Word w x) → Fits ws xs
  | [], [], _, _ => trivial
  | w :: ws, x :: xs, hl, h => ⟨h 0 w x rfl rfl, fits_of (by simpa using hl) fun k w' x' a b => h (k + 1) w' x' (by simpa using a) (by simpa using b)⟩
  | [], _ :: _, hl, _ => by simp at hl
  | _ :: _, [], hl, _ => by simp at hl
theorem NVal.mono {nds : List Nd} {words zs zs' : List Int} {j : Nat} {nd : Nd} {z : Int} (h : NVal nds words zs j nd z) (hz : ∀ k, k < j → zs'.getD k 0 = zs.getD k 0) : NVal nds words zs' j nd z := by
  rcases h with h | h | ⟨ws, rw, ho, hv⟩
  · exact .inl h
  · exact .inr (.inl h)
  · refine .inr (.inr ⟨ws, rw, ho, ?_⟩)
    have e : (nd.2.2.map fun a => zs'.getD a.toNat 0) = nd.2.2.map fun a => zs.getD a.toNat 0 := by
      refine List.map_congr_left fun a ha => ?_
      obtain ⟨k, hk⟩ := List.mem_iff_getElem?.mp ha
      obtain ⟨a0, a1, _⟩ := ho.ops k a hk
      exact hz _ (by omega)
    rw [e]
    exact hv
theorem ev_ex {nds : List Nd} (ok : OkSheet nds) (words : List Int) : ∃ zs, EvL nds words zs := by
  have key : ∀ n, n ≤ nds.length → ∃ zs : List Int, zs.length = n ∧ (∀ (j : Nat) (nd : Nd) (z : Int), nds[j]? = some nd → zs[j]? = some z → NVal nds words zs j nd z) ∧ ∀ (j : Nat) (nd : Nd) (z : Int), nds[j]? = some nd → zs[j]? = some z → Word nd.2.1 z := by
    intro n
    induction n with
    | zero => exact fun _ => ⟨[], rfl, fun j nd z _ h => by simp at h, fun j nd z _ h => by simp at h⟩
    | succ n ih =>
      intro hn
      obtain ⟨zs, hl, hv, hw⟩ := ih (by omega)
      obtain ⟨nd, hnd⟩ : ∃ nd, nds[n]? = some nd := ⟨_, List.getElem?_eq_getElem (by omega)⟩
      have step : ∃ z, NVal nds words zs n nd z ∧ Word nd.2.1 z := by
        rcases ok n nd hnd with ⟨e, _, _, v, e2, hvw⟩ | ⟨e, w1, w8, m, e2, m0⟩ | ⟨ws, rw, ho⟩
        · exact ⟨v, .inl ⟨e, e2⟩, hvw⟩
        · refine ⟨_, .inr (.inl ⟨e, m, e2, m0, rfl⟩), ?_⟩
          split
          · exact mask_word _ _
          · exact ⟨by decide, pow_pos' _⟩
        · have hf : Fits ws (nd.2.2.map fun a => zs.getD a.toNat 0) := by
            refine fits_of (by rw [List.length_map]; exact ho.len) fun k w x hk hx => ?_
            rw [List.getElem?_map] at hx
            obtain ⟨a, ha, rfl⟩ := Option.map_eq_some_iff.mp hx
            obtain ⟨a0, a1, nd', hd, hk'⟩ := ho.ops k a ha
            rw [hk] at hk'
            cases hk'
            exact hw _ _ _ hd (getD_at (by omega))
          obtain ⟨z, hz⟩ := val_ex ho.r1 ho.r8 ho.sh hf
          refine ⟨z, .inr (.inr ⟨ws, rw, ho, hz⟩), ?_⟩
          have := val_word ho.sh hf ho.r1 hz
          rw [ho.w]
          exact this
      obtain ⟨z, hz, hzw⟩ := step
      have same : ∀ k, k < n → (zs ++ [z]).getD k 0 = zs.getD k 0 := fun k hk => by
        rw [List.getD_eq_getElem?_getD, List.getElem?_append_left (by omega), ← List.getD_eq_getElem?_getD]
      refine ⟨zs ++ [z], by rw [List.length_append, hl]; rfl, fun j nd' z' hj hz' => ?_, fun j nd' z' hj hz' => ?_⟩
      · have hjl := getL hz'
        rw [List.length_append] at hjl
        have hjl : j < zs.length + 1 := hjl
        by_cases hlt : j < zs.length
        · rw [List.getElem?_append_left hlt] at hz'
          exact (hv j nd' z' hj hz').mono fun k hk => same k (by omega)
        · have : j = zs.length := by omega
          subst this
          rw [List.getElem?_concat_length] at hz'
          cases hz'
          rw [hl, hnd] at hj
          cases hj
          rw [hl]
          exact hz.mono same
      · have hjl := getL hz'
        rw [List.length_append] at hjl
        have hjl : j < zs.length + 1 := hjl
        by_cases hlt : j < zs.length
        · rw [List.getElem?_append_left hlt] at hz'
          exact hw j nd' z' hj hz'
        · have : j = zs.length := by omega
          subst this
          rw [List.getElem?_concat_length] at hz'
          cases hz'
          rw [hl, hnd] at hj
          cases hj
          exact hzw
  obtain ⟨zs, h1, h2, h3⟩ := key nds.length (Nat.le_refl _)
  exact ⟨zs, h1, h2, h3⟩
end Zn
namespace Zn
open PySem PySem.Spec PyProof.Rows L2 TL
/-- what the values' defs read of the module -/
structure TVal (K : PySem.W.Frag) (mg : Str → Option Value) (aR : Addr) : Prop extends TWord K mg aR where
  z_list : mg "list" = none
  z_sorted : mg "sorted" = none
  z_tuple : mg "tuple" = none
def HasV (K : PySem.W.Frag) (H : Hp) (x : V) (a z : Int) : Prop := (∃ q l, x = .ref q ∧ SqL K H q l ∧ atI l a = some (.int z)) ∨ ∃ q kvs, x = .ref q ∧ H q = some (.dK kvs) ∧ valV kvs (.inl a) = some (.int z)
theorem SqL.same' {K : PySem.W.Frag} {H H' : Hp} {q : Addr} {l : List V} (s : Same H H') (h : SqL K H q l) : SqL K H' q l := by
  rcases h with (h | ⟨o, h⟩) | h
  · exact .inl (.inl (s _ _ h))
  · exact .inl (.inr ⟨o, s _ _ h⟩)
  · exact .inr h
theorem HasV.same {K : PySem.W.Frag} {H H' : Hp} {x : V} {a z : Int} (h : HasV K H x a z) (s : Same H H') : HasV K H' x a z := by
  rcases h with ⟨q, l, e, h, g⟩ | ⟨q, kvs, e, h, g⟩
  · exact .inl ⟨q, l, e, SqL.same' s h, g⟩
  · exact .inr ⟨q, kvs, e, s _ _ h, g⟩
section
variable {P : Program} {w : World} {K : PySem.W.Frag} {mg : Str → Option Value} {base : Heap} {aR : Addr}
def spOper : Sp := fun vs H Q _ => ∃ (p : Addr) (o : Str) (wd : Int) (as : List Int), vs = [.ref p] ∧ H p = some (.tup (ndV (o, wd, as))) ∧ as.length ≤ 3 ∧ 1 ≤ as.length ∧ ∀ H' q, Same H H' → H' q = some (.tup (if leaf o then [] else as.map V.int)) → Q (.ref q) H'
theorem ok_operands {f : Addr} {fd : FuncData} (F : Fun K "operands_of" "operands_of" s_operands_of f fd) : FnOk P w K mg base CX0 1 f fd ["node"] spOper := by
  refine F.ok sc_operands_of (fun vs H Q E h => ?_) (fun cdv A outer s H vs Q E hr h => ?_)
  · obtain ⟨p, o, wd, as, rfl, _⟩ := h
    rfl
  · obtain ⟨p, o, wd, as, rfl, hp, hl, h1, q⟩ := h
    unfold ndV at hp
    dsimp only at hp
    refine ⟨_, 
      (pss_one (ps_ret (pe_ifExp (pt_cmpR (r := rIn K false) op_in_seq (pe_ix (r := rIxT K) ix_tup (pv 0) pe_int (fun _ _ => rfl)) (pe_tup (pa_cons pe_str (pa_cons pe_str pa_nil))) (by rfl)) (pe_tup pa_nil) (pe_slice (r := rSlA K) sl_tupA (pv 0) (po_some pe_int) po_none)))), ?_⟩
    walk_at "rs"
    rename_i t ht
    have hp' := same_new (o := .tup [.str "word", .str "input"]) ht _ _ hp
    have e : inV (.str o) [.str "word", .str "input"] = leaf o := by
      unfold leaf inV
      simp only [List.any_cons, List.any_nil, Bool.or_false]
      have e1 : ∀ a b : Str, eqV (.str a) (.str b) = decide (b = a) := fun a b => by
        show decide (a = b) = decide (b = a)
        rw [decide_eq_decide]
        exact ⟨Eq.symm, Eq.symm⟩
      rw [e1, e1]
    rw [e]
    cases hlf : leaf o
    · walk_at "rs"
      refine ⟨_, _, rfl, st_of hp', fun ⟨h0, _⟩ => ?_, fun _ q' hq' => ?_⟩
      · exfalso
        rw [show (2 : Int) = ((2 : Nat) : Int) from rfl, HT.sIx_nat] at h0
        simp only [List.length_cons, List.length_map] at h0
        omega
      · rw [show (2 : Int) = ((2 : Nat) : Int) from rfl, cutV_from]
        refine q _ q' ((same_new ht).trans (same_new hq')) ?_
        rw [upd_same, hlf]
        rfl
    · walk_at "rs"
      rename_i t2 ht2
      refine q _ t2 ((same_new ht).trans (same_new ht2)) ?_
      rw [upd_same, hlf]
      rfl
def spReck : Sp := fun vs H Q _ => ∃ (N tp : Addr) (ns : List V) (nds : List Nd) (j : Nat) (nd : Nd) (ws : List Int) (rw : Int), vs = [.ref N, .str nd.1, .int nd.2.1, .ref tp] ∧ IsSheet H N ns nds ∧ OpOk nds j nd ws rw ∧ H tp = some (.tup (nd.2.2.map V.int)) ∧ j ≤ nds.length ∧ ∀ H', Same H H' → Q (.int rw) H'
theorem ok_reck {f : Addr} {fd : FuncData} (F : Fun K "reckoning_width" "reckoning_width" s_reckoning_width f fd) : FnOk P w K mg base CX0 1 f fd ["rows", "op", "width", "terms"] spReck := by
  refine F.ok sc_reckoning_width (fun vs H Q E h => ?_) (fun cdv A outer s H vs Q E hr h => ?_)
  · obtain ⟨N, tp, ns, nds, j, nd, ws, rw, rfl, _⟩ := h
    rfl
  · obtain ⟨N, tp, ns, nds, j, ⟨o, wd, as⟩, ws, rw, rfl, IS, ok, ht, hj, q⟩ := h
    have hw := ok.w
    have hsh := ok.sh
    have hlen := ok.len
    have hops := ok.ops
    dsimp only at hw hsh hlen hops ht ⊢
    refine ⟨_, 
      (pss_one (ps_ret (pe_ifExp (pt_cmpR (r := rIn K false) op_in_seq (pv 1) (pe_tup (pa_cons pe_str (pa_cons pe_str pa_nil))) (by rfl)) (pv 2) (pe_ix (r := rIxT K) ix_tup (pe_ix (r := rIxT K) ix_tup (pv 0) (pe_ix (r := rIxT K) ix_tup (pv 3) pe_int (fun _ _ => rfl)) (fun _ _ => rfl)) pe_int (fun _ _ => rfl))))), ?_⟩
    walk_at "rs"
    rename_i t ht'
    have s1 := same_new (o := .tup [.str "wide", .str "pick"]) ht'
    have e : inV (.str o) [.str "wide", .str "pick"] = (decide (o = "wide") || decide (o = "pick")) := by
      unfold inV
      simp only [List.any_cons, List.any_nil, Bool.or_false]
      have e1 : ∀ a b : Str, eqV (.str a) (.str b) = decide (b = a) := fun a b => by
        show decide (a = b) = decide (b = a)
        rw [decide_eq_decide]
        exact ⟨Eq.symm, Eq.symm⟩
      rw [e1, e1]
    rw [e]
    cases hc : (decide (o = "wide") || decide (o = "pick"))
    · walk_at "rs"
      obtain ⟨a, as', rfl⟩ : ∃ a as', as = a :: as' := by
        cases as with
        | nil => have := (shape_len hsh).1; rw [hlen] at this; cases this
        | cons a as' => exact ⟨a, as', rfl⟩
      obtain ⟨a0, a1, nd', hd, hk⟩ := hops 0 a rfl
      obtain ⟨p, hns, hp⟩ := IS.get hd
      unfold ndV at hp
      have hp := s1 _ _ hp
      have erw : nd'.2.1 = rw := by
        have hne : ¬ (o = "wide" ∨ o = "pick") := by simpa using hc
        have : ∀ v, ws[0]? = some v → v = rw := by
          cases hsh with
          | one h => intro v h; simpa using h.symm
          | wide => exact absurd (Or.inl rfl) hne
          | shift h => intro v h; simpa using h.symm
          | pick => exact absurd (Or.inr rfl) hne
          | two h => intro v h; simpa using h.symm
        exact this _ hk
      refine r_ixT (st_of (s1 _ _ ht)) (at0 (a := .int a)) ?_
      walk_at "rs"
      refine r_ixT (st_of (s1 _ _ IS.at_)) (atI_lt (j := a.toNat) (by omega) hns) ?_
      walk_at "rs"
      rw [erw]
      exact q _ s1
    · walk_at "rs"
      have hwp : o = "wide" ∨ o = "pick" := by simpa using hc
      have : rwd o rw = rw := by
        unfold rwd
        rcases hwp with rfl | rfl <;> exact if_neg (by decide +kernel)
      rw [this] at hw
      rw [hw]
      exact q _ s1
def spValue (K : PySem.W.Frag) : Sp := fun vs H Q _ => ∃ (N W p : Addr) (x : V) (ns : List V) (nds : List Nd) (words zs : List Int) (j : Nat) (nd : Nd) (z : Int), vs = [.ref N, .ref W, x, .ref p] ∧ IsSheet H N ns nds ∧ H W = some (.tup (words.map V.int)) ∧
  H p = some (.tup (ndV nd)) ∧ nds[j]? = some nd ∧ OkNd nds j nd ∧ NVal nds words zs j nd z ∧ (leaf nd.1 = false → ∀ a ∈ nd.2.2, HasV K H x a (zs.getD a.toNat 0)) ∧ ∀ H', Same H H' → Q (.int z) H'
theorem ok_value {f : Addr} {fd : FuncData} (F : Fun K "_value" "_value" s__value f fd) (c_operands_of : Cal P w K mg base "operands_of" 1 spOper) (c_reckoning_width : Cal P w K mg base "reckoning_width" 1 spReck) (c_result : Cal P w K mg base "result" 3 spRes) (T : TVal K mg aR) :
    FnOk P w K mg base CX0 4 f fd ["nodes", "words", "values", "node"] (spValue K) := by
  refine F.ok sc__value (fun vs H Q E h => ?_) (fun cdv A outer s H vs Q E hr h => ?_)
  · obtain ⟨N, W, p, x, ns, nds, words, zs, j, nd, z, rfl, _⟩ := h
    rfl
  · obtain ⟨N, W, p, x, ns, nds, words, zs, j, ⟨o, wd, as⟩, z, rfl, IS, hW, hp, hnd, ok, hv, hh, q⟩ := h
    have h18 := ok.w18
    unfold ndV at hp
    dsimp only at hp hh h18
    refine ⟨_, 
      (pss_cons (ps_par (i := 4) (j := 5) (by rfl) sc__value.nd rfl rfl (by decide) rfl rfl (pa_cons (pe_ix (r := rIxT K) ix_tup (pv 3) pe_int (fun _ _ => rfl)) (pa_cons (pe_ix (r := rIxT K) ix_tup (pv 3) pe_int (fun _ _ => rfl)) pa_nil)) (by rfl))
      (pss_cons (ps_if (pt_cmpR op_eq (pv 4) pe_str (nomark _)) 
       (pss_one (ps_ret (pe_ix (r := rIxT K) ix_tup (pv 3) pe_int (fun _ _ => rfl)))) pss_nil)
      (pss_cons (ps_if (pt_cmpR op_eq (pv 4) pe_str (nomark _)) 
       (pss_cons (ps_set (i := 6) sc__value.nd rfl (Or.inl rfl) (pe_ix (r := rIxT K) ix_tup (pv 3) pe_int (fun _ _ => rfl)))
       (pss_one (ps_ret (pe_ifExp (pt_cmpR op_lt (pv 6) (pe_callB call_len_seq (by rfl) T.z_len (by decide +kernel) (pa_cons (pv 1) pa_nil)) (nomark _)) (pe_op op_and (pe_ix (r := rIxT K) ix_tup (pv 1) (pv 6) (fun _ _ => rfl)) (pe_op op_sub (pe_op op_shl pe_int (pv 5)) pe_int)) pe_int)))) pss_nil)
      (pss_cons (ps_set (i := 7) sc__value.nd rfl (Or.inl rfl) (Zn.pe_cal c_operands_of (hr.mono (by decide)) (by rfl) (pa_cons (pv 3) pa_nil)))
      (pss_cons (ps_setLc (own := [("term", 9)]) (i := 8) rfl sc__value.nd rfl rfl (sw_true rfl rfl rfl (by decide +kernel)) (pi_tup (pv 7)) (blkOk_by (N := ["nodes", "words", "values", "node", "op", "width", "number", "terms", "operands", "term"]) (sc := defScope s__value) (by decide +kernel)) (fun _ _ _ _ _ => (pg_name (i := 9) sc__value.nd rfl (Or.inl rfl))) (fun _ _ _ _ _ => pts_nil) (fun _ _ _ _ _ => (Zn.pe_ei (pe_ix (r := rIxL K) ix_list (pv 2) (pv 9) (fun _ _ => rfl)) (pe_dget (hu_of hr) (pv 2) (pv 9) (fun _ _ => rfl)))))
      (pss_one (ps_ret (Zn.pe_calS c_result (hr.mono (by decide)) (by rfl) (pa_cons (pv 4) (pa_cons (Zn.pe_cal c_reckoning_width (hr.mono (by decide)) (by rfl) (pa_cons (pv 0) (pa_cons (pv 4) (pa_cons (pv 5) (pa_cons (pv 7) pa_nil))))) (StX.pa_star (pv 8) pa_nil))))))))))), ?_⟩
    walk_at "rs"
    rcases hv with ⟨e1, e2⟩ | ⟨e1, n, e2, n0, ez⟩ | ⟨ws, rw, ho, hval⟩
    · dsimp only at e1 e2
      subst e1 e2
      walk_at "rs"
      exact q _ (Same.refl _)
    · dsimp only at e1 e2 ez
      subst e1 e2
      have hne : decide (V.str "input" = V.str "word") = false := by decide +kernel
      have hp' : H p = some (.tup [.str "input", .int wd, .int n]) := hp
      walk_at "rs"
      have eL : (words.map V.int).length = words.length := List.length_map ..
      rw [eL]
      by_cases hn : n < (words.length : Int)
      · rw [if_pos hn] at ez
        rw [decide_eq_true hn]
        walk_at "rs"
        refine r_ixT (st_of hW) (ints_ex n0 hn) ?_
        have hsm := small0 (show 0 ≤ wd by omega) h18.2
        walk_at "rs"
        rw [ez] at q
        exact q _ (Same.refl _)
      · rw [if_neg hn] at ez
        rw [decide_eq_false hn]
        walk_at "rs"
        rw [ez] at q
        exact q _ (Same.refl _)
    · have hlf := shape_leaf ho.sh
      dsimp only at hlf
      have hln := leaf_no hlf
      have hlen := ho.len
      have h13 := shape_len ho.sh
      dsimp only at hlen hval
      rw [decide_eq_false (fun e => hln.1 (V.str.inj e))]
      walk_at "rs"
      rw [decide_eq_false (fun e => hln.2 (V.str.inj e))]
      walk_at "rs"
      refine ⟨p, o, wd, as, rfl, hp, by omega, by omega, fun H1 tp s1 htp => ?_⟩
      rw [hlf] at htp
      have htp : H1 tp = some (.tup (as.map V.int)) := htp
      walk_at "rs"
      refine r_ref ⟨_, st_of htp⟩ fun C hC => ?_
      refine lcM walk_tup ((as.map fun a => zs.getD a.toNat 0).map V.int) (by simp) (by rw [List.length_map]; omega) hC (fun H' k => st_of (k _ _ htp)) (fun i x' H' H'' hi k hy put => ?_) (fun H2 s2 h2 => ?_)
      · obtain ⟨rfl, hx⟩ := hy
        obtain ⟨a, rfl, ha⟩ := map_get hx
        have hv := (hh hlf a (List.mem_of_getElem? ha)).same (s1.trans k)
        have hput := put (.int (zs.getD a.toNat 0)) _ (by rw [List.getElem?_map, List.getElem?_map, ha]; rfl) (Same.refl _)
        walk_at "rs"
        refine ⟨rfl, ?_⟩
        walk_at "rs"
        rcases hv with ⟨qa, l, rfl, hl, hg⟩ | ⟨qa, kvs, rfl, hl, hg⟩
        · refine .inl ?_
          walk_at "rs"
          refine r_ixL hl hg ?_
          exact hput
        · refine .inr ?_
          walk_at "rs"
          refine ⟨qa, _, rfl, by rw [← hg]; exact dgi hl, ?_⟩
          exact hput
      · walk_at "rs"
        refine ⟨N, tp, ns, nds, j, (o, wd, as), ws, rw, rfl, IS.tp (Same.tp (s1.trans s2)), ho, s2 _ _ htp, by have := getL hnd; omega, fun H3 s3 => ?_⟩
        walk_at "rs"
        refine ⟨C, _, rfl, .inr (sl_of (s3 _ _ h2)), ?_⟩
        walk_at "rs"
        refine ⟨o, rw, z, as.map fun a => zs.getD a.toNat 0, by rw [List.append_nil], by rw [List.length_map]; omega, ho.r1, ho.r8, hval, fun H4 s4 => ?_⟩
        exact q _ (((s1.trans s2).trans s3).trans s4)
end
end Zn
namespace Zn
open PySem PySem.Spec PyProof.Rows L2 TL
theorem nodup_le : ∀ (n : Nat) (l : List Nat), l.Nodup → (∀ x ∈ l, x < n) → l.length ≤ n
  | 0, l, _, h => by
    cases l with
    | nil => exact Nat.le_refl _
    | cons x l => exact absurd (h x List.mem_cons_self) (Nat.not_lt_zero _)
  | n + 1, l, nd, h => by
    have h1 := nodup_le n (l.erase n) (nd.erase n) fun x hx => by
      have h2 := h x (List.mem_of_mem_erase hx)
      have h3 : x ≠ n := fun e => by
        subst e
        exact (List.Nodup.not_mem_erase nd) hx
      omega
    by_cases hm : n ∈ l
    · have := List.length_erase_of_mem hm
      omega
    · rw [List.erase_of_not_mem hm] at h1
      omega
theorem nodup_leI {n : Nat} {l : List Int} (nd : l.Nodup) (h : ∀ x ∈ l, 0 ≤ x ∧ x < (n : Int)) : l.length ≤ n := by
  have h1 : (l.map Int.toNat).Nodup := by
    rw [List.nodup_iff_pairwise_ne, List.pairwise_map]
    refine List.Pairwise.imp_of_mem (fun {a b} ha hb hab e => hab ?_) (List.nodup_iff_pairwise_ne.mp nd)
    have := h a ha
    have := h b hb
    omega
  have := nodup_le n _ h1 fun x hx => by
    obtain ⟨a, ha, rfl⟩ := List.mem_map.mp hx
    have := h a ha
    omega
  rwa [List.length_map] at this
/-- the dict of what is reached -/
def trues (ks : List Int) : List (Key × V) := ks.map fun k => (Sum.inl k, V.bl true)
theorem val_trues {ks : List Int} {a : Int} : (valV (trues ks) (.inl a)).isSome = decide (a ∈ ks) := by
  induction ks with
  | nil => rfl
  | cons k ks ih =>
    by_cases e : k = a
    · subst e
      show (valV ((Sum.inl k, V.bl true) :: trues ks) (.inl k)).isSome = _
      rw [valV_pos rfl]
      simp
    · have e1 : valV (trues (k :: ks)) (.inl a) = valV (trues ks) (.inl a) := by
        unfold valV trues
        rw [List.map_cons, List.find?_cons_of_neg]
        simpa using e
      rw [e1, ih, decide_eq_decide]
      simp [Ne.symm e]
theorem put_trues {ks : List Int} {a : Int} (h : a ∉ ks) : putK (trues ks) (.inl a) (.bl true) = trues (ks ++ [a]) := by
  unfold putK
  rw [if_neg]
  · unfold trues
    rw [List.map_append]
    rfl
  · unfold trues
    rw [List.any_map]
    intro hh
    obtain ⟨k, hk, e⟩ := List.any_eq_true.mp hh
    have e : (Sum.inl k : Key) = .inl a := of_decide_eq_true e
    cases e
    exact h hk
/-- what the cone is made of -/
def Closed (nds : List Nd) (p : Int → Prop) (q : Int → Prop) : Prop := ∀ a, p a → ∀ nd, nds[a.toNat]? = some nd → leaf nd.1 = false → ∀ b ∈ nd.2.2, q b
section
variable {P : Program} {w : World} {K : PySem.W.Frag} {mg : Str → Option Value} {base : Heap} {aR : Addr}
def spCone (K : PySem.W.Frag) : Sp := fun vs H Q _ => ∃ (N tp lo : Addr) (ns : List V) (nds : List Nd) (t : Int), vs = [.ref N, .ref tp, .ref lo] ∧ IsSheet H N ns nds ∧ OkSheet nds ∧ nds.length ≤ 60 ∧ H tp = some (.tup [.int t]) ∧ 0 ≤ t ∧ t < (nds.length : Int) ∧ SqT K H lo [] ∧
  ∀ (H' : Hp) (p : Addr) (L : List Int), Same H H' → H' p = some (.lst (L.map V.int)) → L.Pairwise (· < ·) → t ∈ L → (∀ a ∈ L, 0 ≤ a ∧ a < (nds.length : Int)) → Closed nds (· ∈ L) (· ∈ L) → Q (.ref p) H'
theorem SqT.same' {K : PySem.W.Frag} {H H' : Hp} {q : Addr} {l : List V} (s : Same H H') (h : SqT K H q l) : SqT K H' q l := by
  rcases h with (h | ⟨o, h⟩) | h
  · exact .inl (.inl (s _ _ h))
  · exact .inl (.inr ⟨o, s _ _ h⟩)
  · exact .inr h
theorem r_pop {H : Hp} {Q : VK} {p : Addr} {xs : List V} {y : V} (h : H p = some (.lst (xs ++ [y]))) (q : Q y (upd H p (.lst xs))) : rPop (.ref p) [] H Q :=
  ⟨p, xs ++ [y], y, rfl, rfl, h, by simp, by rw [List.dropLast_concat]; exact q⟩
theorem OpOk.cnt {nds : List Nd} {j : Nat} {nd : Nd} {ws : List Int} {rw : Int} (h : OpOk nds j nd ws rw) : nd.2.2.length ≤ 3 ∧ 1 ≤ nd.2.2.length := by
  have h1 := h.len
  have h2 := shape_len h.sh
  omega
theorem OkNd.cnt {nds : List Nd} {j : Nat} {nd : Nd} (h : OkNd nds j nd) : nd.2.2.length ≤ 3 ∧ 1 ≤ nd.2.2.length := by
  rcases h with ⟨_, _, _, v, e, _⟩ | ⟨_, _, _, v, e, _⟩ | ⟨ws, rw, h⟩
  · rw [e]; exact ⟨by simp, by simp⟩
  · rw [e]; exact ⟨by simp, by simp⟩
  · exact h.cnt
theorem OkNd.opn {nds : List Nd} {j : Nat} {nd : Nd} (h : OkNd nds j nd) (hl : leaf nd.1 = false) : ∃ ws rw, OpOk nds j nd ws rw := by
  have := leaf_no hl
  rcases h with ⟨e, _⟩ | ⟨e, _⟩ | h
  · exact absurd e this.1
  · exact absurd e this.2
  · exact h
theorem OkNd.opb {nds : List Nd} {j : Nat} {nd : Nd} (h : OkNd nds j nd) (hl : leaf nd.1 = false) {b : Int} (hb : b ∈ nd.2.2) : 0 ≤ b ∧ b < (j : Int) := by
  obtain ⟨ws, rw, h⟩ := h.opn hl
  obtain ⟨k, hk⟩ := List.mem_iff_getElem?.mp hb
  obtain ⟨h0, h1, _⟩ := h.ops k b hk
  exact ⟨h0, h1⟩
theorem body_cone {A : Around} {outer : List Env} {s : Shared} {f : Addr} {cdv : Value} {H : Hp} {vs : List V} {Q : VK} {E : XK} (c_operands_of : Cal P w K mg base "operands_of" 1 spOper) (T : TVal K mg aR)
    (hr : Room 1 (A.deeper (envOfC "cone_of" (defScope s_cone_of) s.heap.objs.size f cdv))) (h : spCone K vs H Q E) :
    ∃ t, PSs (cxOf CX0 P w K mg base ["rows", "terms", "left_out", "reached", "waiting", "at"] "cone_of" (defScope s_cone_of) f cdv A outer s H E).nox (defBody s_cone_of) t ∧ t { nx := fun _ H' => Q .non H', rt := Q } (start ["rows", "terms", "left_out", "reached", "waiting", "at"] vs) H := by
  obtain ⟨N, tp, lo, ns, nds, t, rfl, IS, OS, n60, htp, t0, tn, hlo, q⟩ := h
  refine ⟨_, 
      (pss_cons (ps_set (i := 3) sc_cone_of.nd rfl (Or.inl rfl) pe_dnewK)
      (pss_cons (ps_set (i := 4) sc_cone_of.nd rfl (Or.inl rfl) (pe_callTy call_list_of (by rfl) T.z_list (by decide +kernel) (pa_cons (pv 1) pa_nil)))
      (pss_cons (ps_while PassesOwn.never (pt_truth (pv 4) (by intro _; rfl)) 
       (pss_cons (ps_set (i := 5) sc_cone_of.nd rfl (Or.inl rfl) (pe_bm0 PySem.F.plainAttrs_list PySem.F.slot_list_pop PySem.F.type_list_pop mt_pop (pv 4)))
       (pss_one (ps_if (PW.pt (pw_and (pt_cmp (pc_dnotin (hu_of hr) (pv 5) (pv 3))) (pw_and1 (pt_cmpR (r := rIn K true) op_notIn_seq (pv 5) (pv 2) (by rfl))))) 
        (pss_cons (ps_dput (hu_of hr) (pv 3) (pv 5) pe_bl rfl)
        (pss_one (ps_expr (pe_bm PySem.F.plainAttrs_list PySem.F.slot_list_extend PySem.F.type_list_extend Zn.mt_extT (pv 4) (pa_cons (Zn.pe_cal c_operands_of (hr.mono (by decide)) (by rfl) (pa_cons (pe_ix (r := rIxT K) ix_tup (pv 0) (pv 5) (fun _ _ => rfl)) pa_nil)) pa_nil))))) pss_nil))))
      (pss_one (ps_ret (pe_callB (call_sortedDI rfl) (by rfl) T.z_sorted (by decide +kernel) (pa_cons (pv 3) pa_nil))))))), ?_⟩
  walk_at "rs"
  intro dR hdR
  have s1 := same_new (o := .dK []) hdR
  have htp1 := s1 _ _ htp
  walk_at "rs"
  intro wR hwR
  have s2 := s1.trans (same_new (o := .lst [.int t]) hwR)
  have ndw : dR ≠ wR := ne_of_none upd_same hwR
  have fwR : H wR = none := s1.free hwR
  walk_at "rs"
  refine ⟨fun m σ H' => ∃ v5 ks ws, σ = [some (.ref N), some (.ref tp), some (.ref lo), some (.ref dR), some (.ref wR), v5] ∧ Same H H' ∧ H' dR = some (.dK (trues ks)) ∧ H' wR = some (.lst (ws.map V.int)) ∧ (ks : List Int).Nodup ∧ (∀ k ∈ ks, 0 ≤ k ∧ k < (nds.length : Int)) ∧ (∀ x ∈ (ws : List Int), 0 ≤ x ∧ x < (nds.length : Int)) ∧
      Closed nds (· ∈ ks) (fun b => b ∈ ks ∨ b ∈ ws) ∧ (t ∈ ks ∨ t ∈ ws) ∧ ws.length ≤ 1 + 3 * ks.length ∧ m = 4 * (nds.length - ks.length) + ws.length,
      ⟨_, _, [], [t], rfl, s2, (upd_ne ndw).trans upd_same, upd_same, List.nodup_nil, all_nil, fun x hx => by rw [List.mem_singleton] at hx; subst hx; exact ⟨t0, tn⟩, (show Closed nds (· ∈ ([] : List Int)) _ from fun a ha => nomatch ha), .inr (by simp), by simp, rfl⟩, ?_⟩
  rintro m σ H3 ⟨v5, ks, ws, rfl, s3, hd3, hw3, nd3, kb3, wb3, cl3, ht3, hl3, rfl⟩
  have hkn := nodup_leI nd3 kb3
  walk_at "rs"
  have e0 : (!(ws.map V.int).isEmpty) = !ws.isEmpty := by cases ws <;> rfl
  rw [e0]
  rcases List.eq_nil_or_concat ws with rfl | ⟨ws', a, rfl⟩
  · walk_at "rs"
    refine ⟨dR, trues ks, ks, rfl, .of hd3, ?_, by omega, fun ys p perm srt hp => ?_⟩
    · unfold trues
      rw [List.map_map]
      rfl
    · have tin : t ∈ ys := by
        rcases ht3 with h | h
        · exact perm.mem_iff.mpr h
        · cases h
      have ndy : ys.Nodup := perm.nodup_iff.mpr nd3
      have lt : ys.Pairwise (· < ·) := (srt.and (List.nodup_iff_pairwise_ne.mp ndy)).imp fun {a b} h => by
        obtain ⟨h1, h2⟩ := h
        omega
      refine q _ p ys (s3.trans (same_new hp)) upd_same lt tin (fun a ha => kb3 a (perm.mem_iff.mp ha)) fun a ha nd hnd hl b hb => ?_
      rcases cl3 a (perm.mem_iff.mp ha) nd hnd hl b hb with h | h
      · exact perm.mem_iff.mpr h
      · cases h
  · rw [List.concat_eq_append] at *
    have e1 : (!(ws' ++ [a]).isEmpty) = true := by cases ws' <;> rfl
    rw [e1]
    have hab := wb3 a (by simp)
    rw [List.map_append] at hw3
    have nwd : wR ≠ dR := ndw.symm
    walk_at "rs"
    refine ⟨fun σ H' => ∃ m', m' < 4 * (nds.length - ks.length) + (ws' ++ [a]).length ∧ ∃ v5 ks ws, σ = [some (.ref N), some (.ref tp), some (.ref lo), some (.ref dR), some (.ref wR), v5] ∧ Same H H' ∧ H' dR = some (.dK (trues ks)) ∧ H' wR = some (.lst (ws.map V.int)) ∧ (ks : List Int).Nodup ∧ (∀ k ∈ ks, 0 ≤ k ∧ k < (nds.length : Int)) ∧ (∀ x ∈ (ws : List Int), 0 ≤ x ∧ x < (nds.length : Int)) ∧
      Closed nds (· ∈ ks) (fun b => b ∈ ks ∨ b ∈ ws) ∧ (t ∈ ks ∨ t ∈ ws) ∧ ws.length ≤ 1 + 3 * ks.length ∧ m' = 4 * (nds.length - ks.length) + ws.length, fun σ' H' h => h, ?_⟩
    walk_at "rs"
    refine r_pop hw3 ?_
    have s4 : Same H (upd H3 wR (.lst (ws'.map V.int))) := Zn.Same.mut s3 fwR
    have hd4 : upd H3 wR (.lst (ws'.map V.int)) dR = some (.dK (trues ks)) := (upd_ne ndw).trans hd3
    have hw4 : upd H3 wR (.lst (ws'.map V.int)) wR = some (.lst (ws'.map V.int)) := upd_same
    generalize upd H3 wR (.lst (ws'.map V.int)) = H4 at s4 hd4 hw4 ⊢
    have hlo4 := SqT.same' s4 hlo
    walk_at "rs"
    refine ⟨dR, _, rfl, dgi hd4, ?_⟩
    rw [val_trues]
    have wl : (ws' ++ [a]).length = ws'.length + 1 := by simp
    by_cases hin : a ∈ ks
    · rw [decide_eq_true hin]
      walk_at "rs"
      refine ⟨_, ?_, _, ks, ws', rfl, s4, hd4, hw4, nd3, kb3, fun x hx => wb3 x (List.mem_append_left _ hx), fun k hk nd hnd hl b hb => ?_, ?_, by omega, rfl⟩
      · omega
      · rcases cl3 k hk nd hnd hl b hb with h | h
        · exact .inl h
        · rcases List.mem_append.mp h with h | h
          · exact .inr h
          · rw [List.mem_singleton] at h
            exact .inl (h ▸ hin)
      · rcases ht3 with h | h
        · exact .inl h
        · rcases List.mem_append.mp h with h | h
          · exact .inr h
          · rw [List.mem_singleton] at h
            exact .inl (h ▸ hin)
    · rw [decide_eq_false hin]
      have kl : ks.length + 1 ≤ nds.length := by
        have := nodup_leI (n := nds.length) (l := a :: ks) (List.nodup_cons.mpr ⟨hin, nd3⟩) fun x hx => by
          rcases List.mem_cons.mp hx with rfl | hx
          · exact hab
          · exact kb3 x hx
        simpa using this
      walk_at "rs"
      obtain ⟨nd, hnd⟩ : ∃ nd, nds[a.toNat]? = some nd := ⟨_, List.getElem?_eq_getElem (by omega)⟩
      have okn := OS _ _ hnd
      obtain ⟨p, hns, hp⟩ := IS.get hnd
      refine ⟨dR, _, rfl, dpi hd4 (lt_line (by unfold trues; rw [List.length_map]; omega)), ?_⟩
      rw [put_trues hin]
      have fdR : H dR = none := hdR
      have s5 : Same H (upd H4 dR (.dK (trues (ks ++ [a])))) := Zn.Same.mut s4 fdR
      have hd5 : upd H4 dR (.dK (trues (ks ++ [a]))) dR = some (.dK (trues (ks ++ [a]))) := upd_same
      have hw5 : upd H4 dR (.dK (trues (ks ++ [a]))) wR = some (.lst (ws'.map V.int)) := (upd_ne nwd).trans hw4
      generalize upd H4 dR (.dK (trues (ks ++ [a]))) = H5 at s5 hd5 hw5 ⊢
      walk_at "rs"
      refine r_ixT (st_of (s5 _ _ IS.at_)) (atI_lt (j := a.toNat) (by omega) hns) ?_
      walk_at "rs"
      refine ⟨p, nd.1, nd.2.1, nd.2.2, rfl, s5 _ _ hp, okn.cnt.1, okn.cnt.2, fun H6 q6 s6 hq6 => ?_⟩
      have hw6 := s6 _ _ hw5
      have eit : (if leaf nd.1 then [] else nd.2.2.map V.int) = (if leaf nd.1 then [] else nd.2.2).map V.int := by cases leaf nd.1 <;> rfl
      rw [eit] at hq6
      have hel : (if leaf nd.1 then [] else nd.2.2).length ≤ 3 := by
        have := okn.cnt.1
        cases leaf nd.1
        · exact this
        · exact Nat.zero_le _
      walk_at "rs"
      refine r_extT hw6 (st_of hq6) (len_ok (by rw [List.length_map, List.length_map]; omega)) ?_
      rw [cat_ints]
      walk_at "rs"
      refine ⟨_, ?_, _, ks ++ [a], ws' ++ (if leaf nd.1 then [] else nd.2.2), rfl, Zn.Same.mut (s5.trans s6) fwR, (upd_ne ndw).trans (s6 _ _ hd5), upd_same, ?_, ?_, ?_, ?_, ?_, ?_, rfl⟩
      · rw [List.length_append, List.length_append, List.length_append]
        simp only [List.length_singleton]
        omega
      · rw [List.nodup_append]
        exact ⟨nd3, by simp, fun x hx y hy e => by rw [List.mem_singleton] at hy; subst hy; exact hin (e ▸ hx)⟩
      · intro k hk
        rcases List.mem_append.mp hk with hk | hk
        · exact kb3 k hk
        · rw [List.mem_singleton] at hk
          subst hk
          exact hab
      · intro x hx
        rcases List.mem_append.mp hx with hx | hx
        · exact wb3 x (List.mem_append_left _ hx)
        · cases hlf : leaf nd.1
          · rw [hlf] at hx
            have := okn.opb hlf hx
            omega
          · rw [hlf] at hx
            cases hx
      · intro k hk nd' hnd' hl' b hb
        rcases List.mem_append.mp hk with hk | hk
        · rcases cl3 k hk nd' hnd' hl' b hb with h | h
          · exact .inl (List.mem_append_left _ h)
          · rcases List.mem_append.mp h with h | h
            · exact .inr (List.mem_append_left _ h)
            · exact .inl (List.mem_append_right _ h)
        · rw [List.mem_singleton] at hk
          subst hk
          rw [hnd] at hnd'
          cases hnd'
          refine .inr (List.mem_append_right _ ?_)
          rw [hl']
          exact hb
      · rcases ht3 with h | h
        · exact .inl (List.mem_append_left _ h)
        · rcases List.mem_append.mp h with h | h
          · exact .inr (List.mem_append_left _ h)
          · exact .inl (List.mem_append_right _ h)
      · rw [List.length_append, List.length_append]
        simp only [List.length_singleton]
        omega
theorem ok_cone {f : Addr} {fd : FuncData} {dvs : List V} (F : FunD K "cone_of" "cone_of" (defArgs s_cone_of) (defBody s_cone_of) (defScope s_cone_of) dvs [] f fd) (c_operands_of : Cal P w K mg base "operands_of" 1 spOper) (T : TVal K mg aR) :
    FnOk P w K mg base CX0 2 f fd ["rows", "terms", "left_out"] (spCone K) := by
  refine F.ok sc_cone_of (fun vs H Q E h => ?_) (fun cdv A outer s H vs Q E hr h => ?_)
  · obtain ⟨N, tp, lo, ns, nds, t, rfl, _⟩ := h
    rfl
  · obtain ⟨t, h1, h2⟩ := body_cone (P := P) (w := w) (mg := mg) (base := base) c_operands_of T hr h
    exact ⟨t, h1.nox, h2⟩
end
end Zn
namespace Zn
open PySem PySem.Spec PyProof.Rows L2 TL
theorem zs_at {zs : List Int} {i : Nat} {a : Int} (h0 : 0 ≤ a) (h1 : a < (i : Int)) (hl : i ≤ zs.length) : atI ((zs.take i).map V.int) a = some (.int (zs.getD a.toNat 0)) := by
  refine ints_at (j := a.toNat) (by omega) ?_
  rw [List.getElem?_take_of_lt (by omega)]
  exact getD_at (by omega)
/-- the dict of the values of some terms -/
def valKs (zs : List Int) (ks : List Int) : List (Key × V) := ks.map fun k => (Sum.inl k, V.int (zs.getD k.toNat 0))
theorem val_at {zs ks : List Int} {a : Int} (h : a ∈ ks) : valV (valKs zs ks) (.inl a) = some (.int (zs.getD a.toNat 0)) := by
  induction ks with
  | nil => cases h
  | cons k ks ih =>
    by_cases e : k = a
    · subst e
      show valV ((Sum.inl k, V.int (zs.getD k.toNat 0)) :: valKs zs ks) (.inl k) = _
      rw [valV_pos rfl]
    · have e1 : valV (valKs zs (k :: ks)) (.inl a) = valV (valKs zs ks) (.inl a) := by
        unfold valV valKs
        rw [List.map_cons, List.find?_cons_of_neg]
        simpa using e
      rw [e1]
      exact ih ((List.mem_cons.mp h).resolve_left (Ne.symm e))
theorem put_vals {zs ks : List Int} {a : Int} (h : a ∉ ks) : putK (valKs zs ks) (.inl a) (.int (zs.getD a.toNat 0)) = valKs zs (ks ++ [a]) := by
  unfold putK
  rw [if_neg]
  · unfold valKs
    rw [List.map_append]
    rfl
  · unfold valKs
    rw [List.any_map]
    intro hh
    obtain ⟨k, hk, e⟩ := List.any_eq_true.mp hh
    have e : (Sum.inl k : Key) = .inl a := of_decide_eq_true e
    cases e
    exact h hk
theorem lt_take {L : List Int} (h : L.Pairwise (· < ·)) {i : Nat} {a b : Int} (ha : L[i]? = some a) (hb : b ∈ L) (hba : b < a) : b ∈ L.take i := by
  obtain ⟨k, hk⟩ := List.mem_iff_getElem?.mp hb
  have hkl := getL hk
  have hil := getL ha
  by_cases hki : k < i
  · exact List.mem_of_getElem? (by rw [List.getElem?_take_of_lt hki]; exact hk)
  · exfalso
    by_cases e : k = i
    · subst e
      rw [ha] at hk
      cases hk
      omega
    · have := List.pairwise_iff_getElem.mp h i k hil hkl (by omega)
      rw [List.getElem?_eq_getElem hkl] at hk
      rw [List.getElem?_eq_getElem hil] at ha
      cases hk
      cases ha
      omega
theorem not_take {L : List Int} (h : L.Pairwise (· < ·)) {i : Nat} {a : Int} (ha : L[i]? = some a) : a ∉ L.take i := fun hm => by
  obtain ⟨k, hk⟩ := List.mem_iff_getElem?.mp hm
  have hkl := getL hk
  rw [List.length_take] at hkl
  rw [List.getElem?_take_of_lt (by omega)] at hk
  have hil := getL ha
  have := List.pairwise_iff_getElem.mp h k i (by omega) hil (by omega)
  rw [List.getElem?_eq_getElem (by omega)] at hk
  rw [List.getElem?_eq_getElem hil] at ha
  have e1 := Option.some.inj hk
  have e2 := Option.some.inj ha
  omega
section
variable {P : Program} {w : World} {K : PySem.W.Frag} {mg : Str → Option Value} {base : Heap} {aR aL : Addr}
def spValues : Sp := fun vs H Q _ => ∃ (N W : Addr) (ns : List V) (nds : List Nd) (words zs : List Int), vs = [.ref N, .ref W] ∧ IsSheet H N ns nds ∧ OkSheet nds ∧ nds.length ≤ 1000 ∧ H W = some (.tup (words.map V.int)) ∧ EvL nds words zs ∧
  ∀ H' p, Same H H' → H' p = some (.tup (zs.map V.int)) → Q (.ref p) H'
theorem ok_values {f : Addr} {fd : FuncData} (F : Fun K "values_of" "values_of" s_values_of f fd) (c__value : Cal P w K mg base "_value" 4 (spValue K)) (T : TVal K mg aR) : FnOk P w K mg base CX0 5 f fd ["nodes", "words"] spValues := by
  refine F.ok sc_values_of (fun vs H Q E h => ?_) (fun cdv A outer s H vs Q E hr h => ?_)
  · obtain ⟨N, W, ns, nds, words, zs, rfl, _⟩ := h
    rfl
  · obtain ⟨N, W, ns, nds, words, zs, rfl, IS, OS, hl, hW, EV, q⟩ := h
    refine ⟨_, 
      (pss_cons (ps_set (i := 2) sc_values_of.nd rfl (Or.inl rfl) (pe_lst pa_nil))
      (pss_cons (ps_for PassesOwn.never rfl (pi_tup (pv 0)) (pg_name (i := 3) sc_values_of.nd rfl (Or.inl rfl)) 
       (pss_one (ps_expr (pe_bm PySem.F.plainAttrs_list PySem.F.slot_list_append PySem.F.type_list_append mt_append (pv 2) (pa_cons (Zn.pe_cal c__value (hr.mono (by decide)) (by rfl) (pa_cons (pv 0) (pa_cons (pv 1) (pa_cons (pv 2) (pa_cons (pv 3) pa_nil))))) pa_nil)))))
      (pss_one (ps_ret (pe_callTy call_tuple_of (by rfl) T.z_tuple (by decide +kernel) (pa_cons (pv 2) pa_nil)))))), ?_⟩
    have hnl := IS.len
    have hzl := EV.len
    walk_at "rs"
    rename_i vp hvp
    have s1 : Same H (upd H vp (.lst [])) := same_new hvp
    refine r_ref ⟨_, st_of (s1 _ _ IS.at_)⟩ ?_
    refine ft (K := K) (a := N) (xs := ns) (fun i σ H' => ∃ v3, σ = [some (.ref N), some (.ref W), some (.ref vp), v3] ∧ Same H H' ∧ H' vp = some (.lst ((zs.take i).map V.int))) ⟨_, rfl, s1, upd_same⟩ (fun i σ H' _ ⟨_, _, s, _⟩ => st_of (s _ _ IS.at_)) ?_ ?_
    · rintro i x σ H2 hi ⟨v3, rfl, s2, h2⟩
      have hin := getL hi
      obtain ⟨nd, hnd⟩ : ∃ nd, nds[i]? = some nd := ⟨_, List.getElem?_eq_getElem (by omega)⟩
      obtain ⟨z, hz⟩ : ∃ z, zs[i]? = some z := ⟨_, List.getElem?_eq_getElem (by omega)⟩
      obtain ⟨p, rfl, hp⟩ := IS.row i x nd hi hnd
      have okn := OS i nd hnd
      walk_at "rs"
      refine ⟨N, W, p, .ref vp, ns, nds, words, zs, i, nd, z, rfl, IS.tp (Same.tp s2), s2 _ _ hW, s2 _ _ hp, hnd, okn, EV.val i nd z hnd hz, fun hlf a ha => ?_, fun H3 s3 => ?_⟩
      · have := okn.opb hlf ha
        exact .inl ⟨vp, _, rfl, sl_of h2, zs_at this.1 this.2 (by omega)⟩
      · have h3 := s3 _ _ h2
        walk_at "rs"
        refine r_append h3 (lt_line (by rw [List.length_map, List.length_take]; omega)) ?_
        walk_at "rs"
        refine ⟨_, rfl, Zn.Same.mut (s2.trans s3) hvp, ?_⟩
        rw [upd_same, take_snoc hz, List.map_append]
        rfl
    · rintro σ H2 ⟨v3, rfl, s2, h2⟩
      rw [List.take_of_length_le (by omega)] at h2
      walk_at "rs"
      refine ⟨vp, _, rfl, .inl ⟨sl_of h2, fun p hp => ?_⟩⟩
      exact q _ p (s2.trans (same_new hp)) upd_same
def spValOf : Sp := fun vs H Q _ => ∃ (N W : Addr) (ns : List V) (nds : List Nd) (words zs : List Int) (t : Int), vs = [.ref N, .ref W, .int t] ∧ IsSheet H N ns nds ∧ OkSheet nds ∧ nds.length ≤ 60 ∧ H W = some (.tup (words.map V.int)) ∧ EvL nds words zs ∧ 0 ≤ t ∧ t < (nds.length : Int) ∧
  ∀ H', Same H H' → Q (.int (zs.getD t.toNat 0)) H'
theorem ok_valueof {f : Addr} {fd : FuncData} (F : Fun K "value_of" "value_of" s_value_of f fd) (hlo : ∀ H, SqT K H aL []) (c__value : Cal P w K mg base "_value" 4 (spValue K)) (c_cone_of : Cal P w K mg base "cone_of" 2 (fun vs H Q E => spCone K (vs ++ [.ref aL]) H Q E)) (T : TVal K mg aR) : FnOk P w K mg base CX0 5 f fd ["nodes", "words", "term"] spValOf := by
  refine F.ok sc_value_of (fun vs H Q E h => ?_) (fun cdv A outer s H vs Q E hr h => ?_)
  · obtain ⟨N, W, ns, nds, words, zs, t, rfl, _⟩ := h
    rfl
  · obtain ⟨N, W, ns, nds, words, zs, t, rfl, IS, OS, hl, hW, EV, t0, tn, q⟩ := h
    refine ⟨_, 
      (pss_cons (ps_set (i := 3) sc_value_of.nd rfl (Or.inl rfl) pe_dnewK)
      (pss_cons (ps_for PassesOwn.never rfl (pi_list (Zn.pe_cal c_cone_of (hr.mono (by decide)) (by rfl) (pa_cons (pv 0) (pa_cons (pe_tup (pa_cons (pv 2) pa_nil)) pa_nil)))) (pg_name (i := 4) sc_value_of.nd rfl (Or.inl rfl)) 
       (pss_one (ps_dput (hu_of hr) (pv 3) (pv 4) (Zn.pe_cal c__value (hr.mono (by decide)) (by rfl) (pa_cons (pv 0) (pa_cons (pv 1) (pa_cons (pv 3) (pa_cons (pe_ix (r := rIxT K) ix_tup (pv 0) (pv 4) (fun _ _ => rfl)) pa_nil))))) rfl)))
      (pss_one (ps_ret (pe_dget (hu_of hr) (pv 3) (pv 2) (fun _ _ => rfl)))))), ?_⟩
    have hnl := IS.len
    have hzl := EV.len
    walk_at "rs"
    intro dV hdV
    have s1 : Same H (upd H dV (.dK [])) := same_new hdV
    have hd1 : upd H dV (.dK []) dV = some (.dK []) := upd_same
    generalize upd H dV (.dK []) = H1 at s1 hd1 ⊢
    walk_at "rs"
    rename_i tp htp
    have s2 := s1.trans (same_new (o := .tup [.int t]) htp)
    refine ⟨N, tp, aL, ns, nds, t, rfl, IS.tp (Same.tp s2), OS, hl, upd_same, t0, tn, hlo _, fun H3 p L s3 hp lt tin hb cl => ?_⟩
    have s3' := s2.trans s3
    have hd3 := s3 _ _ (same_new (o := .tup [.int t]) htp _ _ hd1)
    walk_at "rs"
    refine r_ref ⟨_, sl_of hp⟩ ?_
    have hLl : L.length ≤ nds.length := nodup_leI (lt.imp fun {a b} h => Int.ne_of_lt h) hb
    have npd : p ≠ dV := ne_of hp hd3 (by intro z; cases z)
    refine fl (K := K) (a := p) (xs := L.map V.int) (fun i σ H' => ∃ v4, σ = [some (.ref N), some (.ref W), some (.int t), some (.ref dV), v4] ∧ Same H H' ∧ H' p = some (.lst (L.map V.int)) ∧ H' dV = some (.dK (valKs zs (L.take i)))) ⟨_, rfl, s3', hp, hd3⟩ (fun i σ H' _ ⟨_, _, _, h, _⟩ => sl_of h) ?_ ?_
    · rintro i x σ H4 hi ⟨v4, rfl, s4, hp4, hd4⟩
      obtain ⟨a, rfl, ha⟩ := map_get hi
      have hab := hb a (List.mem_of_getElem? ha)
      have hil := getL ha
      obtain ⟨nd, hnd⟩ : ∃ nd, nds[a.toNat]? = some nd := ⟨_, List.getElem?_eq_getElem (by omega)⟩
      obtain ⟨z, hz⟩ : ∃ z, zs[a.toNat]? = some z := ⟨_, List.getElem?_eq_getElem (by omega)⟩
      have ez : zs.getD a.toNat 0 = z := by rw [List.getD_eq_getElem?_getD, hz]; rfl
      obtain ⟨pn, hns, hpn⟩ := IS.get hnd
      have okn := OS _ nd hnd
      walk_at "rs"
      refine r_ixT (st_of (s4 _ _ IS.at_)) (atI_lt (j := a.toNat) (by omega) hns) ?_
      walk_at "rs"
      refine ⟨N, W, pn, .ref dV, ns, nds, words, zs, a.toNat, nd, z, rfl, IS.tp (Same.tp s4), s4 _ _ hW, s4 _ _ hpn, hnd, okn, EV.val _ nd z hnd hz, fun hlf b hb' => ?_, fun H5 s5 => ?_⟩
      · have hb2 := okn.opb hlf hb'
        have := cl a (List.mem_of_getElem? ha) nd hnd hlf b hb'
        exact .inr ⟨dV, _, rfl, hd4, val_at (lt_take lt ha this (by omega))⟩
      · have hd5 := s5 _ _ hd4
        walk_at "rs"
        refine ⟨dV, _, rfl, dpi hd5 (lt_line (by unfold valKs; rw [List.length_map, List.length_take]; omega)), ?_⟩
        rw [← ez, put_vals (not_take lt ha)]
        refine ⟨_, rfl, Zn.Same.mut (s4.trans s5) hdV, (upd_ne npd).trans (s5 _ _ hp4), ?_⟩
        rw [upd_same, take_snoc ha]
    · rintro σ H4 ⟨v4, rfl, s4, hp4, hd4⟩
      rw [List.take_of_length_le (by rw [List.length_map]; exact Nat.le_refl _)] at hd4
      walk_at "rs"
      refine ⟨dV, _, rfl, by rw [← val_at tin]; exact dgi hd4, ?_⟩
      exact q _ s4
end
end Zn
namespace Zn
open PySem PySem.Spec PyProof.Rows L2 TL
abbrev s__law_pick : Stmt := topS 18
theorem sc__law_pick : FnScope ["_law_d", "_law_row"] ["_law_d", "_law_row"] (defScope s__law_pick) := ⟨rfl, rfl, rfl, by decide +kernel, rfl, by decide +kernel, by decide +kernel⟩

section
variable {P : Program} {w : World} {K : PySem.W.Frag} {mg : Str → Option Value} {base : Heap}
/-- one of a row, by a draw -/
def spPick (K : PySem.W.Frag) : Sp := fun vs H Q _ => ∃ (d c a : Addr) (xs : List V), vs = [.ref d, .ref a] ∧ Drw H d c ∧
  a ≠ d ∧ SqL K H a xs ∧ xs ≠ [] ∧ xs.length ≤ 1000 ∧ ∀ x zs, x ∈ xs → Drw (upd H d (.lst zs)) d c → Q x (upd H d (.lst zs))
theorem ok_pick {f : Addr} {fd : FuncData} (F : Fun K "_law_pick" "_law_pick" s__law_pick f fd) (c__law_draw : Cal P w K mg base "_law_draw" 1 spDraw) (T : TDraw mg) : FnOk P w K mg base CX0 2 f fd ["_law_d", "_law_row"] (spPick K) := by
  refine F.ok sc__law_pick (fun vs H Q E h => ?_) (fun cdv A outer s H vs Q E hr h => ?_)
  · obtain ⟨d, c, a, xs, rfl, _⟩ := h
    rfl
  · obtain ⟨d, c, a, xs, rfl, hD, nad, hS, hne, hl, q⟩ := h
    have hpos := List.length_pos_iff.mpr hne
    refine ⟨_, 
      (pss_one (ps_ret (pe_ix (r := rIxL K) ix_list (pv 1) (Zn.pe_cal c__law_draw (hr.mono (by decide)) (by rfl) (pa_cons (pv 0) (pa_cons (pe_callB call_len_seq (by rfl) T.z_len (by decide +kernel) (pa_cons (pv 1) pa_nil)) pa_nil))) (fun _ _ => rfl)))), ?_⟩
    walk_at "rs"
    refine ⟨d, c, _, rfl, hD, by omega, by omega, fun n zs n0 n1 D1 => ?_⟩
    have hj : n.toNat < xs.length := by omega
    refine r_ixL (v := xs[n.toNat]) ((keep_upd (d := d)).seq nad hS) (atI_lt (j := n.toNat) (by omega) (List.getElem?_eq_getElem hj)) ?_
    exact q _ _ (List.getElem_mem _) D1
end
end Zn
namespace Zn
open PySem PySem.Spec PyProof.Rows L2 TL
abbrev s__law_rare : Stmt := topS 19
theorem sc__law_rare : FnScope ["_law_d", "_law_many"] ["_law_d", "_law_many"] (defScope s__law_rare) := ⟨rfl, rfl, rfl, by decide +kernel, rfl, by decide +kernel, by decide +kernel⟩

abbrev s__law_is_int : Stmt := topS 20
theorem sc__law_is_int : FnScope ["_law_thing"] ["_law_thing"] (defScope s__law_is_int) := ⟨rfl, rfl, rfl, by decide +kernel, rfl, by decide +kernel, by decide +kernel⟩

abbrev s__law_ops : Stmt := topS 21
theorem sc__law_ops : FnScope [] [] (defScope s__law_ops) := ⟨rfl, rfl, rfl, by decide +kernel, rfl, by decide +kernel, by decide +kernel⟩

abbrev s__law_leaf_drawn : Stmt := topS 22
theorem sc__law_leaf_drawn : FnScope ["_law_d", "_law_width", "_law_ones"] ["_law_d", "_law_width"] (defScope s__law_leaf_drawn) := ⟨rfl, rfl, rfl, by decide +kernel, rfl, by decide +kernel, by decide +kernel⟩

abbrev s__law_node_drawn : Stmt := topS 23
theorem sc__law_node_drawn : FnScope ["_law_d", "_law_nodes", "_law_near", "_law_a", "_law_width", "_law_mates", "_law_k", "_law_bits", "_law_op", "_law_b"] ["_law_d", "_law_nodes"] (defScope s__law_node_drawn) := ⟨rfl, rfl, rfl, by decide +kernel, rfl, by decide +kernel, by decide +kernel⟩

abbrev s__law_sheet_drawn : Stmt := topS 24
theorem sc__law_sheet_drawn : FnScope ["_law_d", "_law_leaves", "_law_many", "_law_main", "_law_side", "_law_nodes", "_law_step", "_law_node"] ["_law_d", "_law_leaves", "_law_many"] (defScope s__law_sheet_drawn) := ⟨rfl, rfl, rfl, by decide +kernel, rfl, by decide +kernel, by decide +kernel⟩

abbrev s__law_reckoned : Stmt := topS 25
theorem sc__law_reckoned : FnScope ["_law_op", "_law_width", "_law_words", "_law_ones", "_law_one", "_law_two"] ["_law_op", "_law_width", "_law_words"] (defScope s__law_reckoned) := ⟨rfl, rfl, rfl, by decide +kernel, rfl, by decide +kernel, by decide +kernel⟩

abbrev s__law_reckoned_all : Stmt := topS 26
theorem sc__law_reckoned_all : FnScope ["_law_nodes", "_law_words", "_law_found", "_law_node", "_law_part"] ["_law_nodes", "_law_words"] (defScope s__law_reckoned_all) := ⟨rfl, rfl, rfl, by decide +kernel, rfl, by decide +kernel, by decide +kernel⟩

abbrev s__law_same_values : Stmt := topS 27
theorem sc__law_same_values : FnScope ["_law_told", "_law_due", "_law_one", "_law_other"] ["_law_told", "_law_due"] (defScope s__law_same_values) := ⟨rfl, rfl, rfl, by decide +kernel, rfl, by decide +kernel, by decide +kernel⟩

abbrev s_law : Stmt := topS 28
theorem sc_law : FnScope ["_law_script", "_law_d", "_law_asked", "_law_turn", "_law_leaves", "_law_nodes", "_law_step", "_law_words", "_law_k", "_law_spot", "_law_due", "_law_term", "_law_one"] ["_law_script"] (defScope s_law) := ⟨rfl, rfl, rfl, by decide +kernel, rfl, by decide +kernel, by decide +kernel⟩

structure Tx (K : PySem.W.Frag) (mg : Str → Option Value) (aR : Addr) : Prop extends TDraw mg, TVal K mg aR where
  z_bool : mg "bool" = none
  z_isinstance : mg "isinstance" = none
  z_max : mg "max" = none
  z_min : mg "min" = none
  z_range : mg "range" = none
  z_reversed : mg "reversed" = none
  z_zip : mg "zip" = none
theorem not_word {w x : Int} (h : Word w x) : 1 * 2 ^ w.toNat - 1 - x = mask w (-x - 1) := by
  rw [mask_mod, Int.one_mul]
  have h1 := h.1
  have h2 := h.2
  have e : (-x - 1) % 2 ^ w.toNat = (2 ^ w.toNat - 1 - x) % 2 ^ w.toNat := by
    rw [show (2 : Int) ^ w.toNat - 1 - x = 2 ^ w.toNat + (-x - 1) by omega, Int.add_emod_left]
  rw [e, Int.emod_eq_of_lt (by omega) (by omega)]
theorem neg_word {w x : Int} : Builtin.bitAnd (1 * 2 ^ w.toNat - 1 + 1 - x) (1 * 2 ^ w.toNat - 1) = mask w (-x) := by
  have e : Builtin.bitAnd (1 * 2 ^ w.toNat - 1 + 1 - x) (1 * 2 ^ w.toNat - 1) = _ := mask_mod _ _
  rw [e, mask_mod, show 1 * (2 : Int) ^ w.toNat - 1 + 1 - x = 2 ^ w.toNat + (-x) by omega, Int.add_emod_left]
theorem shl_word {w x y : Int} (c : 1 ≤ w) (d : w ≤ 8) : Builtin.bitAnd (x * 2 ^ y.toNat) (1 * 2 ^ w.toNat - 1) = mask w (x * 2 ^ (if 8 < y then 8 else y).toNat) := by
  show mask w (x * 2 ^ y.toNat) = _
  by_cases h : 8 < y
  · rw [if_pos h, shl0 (show w ≤ y by omega), shl0 (show w ≤ 8 by omega)]
  · rw [if_neg h]
theorem shr_word {w x y : Int} (a : Word w x) (c : 1 ≤ w) (d : w ≤ 8) : x / 2 ^ y.toNat = x / 2 ^ (if 8 < y then 8 else y).toNat := by
  by_cases h : 8 < y
  · rw [if_pos h, shr0 a (show w ≤ y by omega), shr0 a (show w ≤ 8 by omega)]
  · rw [if_neg h]
theorem dec_int {x y : Int} : decide (V.int x = V.int y) = decide (x = y) := by
  rw [decide_eq_decide]
  exact ⟨fun h => V.int.inj h, fun h => congrArg V.int h⟩
theorem shape_hd {o : Str} {w : Int} {ws : List Int} (s : Shape o w ws) (h : ¬ (o = "wide" ∨ o = "pick")) : ws.head? = some w := by
  cases s with
  | one h => rfl
  | wide => exact absurd (Or.inl rfl) h
  | shift => rfl
  | pick => exact absurd (Or.inr rfl) h
  | two h => rfl
theorem fits1 {ws : List Int} {x : Int} (f : Fits ws [x]) : ∃ v, ws = [v] ∧ Word v x := by
  match ws, f with
  | [v], f => exact ⟨v, rfl, f.1⟩
theorem fits2 {ws : List Int} {x y : Int} (f : Fits ws [x, y]) : ∃ v u, ws = [v, u] ∧ Word v x ∧ Word u y := by
  match ws, f with
  | [v, u], f => exact ⟨v, u, rfl, f.1, f.2.1⟩
section
variable {P : Program} {w : World} {K : PySem.W.Frag} {mg : Str → Option Value} {base : Heap} {aR : Addr}
def spRare : Sp := fun vs H Q _ => ∃ (d c : Addr) (m : Int), vs = [.ref d, .int m] ∧ Drw H d c ∧ 1 ≤ m ∧ m < 1073741824 ∧ ∀ (b : Bool) (zs : List V), Drw (upd H d (.lst zs)) d c → Q (.bl b) (upd H d (.lst zs))
theorem ok_rare {f : Addr} {fd : FuncData} (F : Fun K "_law_rare" "_law_rare" s__law_rare f fd) (c__law_draw : Cal P w K mg base "_law_draw" 1 spDraw) : FnOk P w K mg base CX0 2 f fd ["_law_d", "_law_many"] spRare := by
  refine F.ok sc__law_rare (fun vs H Q E h => ?_) (fun cdv A outer s H vs Q E hr h => ?_)
  · obtain ⟨d, c, r, rfl, _⟩ := h
    rfl
  · obtain ⟨d, c, m, rfl, hD, m0, m1, q⟩ := h
    refine ⟨_, 
      (pss_one (ps_ret (pe_cmpR op_eq (Zn.pe_cal c__law_draw (hr.mono (by decide)) (by rfl) (pa_cons (pv 0) (pa_cons (pv 1) pa_nil))) (pe_op op_fdiv (pv 1) pe_int) (nomark _)))), ?_⟩
    walk_at "rs"
    refine ⟨d, c, _, rfl, hD, m0, m1, fun n zs n0 n1 D1 => ?_⟩
    walk_at "rs"
    exact q _ _ D1
def spIsInt : Sp := fun vs H Q _ => ∃ i : Int, vs = [.int i] ∧ Q (.bl true) H
theorem ok_is_int {f : Addr} {fd : FuncData} (F : Fun K "_law_is_int" "_law_is_int" s__law_is_int f fd) (T : Tx K mg aR) : FnOk P w K mg base CX0 1 f fd ["_law_thing"] spIsInt := by
  refine F.ok sc__law_is_int (fun vs H Q E h => ?_) (fun cdv A outer s H vs Q E hr h => ?_)
  · obtain ⟨i, rfl, _⟩ := h
    rfl
  · obtain ⟨i, rfl, q⟩ := h
    refine ⟨_, 
      (pss_one (ps_ret (pe_and (pe_callB call_isi (by rfl) T.z_isinstance (by decide +kernel) (pa_cons (pv 0) (pa_cons (pe_bltn (v := .ty "int") (by rfl) T.z_int (by decide +kernel) rfl) pa_nil))) (pe_one (pe_not (pe_callB call_isi (by rfl) T.z_isinstance (by decide +kernel) (pa_cons (pv 0) (pa_cons (pe_bltn (v := .ty "bool") (by rfl) T.z_bool (by decide +kernel) rfl) pa_nil)))))))), ?_⟩
    walk_at "rs"
    refine r_isi (.ty _) (.base (.int i)) (kit_ty (r := true) (by decide +kernel)) ?_
    walk_at "rs"
    refine r_isi (.ty _) (.base (.int i)) (kit_ty (r := false) (by decide +kernel)) ?_
    walk_at "rs"
    exact q
def spReckd : Sp := fun vs H Q _ => ∃ (lp : Addr) (o : Str) (wd rw : Int) (ws xs : List Int) (z : Int), vs = [.str o, .int wd, .ref lp] ∧ H lp = some (.lst (xs.map V.int)) ∧ wd = rwd o rw ∧ 1 ≤ rw ∧ rw ≤ 8 ∧ Shape o rw ws ∧ Fits ws xs ∧ Val o rw xs z ∧ ∀ H', Same H H' → Q (.int z) H'
theorem ok_reckoned {f : Addr} {fd : FuncData} (F : Fun K "_law_reckoned" "_law_reckoned" s__law_reckoned f fd) (T : Tx K mg aR) : FnOk P w K mg base CX0 1 f fd ["_law_op", "_law_width", "_law_words"] spReckd := by
  refine F.ok sc__law_reckoned (fun vs H Q E h => ?_) (fun cdv A outer s H vs Q E hr h => ?_)
  · obtain ⟨lp, o, wd, rw, ws, xs, z, rfl, _⟩ := h
    rfl
  · obtain ⟨lp, o, wd, rw, ws, xs, z, rfl, hp, ewd, w1, w8, sh, ft, v, q⟩ := h
    refine ⟨_, 
      (pss_cons (ps_set (i := 3) sc__law_reckoned.nd rfl (Or.inl rfl) (pe_op op_sub (pe_op op_shl pe_int (pv 1)) pe_int))
      (pss_cons (ps_set (i := 4) sc__law_reckoned.nd rfl (Or.inl rfl) (pe_ix (r := rIxL K) ix_list (pv 2) pe_int (fun _ _ => rfl)))
      (pss_cons (ps_if (pt_cmpR op_eq (pv 0) pe_str (nomark _)) 
       (pss_one (ps_ret (pe_op op_sub (pv 3) (pv 4)))) pss_nil)
      (pss_cons (ps_if (pt_cmpR op_eq (pv 0) pe_str (nomark _)) 
       (pss_one (ps_ret (pe_op op_and (pe_op op_sub (pe_op op_add (pv 3) pe_int) (pv 4)) (pv 3)))) pss_nil)
      (pss_cons (ps_if (pt_cmpR op_eq (pv 0) pe_str (nomark _)) 
       (pss_one (ps_ret (pe_op op_and (pv 4) (pv 3)))) pss_nil)
      (pss_cons (ps_if (pt_cmpR op_eq (pv 0) pe_str (nomark _)) 
       (pss_one (ps_ret (pe_ifExp (pt_cmpR op_eq (pv 4) pe_int (nomark _)) (pe_ix (r := rIxL K) ix_list (pv 2) pe_int (fun _ _ => rfl)) (pe_ix (r := rIxL K) ix_list (pv 2) pe_int (fun _ _ => rfl))))) pss_nil)
      (pss_cons (ps_set (i := 5) sc__law_reckoned.nd rfl (Or.inl rfl) (pe_ix (r := rIxL K) ix_list (pv 2) pe_int (fun _ _ => rfl)))
      (pss_cons (ps_if (pt_cmpR (r := rIn K false) op_in_seq (pv 0) (pe_lst (pa_cons pe_str (pa_cons pe_str pa_nil))) (by rfl)) 
       (pss_one (ps_ret (pe_ifExp (pt_cmpR op_eq (pv 0) pe_str (nomark _)) (pe_callTy call_int1 (by rfl) T.z_int (by decide +kernel) (pa_cons (pe_cmpR op_eq (pv 4) (pv 5) (nomark _)) pa_nil)) (pe_callTy call_int1 (by rfl) T.z_int (by decide +kernel) (pa_cons (pe_cmpR op_ne (pv 4) (pv 5) (nomark _)) pa_nil))))) pss_nil)
      (pss_cons (ps_if (pt_cmpR (r := rIn K false) op_in_seq (pv 0) (pe_lst (pa_cons pe_str (pa_cons pe_str pa_nil))) (by rfl)) 
       (pss_one (ps_ret (pe_ifExp (pt_cmpR op_eq (pv 0) pe_str (nomark _)) (pe_callTy call_int1 (by rfl) T.z_int (by decide +kernel) (pa_cons (pe_cmpR op_lt (pv 4) (pv 5) (nomark _)) pa_nil)) (pe_callTy call_int1 (by rfl) T.z_int (by decide +kernel) (pa_cons (pe_cmpR op_le (pv 4) (pv 5) (nomark _)) pa_nil))))) pss_nil)
      (pss_cons (ps_if (pt_cmpR (r := rIn K false) op_in_seq (pv 0) (pe_lst (pa_cons pe_str (pa_cons pe_str pa_nil))) (by rfl)) 
       (pss_cons (ps_if (pt_cmpR op_eq (pv 5) pe_int (nomark _)) 
        (pss_one (ps_ret pe_int)) pss_nil)
       (pss_one (ps_ret (pe_ifExp (pt_cmpR op_eq (pv 0) pe_str (nomark _)) (pe_op op_fdiv (pv 4) (pv 5)) (pe_op op_sub (pv 4) (pe_op op_mul (pv 5) (pe_op op_fdiv (pv 4) (pv 5)))))))) pss_nil)
      (pss_cons (ps_if (pt_cmpR op_eq (pv 0) pe_str (nomark _)) 
       (pss_one (ps_ret (pe_op op_shr (pv 4) (pv 5)))) pss_nil)
      (pss_cons (ps_if (pt_cmpR op_eq (pv 0) pe_str (nomark _)) 
       (pss_one (ps_ret (pe_op op_and (pe_op op_shl (pv 4) (pv 5)) (pv 3)))) pss_nil)
      (pss_cons (ps_if (pt_cmpR (r := rIn K false) op_in_seq (pv 0) (pe_lst (pa_cons pe_str (pa_cons pe_str pa_nil))) (by rfl)) 
       (pss_one (ps_ret (pe_ifExp (pt_cmpR op_eq (pv 0) pe_str (nomark _)) (pe_op op_and (pv 4) (pv 5)) (pe_op op_or (pv 4) (pv 5))))) pss_nil)
      (pss_cons (ps_if (pt_cmpR op_eq (pv 0) pe_str (nomark _)) 
       (pss_one (ps_ret (pe_op op_xor (pv 4) (pv 5)))) pss_nil)
      (pss_cons (ps_if (pt_cmpR op_eq (pv 0) pe_str (nomark _)) 
       (pss_one (ps_ret (pe_op op_and (pe_op op_mul (pv 4) (pv 5)) (pv 3)))) pss_nil)
      (pss_one (ps_ret (pe_ifExp (pt_cmpR op_eq (pv 0) pe_str (nomark _)) (pe_op op_and (pe_op op_add (pv 4) (pv 5)) (pv 3)) (pe_op op_and (pe_op op_sub (pv 4) (pv 5)) (pv 3)))))))))))))))))))), ?_⟩
    have two : ∀ {x y : Int}, H lp = some (.lst ([x, y].map V.int)) → H lp = some (.lst [.int x, .int y]) := fun h => h
    have h18 : 1 ≤ wd ∧ wd ≤ 8 := by
      rw [ewd]
      unfold rwd
      split <;> omega
    have hc : CPow 1 wd := ⟨by omega, by omega, by decide⟩
    have hsm := small0 (show 0 ≤ wd by omega) h18.2
    have ones : ∀ {x y : Int}, Fits ws [x, y] → 0 ≤ y ∧ y < 256 := fun {x y} f => by
      obtain ⟨v, u, rfl, _, hy⟩ := fits2 f
      have := shape_ws sh w1 w8 u (by simp)
      have := small0 (show 0 ≤ u by omega) this.2
      exact ⟨hy.1, Int.lt_of_lt_of_le hy.2 this.2⟩
    cases v with
    | @not _ x =>
      have hp : H lp = some (.lst [.int x]) := hp
      have ew : wd = rw := ewd.trans (if_neg (by decide +kernel))
      subst ew
      obtain ⟨u, rfl, hx⟩ := fits1 ft
      have hu : u = wd := by simpa using shape_hd sh (by decide +kernel)
      subst hu
      walk_at "rs"
      rw [not_word hx]
      exact q _ (by walk_at "sm")
    | @neg _ x =>
      have hp : H lp = some (.lst [.int x]) := hp
      have ew : wd = rw := ewd.trans (if_neg (by decide +kernel))
      subst ew
      walk_at "rs"
      rw [neg_word]
      exact q _ (by walk_at "sm")
    | @wide _ x =>
      have hp : H lp = some (.lst [.int x]) := hp
      have ew : wd = rw := ewd.trans (if_neg (by decide +kernel))
      subst ew
      walk_at "rs"
      exact q _ (by walk_at "sm")
    | @pick1 _ l r =>
      have hp : H lp = some (.lst [.int 1, .int z, .int r]) := hp
      walk_at "rs"
      exact q _ (by walk_at "sm")
    | @pick0 _ l r =>
      have hp : H lp = some (.lst [.int 0, .int l, .int z]) := hp
      walk_at "rs"
      exact q _ (by walk_at "sm")
    | @add _ x y =>
      have hp := two hp
      have ew : wd = rw := ewd.trans (if_neg (by decide +kernel))
      subst ew
      walk_at "rs"
      exact q _ (by walk_at "sm")
    | @sub _ x y =>
      have hp := two hp
      have ew : wd = rw := ewd.trans (if_neg (by decide +kernel))
      subst ew
      walk_at "rs"
      exact q _ (by walk_at "sm")
    | @mul _ x y b a =>
      have hp := two hp
      have hm : CMul x y := mulL a b
      have ew : wd = rw := ewd.trans (if_neg (by decide +kernel))
      subst ew
      walk_at "rs"
      exact q _ (by walk_at "sm")
    | @and _ x y a b =>
      have hp := two hp
      walk_at "rs"
      exact q _ (by walk_at "sm")
    | @or _ x y a b =>
      have hp := two hp
      walk_at "rs"
      exact q _ (by walk_at "sm")
    | @xor _ x y a b =>
      have hp := two hp
      walk_at "rs"
      exact q _ (by walk_at "sm")
    | @shl _ x y a b c d e =>
      have hp := two hp
      have ew : wd = rw := ewd.trans (if_neg (by decide +kernel))
      subst ew
      have hy := ones ft
      have hc2 : CPow x y := ⟨by omega, by omega, e⟩
      walk_at "rs"
      rw [shl_word c d]
      exact q _ (by walk_at "sm")
    | @shr _ x y a b c d =>
      have hp := two hp
      have ew : wd = rw := ewd.trans (if_neg (by decide +kernel))
      subst ew
      walk_at "rs"
      rw [shr_word a c d]
      exact q _ (by walk_at "sm")
    | @div0 _ x a =>
      have hp := two hp
      walk_at "rs"
      exact q _ (by walk_at "sm")
    | @rem0 _ x a =>
      have hp := two hp
      walk_at "rs"
      exact q _ (by walk_at "sm")
    | @div _ x y a b c d =>
      have hp := two hp
      have hd : ¬ (decide (V.int y = V.int 0) = true) := fun k => c (V.int.inj (of_decide_eq_true k))
      have hv : CDiv x y := ⟨by have := b.1; omega, d⟩
      walk_at "rs"
      exact q _ (by walk_at "sm")
    | @rem _ x y a b c d =>
      have hp := two hp
      have hd : ¬ (decide (V.int y = V.int 0) = true) := fun k => c (V.int.inj (of_decide_eq_true k))
      have hv : CDiv x y := ⟨by have := b.1; omega, d⟩
      have hm : CMul y (x / y) := mulL (by have := b.1; omega) (by omega)
      walk_at "rs"
      rw [Int.mul_comm y]
      exact q _ (by walk_at "sm")
    | @eq _ x y =>
      have hp := two hp
      walk_at "rs"
      rw [dec_int]
      exact q _ (by walk_at "sm")
    | @ne _ x y =>
      have hp := two hp
      walk_at "rs"
      rw [dec_int]
      have e : (if (!decide (x = y)) = true then (1 : Int) else 0) = if decide (x = y) = true then 0 else 1 := by cases decide (x = y) <;> rfl
      rw [e]
      exact q _ (by walk_at "sm")
    | @lt _ x y =>
      have hp := two hp
      walk_at "rs"
      exact q _ (by walk_at "sm")
    | @le _ x y =>
      have hp := two hp
      walk_at "rs"
      exact q _ (by walk_at "sm")
end
end Zn
namespace Zn
open PySem PySem.Spec PyProof.Rows L2 TL
theorem fits_ops {nds : List Nd} {words zs : List Int} {j : Nat} {nd : Nd} {ws : List Int} {rw : Int} (EV : EvL nds words zs) (ho : OpOk nds j nd ws rw) : Fits ws (nd.2.2.map fun a => zs.getD a.toNat 0) := by
  refine fits_of (by rw [List.length_map]; exact ho.len) fun k w x hk hx => ?_
  rw [List.getElem?_map] at hx
  obtain ⟨a, ha, rfl⟩ := Option.map_eq_some_iff.mp hx
  obtain ⟨a0, a1, nd', hd, hk'⟩ := ho.ops k a ha
  rw [hk] at hk'
  cases hk'
  exact EV.wd _ _ _ hd (getD_at (by rw [EV.len]; exact getL hd))
section
variable {P : Program} {w : World} {K : PySem.W.Frag} {mg : Str → Option Value} {base : Heap} {aR : Addr}
def spRAll : Sp := fun vs H Q _ => ∃ (N W : Addr) (ns : List V) (nds : List Nd) (words zs : List Int), vs = [.ref N, .ref W] ∧ IsSheet H N ns nds ∧ OkSheet nds ∧ nds.length ≤ 1000 ∧ H W = some (.tup (words.map V.int)) ∧ EvL nds words zs ∧
  ∀ H' p, Same H H' → H p = none → H' p = some (.lst (zs.map V.int)) → Q (.ref p) H'
theorem ok_rall {f : Addr} {fd : FuncData} (F : Fun K "_law_reckoned_all" "_law_reckoned_all" s__law_reckoned_all f fd) (c__law_reckoned : Cal P w K mg base "_law_reckoned" 1 spReckd) (T : Tx K mg aR) : FnOk P w K mg base CX0 2 f fd ["_law_nodes", "_law_words"] spRAll := by
  refine F.ok sc__law_reckoned_all (fun vs H Q E h => ?_) (fun cdv A outer s H vs Q E hr h => ?_)
  · obtain ⟨N, W, ns, nds, words, zs, rfl, _⟩ := h
    rfl
  · obtain ⟨N, W, ns, nds, words, zs, rfl, IS, OS, hl, hW, EV, q⟩ := h
    refine ⟨_, 
      (pss_cons (ps_set (i := 2) sc__law_reckoned_all.nd rfl (Or.inr rfl) (pe_lst pa_nil))
      (pss_cons (ps_for PassesOwn.never rfl (pi_tup (pv 0)) (pg_name (i := 3) sc__law_reckoned_all.nd rfl (Or.inl rfl)) 
       (pss_one (ps_if (pt_cmpR op_eq (pe_ix (r := rIxT K) ix_tup (pv 3) pe_int (fun _ _ => rfl)) pe_str (nomark _)) 
        (pss_one (ps_expr (pe_bm PySem.F.plainAttrs_list PySem.F.slot_list_append PySem.F.type_list_append mt_append (pv 2) (pa_cons (pe_ix (r := rIxT K) ix_tup (pv 3) pe_int (fun _ _ => rfl)) pa_nil)))) 
        (pss_one (ps_if (pt_cmpR op_eq (pe_ix (r := rIxT K) ix_tup (pv 3) pe_int (fun _ _ => rfl)) pe_str (nomark _)) 
         (pss_one (ps_expr (pe_bm PySem.F.plainAttrs_list PySem.F.slot_list_append PySem.F.type_list_append mt_append (pv 2) (pa_cons (pe_ifExp (pt_cmpR op_lt (pe_ix (r := rIxT K) ix_tup (pv 3) pe_int (fun _ _ => rfl)) (pe_callB call_len_seq (by rfl) T.z_len (by decide +kernel) (pa_cons (pv 1) pa_nil)) (nomark _)) (pe_op op_and (pe_ix (r := rIxT K) ix_tup (pv 1) (pe_ix (r := rIxT K) ix_tup (pv 3) pe_int (fun _ _ => rfl)) (fun _ _ => rfl)) (pe_op op_sub (pe_op op_shl pe_int (pe_ix (r := rIxT K) ix_tup (pv 3) pe_int (fun _ _ => rfl))) pe_int)) pe_int) pa_nil)))) 
         (pss_one (ps_expr (pe_bm PySem.F.plainAttrs_list PySem.F.slot_list_append PySem.F.type_list_append mt_append (pv 2) (pa_cons (Zn.pe_cal c__law_reckoned (hr.mono (by decide)) (by rfl) (pa_cons (pe_ix (r := rIxT K) ix_tup (pv 3) pe_int (fun _ _ => rfl)) (pa_cons (pe_ix (r := rIxT K) ix_tup (pv 3) pe_int (fun _ _ => rfl)) (pa_cons (pe_lc (own := [("_law_part", 4)]) rfl sc__law_reckoned_all.nd (pi_tup (pe_slice (r := rSlA K) sl_tupA (pv 3) (po_some pe_int) po_none)) (blkOk_by (N := ["_law_nodes", "_law_words", "_law_found", "_law_node", "_law_part"]) (sc := defScope s__law_reckoned_all) (by decide +kernel)) (fun _ _ _ _ _ => (pg_name (i := 4) sc__law_reckoned_all.nd rfl (Or.inl rfl))) (fun _ _ _ _ _ => pts_nil) (fun _ _ _ _ _ => (pe_ix (r := rIxL K) ix_list (pv 2) (pv 4) (fun _ _ => rfl)))) pa_nil)))) pa_nil)))))))))
      (pss_one (ps_ret (pv 2))))), ?_⟩
    have hnl := IS.len
    have hzl := EV.len
    walk_at "rs"
    rename_i vp hvp
    have s1 : Same H (upd H vp (.lst [])) := same_new hvp
    refine r_ref ⟨_, st_of (s1 _ _ IS.at_)⟩ ?_
    refine ft (K := K) (a := N) (xs := ns) (fun i σ H' => ∃ v3 v4, σ = [some (.ref N), some (.ref W), some (.ref vp), v3, v4] ∧ Same H H' ∧ H' vp = some (.lst ((zs.take i).map V.int))) ⟨_, _, rfl, s1, upd_same⟩ (fun i σ H' _ ⟨_, _, _, s, _⟩ => st_of (s _ _ IS.at_)) ?_ ?_
    · rintro i x σ H2 hi ⟨v3, v4, rfl, s2, h2⟩
      have hin := getL hi
      obtain ⟨⟨o, wd, as⟩, hnd⟩ : ∃ nd, nds[i]? = some nd := ⟨_, List.getElem?_eq_getElem (by omega)⟩
      obtain ⟨z, hz⟩ : ∃ z, zs[i]? = some z := ⟨_, List.getElem?_eq_getElem (by omega)⟩
      obtain ⟨p, rfl, hp⟩ := IS.row i x _ hi hnd
      have okn := OS i _ hnd
      have h18 := okn.w18
      have hp := s2 _ _ hp
      have hW2 := s2 _ _ hW
      unfold ndV at hp
      dsimp only at hp h18
      have eL : (words.map V.int).length = words.length := List.length_map ..
      have fin : ∀ (H3 : Hp) (v5 : Option V), Same H2 H3 → ∃ v3 v4, ([some (.ref N), some (.ref W), some (.ref vp), some (.ref p), v5] : L2.St) = [some (.ref N), some (.ref W), some (.ref vp), v3, v4] ∧ Same H (upd H3 vp (.lst ((zs.take i).map V.int ++ [.int z]))) ∧ upd H3 vp (.lst ((zs.take i).map V.int ++ [.int z])) vp = some (.lst ((zs.take (i + 1)).map V.int)) := fun H3 v5 s3 => by
        refine ⟨_, _, rfl, Zn.Same.mut (s2.trans s3) hvp, ?_⟩
        rw [upd_same, take_snoc hz, List.map_append]
        rfl
      have hlen : ((zs.take i).map V.int).length < 100000 := by rw [List.length_map, List.length_take]; omega
      rcases EV.val i _ z hnd hz with ⟨e1, e2⟩ | ⟨e1, n, e2, n0, ez⟩ | ⟨ws, rw, ho, hval⟩
      · dsimp only at e1 e2
        subst e1 e2
        have hp : H2 p = some (.tup [.str "word", .int wd, .int z]) := hp
        walk_at "rs"
        refine r_append h2 (lt_line hlen) ?_
        walk_at "rs"
        exact fin H2 _ (Same.refl _)
      · dsimp only at e1 e2 ez
        subst e1 e2
        have hp : H2 p = some (.tup [.str "input", .int wd, .int n]) := hp
        have hne : decide (V.str "input" = V.str "word") = false := by decide +kernel
        walk_at "rs"
        rw [eL]
        by_cases hn : n < (words.length : Int)
        · rw [if_pos hn] at ez
          rw [decide_eq_true hn]
          walk_at "rs"
          refine r_ixT (st_of hW2) (ints_ex n0 hn) ?_
          have hsm := small0 (show 0 ≤ wd by omega) h18.2
          walk_at "rs"
          refine r_append h2 (lt_line hlen) ?_
          walk_at "rs"
          have := fin H2 v4 (Same.refl _)
          rw [ez] at this
          exact this
        · rw [if_neg hn] at ez
          rw [decide_eq_false hn]
          walk_at "rs"
          refine r_append h2 (lt_line hlen) ?_
          walk_at "rs"
          have := fin H2 v4 (Same.refl _)
          rw [ez] at this
          exact this
      · have hlf := shape_leaf ho.sh
        dsimp only at hlf
        have hln := leaf_no hlf
        have hcn := ho.cnt
        dsimp only at hcn hval
        walk_at "rs"
        rw [decide_eq_false (fun e => hln.1 (V.str.inj e))]
        walk_at "rs"
        rw [decide_eq_false (fun e => hln.2 (V.str.inj e))]
        walk_at "rs"
        refine ⟨_, _, rfl, st_of hp, fun ⟨h0, _⟩ => ?_, fun _ q' hq' => ?_⟩
        · exfalso
          rw [show (2 : Int) = ((2 : Nat) : Int) from rfl, HT.sIx_nat] at h0
          simp only [List.length_cons, List.length_map] at h0
          omega
        · rw [show (2 : Int) = ((2 : Nat) : Int) from rfl, cutV_from]
          have s3 : Same H2 (upd H2 q' (.tup (as.map V.int))) := same_new hq'
          have hq3 : upd H2 q' (.tup (as.map V.int)) q' = _ := upd_same
          show _
          walk_at "rs"
          refine r_ref ⟨_, st_of hq3⟩ fun C hC => ?_
          refine lcM walk_tup ((as.map fun a => zs.getD a.toNat 0).map V.int) (by rw [List.length_map, List.length_map, List.length_map]) (by show (as.map V.int).length < 100000; rw [List.length_map]; omega) hC (fun H' k => st_of (k _ _ hq3)) (fun k x H3 H4 hk s4 hy put => ?_) (fun H3 s4 h4 => ?_)
          · obtain ⟨rfl, hx⟩ := hy
            obtain ⟨a, rfl, ha⟩ := map_get hx
            obtain ⟨a0, a1, _⟩ := ho.ops k a ha
            walk_at "rs"
            refine ⟨rfl, ?_⟩
            walk_at "rs"
            refine r_ixL (sl_of (s4 _ _ (s3 _ _ h2))) (zs_at a0 a1 (by omega)) ?_
            walk_at "rs"
            exact put _ H4 (by rw [List.getElem?_map, List.getElem?_map, ha]; rfl) (Same.refl _)
          · have s23 : Same H2 H3 := s3.trans s4
            walk_at "rs"
            refine ⟨C, o, wd, rw, ws, as.map fun a => zs.getD a.toNat 0, z, rfl, h4, ho.w, ho.r1, ho.r8, ho.sh, fits_ops EV ho, hval, fun H5 s5 => ?_⟩
            walk_at "rs"
            refine r_append (s5 _ _ (s23 _ _ h2)) (lt_line hlen) ?_
            walk_at "rs"
            exact fin H5 v4 (s23.trans s5)
    · rintro σ H2 ⟨v3, v4, rfl, s2, h2⟩
      rw [List.take_of_length_le (by omega)] at h2
      walk_at "rs"
      exact q _ vp s2 hvp h2
def spSameV : Sp := fun vs H Q _ => ∃ (t l : Addr) (zs : List Int), vs = [.ref t, .ref l] ∧ H t = some (.tup (zs.map V.int)) ∧ H l = some (.lst (zs.map V.int)) ∧ ∀ H', Same H H' → Q (.bl true) H'
theorem ok_samev {f : Addr} {fd : FuncData} (F : Fun K "_law_same_values" "_law_same_values" s__law_same_values f fd) (c__law_is_int : Cal P w K mg base "_law_is_int" 1 spIsInt) (T : Tx K mg aR) : FnOk P w K mg base CX0 2 f fd ["_law_told", "_law_due"] spSameV := by
  refine F.ok sc__law_same_values (fun vs H Q E h => ?_) (fun cdv A outer s H vs Q E hr h => ?_)
  · obtain ⟨t, l, zs, rfl, _⟩ := h
    rfl
  · obtain ⟨t, l, zs, rfl, ht, hl, q⟩ := h
    refine ⟨_, 
      (pss_cons (ps_if (PW.pt (pw_or (pt_not (pt_val (pe_callB call_isi (by rfl) T.z_isinstance (by decide +kernel) (pa_cons (pv 0) (pa_cons (pe_bltn (v := .ty "tuple") (by rfl) T.z_tuple (by decide +kernel) rfl) pa_nil))))) (pw_or1 (pt_cmpR op_ne (pe_callB call_len_seq (by rfl) T.z_len (by decide +kernel) (pa_cons (pv 0) pa_nil)) (pe_callB call_len_seq (by rfl) T.z_len (by decide +kernel) (pa_cons (pv 1) pa_nil)) (nomark _))))) 
       (pss_one (ps_ret pe_bl)) pss_nil)
      (pss_cons (ps_for PassesOwn.never rfl (Zn.pi_zipM (by rfl) T.z_zip (pa_cons (pv 0) (pa_cons (pv 1) pa_nil))) (pg_tup (by rfl) (pgs_cons (pg_name (i := 2) sc__law_same_values.nd rfl (Or.inl rfl)) (pgs_cons (pg_name (i := 3) sc__law_same_values.nd rfl (Or.inl rfl)) pgs_nil))) 
       (pss_one (ps_if (PW.pt (pw_or (pt_not (pt_val (Zn.pe_cal c__law_is_int (hr.mono (by decide)) (by rfl) (pa_cons (pv 2) pa_nil)))) (pw_or1 (pt_cmpR op_ne (pv 2) (pv 3) (nomark _))))) 
        (pss_one (ps_ret pe_bl)) pss_nil)))
      (pss_one (ps_ret pe_bl)))), ?_⟩
    walk_at "rs"
    refine r_isi (.ty _) (.base (.tup ht)) (kit_ty (r := true) (by decide +kernel)) ?_
    walk_at "rs"
    rw [decide_eq_true rfl]
    walk_at "rs"
    refine ⟨t, l, _, _, rfl, st_of ht, sl_of hl, ?_⟩
    refine fw (walk_zipM (K := K) (a := t) (b := l) (xs := zs.map V.int) (ys := zs.map V.int) (n := (zs.map V.int).length) (by omega)) (fun i σ H' => ∃ v2 v3, σ = [some (.ref t), some (.ref l), v2, v3] ∧ Same H H') ⟨_, _, rfl, Same.refl _⟩ (fun i σ H' _ ⟨_, _, _, s⟩ => ⟨st_of (s _ _ ht), sl_of (s _ _ hl)⟩) ?_ ?_
    · rintro i x σ H2 H3 hi ⟨v2, v3, rfl, s2⟩ ⟨Tq, a, b, rfl, hTq, rfl, ha, hb⟩
      obtain ⟨u, rfl, hu⟩ := map_get ha
      obtain ⟨u2, rfl, hu2⟩ := map_get hb
      rw [hu] at hu2
      cases hu2
      walk_at "rs"
      refine ⟨u, rfl, ?_⟩
      walk_at "rs"
      rw [decide_eq_true rfl]
      walk_at "rs"
      exact ⟨_, _, rfl, s2.trans (same_new hTq)⟩
    · rintro σ H2 ⟨v2, v3, rfl, s2⟩
      walk_at "rs"
      exact q _ s2
end
end Zn
namespace Zn
open PySem PySem.Spec PyProof.Rows L2 TL
def opsL : List Str := ["+", "-", "*", "&", "|", "^", "<<", ">>", "div", "rem", "==", "!=", "<", "<=", "not", "neg", "wide", "pick"]
def LeafOk (w : Int) (nd : Nd) : Prop := nd.2.1 = w ∧ ((nd.1 = "word" ∧ ∃ v, nd.2.2 = [v] ∧ Word w v) ∨ (nd.1 = "input" ∧ ∃ n, nd.2.2 = [n] ∧ 0 ≤ n))
theorem wlist {w r x : Int} (w1 : 1 ≤ w) (w8 : w ≤ 8) (r0 : 0 ≤ r) (r1 : r < 1 * 2 ^ w.toNat - 1 + 1) (h : V.int x ∈ [V.int 0, V.int 1, V.int (1 * 2 ^ w.toNat - 1), V.int ((1 * 2 ^ w.toNat - 1) / 2 ^ Int.toNat 1), V.int w, V.int r]) : Word w x := by
  have hw : w = 1 ∨ w = 2 ∨ w = 3 ∨ w = 4 ∨ w = 5 ∨ w = 6 ∨ w = 7 ∨ w = 8 := by omega
  simp only [List.mem_cons, List.not_mem_nil, or_false, V.int.injEq] at h
  unfold Word
  rcases hw with rfl | rfl | rfl | rfl | rfl | rfl | rfl | rfl <;> rcases h with rfl | rfl | rfl | rfl | rfl | rfl <;> first | decide | exact ⟨r0, by simpa using r1⟩
section
variable {P : Program} {w : World} {K : PySem.W.Frag} {mg : Str → Option Value} {base : Heap} {aR : Addr}
def spOps : Sp := fun vs H Q _ => vs = [] ∧ ∀ p, H p = none → Q (.ref p) (upd H p (.lst (opsL.map V.str)))
theorem ok_ops {f : Addr} {fd : FuncData} (F : Fun K "_law_ops" "_law_ops" s__law_ops f fd) : FnOk P w K mg base CX0 1 f fd [] spOps := by
  refine F.ok sc__law_ops (fun vs H Q E h => ?_) (fun cdv A outer s H vs Q E hr h => ?_)
  · obtain ⟨rfl, _⟩ := h
    rfl
  · obtain ⟨rfl, q⟩ := h
    refine ⟨_, 
      (pss_one (ps_ret (pe_lst (pa_cons pe_str (pa_cons pe_str (pa_cons pe_str (pa_cons pe_str (pa_cons pe_str (pa_cons pe_str (pa_cons pe_str (pa_cons pe_str (pa_cons pe_str (pa_cons pe_str (pa_cons pe_str (pa_cons pe_str (pa_cons pe_str (pa_cons pe_str (pa_cons pe_str (pa_cons pe_str (pa_cons pe_str (pa_cons pe_str pa_nil))))))))))))))))))))), ?_⟩
    walk_at "rs"
    rename_i p hp
    exact q p hp
def spLeafD : Sp := fun vs H Q _ => ∃ (d c : Addr) (w : Int), vs = [.ref d, .int w] ∧ Drw H d c ∧ 1 ≤ w ∧ w ≤ 8 ∧ ∀ (H' : Hp) (p : Addr) (nd : Nd), Kp [d] H H' → Drw H' d c → H' p = some (.tup (ndV nd)) → LeafOk w nd → Q (.ref p) H'
theorem ok_leafd {f : Addr} {fd : FuncData} (F : Fun K "_law_leaf_drawn" "_law_leaf_drawn" s__law_leaf_drawn f fd) (c__law_draw : Cal P w K mg base "_law_draw" 1 spDraw) (c__law_pick : Cal P w K mg base "_law_pick" 2 (spPick K)) (T : Tx K mg aR) : FnOk P w K mg base CX0 3 f fd ["_law_d", "_law_width"] spLeafD := by
  refine F.ok sc__law_leaf_drawn (fun vs H Q E h => ?_) (fun cdv A outer s H vs Q E hr h => ?_)
  · obtain ⟨d, c, w, rfl, _⟩ := h
    rfl
  · obtain ⟨d, c, w, rfl, hD, w1, w8, q⟩ := h
    refine ⟨_, 
      (pss_cons (ps_if (pt_cmpR op_eq (Zn.pe_cal c__law_draw (hr.mono (by decide)) (by rfl) (pa_cons (pv 0) (pa_cons pe_int pa_nil))) pe_int (nomark _)) 
       (pss_cons (ps_set (i := 2) sc__law_leaf_drawn.nd rfl (Or.inl rfl) (pe_op op_sub (pe_op op_shl pe_int (pv 1)) pe_int))
       (pss_one (ps_ret (pe_tup (pa_cons pe_str (pa_cons (pv 1) (pa_cons (Zn.pe_cal c__law_pick (hr.mono (by decide)) (by rfl) (pa_cons (pv 0) (pa_cons (pe_lst (pa_cons pe_int (pa_cons pe_int (pa_cons (pv 2) (pa_cons (pe_op op_shr (pv 2) pe_int) (pa_cons (pv 1) (pa_cons (Zn.pe_cal c__law_draw (hr.mono (by decide)) (by rfl) (pa_cons (pv 0) (pa_cons (pe_op op_add (pv 2) pe_int) pa_nil))) pa_nil))))))) pa_nil))) pa_nil))))))) pss_nil)
      (pss_one (ps_ret (pe_tup (pa_cons pe_str (pa_cons (pv 1) (pa_cons (Zn.pe_cal c__law_pick (hr.mono (by decide)) (by rfl) (pa_cons (pv 0) (pa_cons (pe_lst (pa_cons pe_int (pa_cons pe_int (pa_cons pe_int (pa_cons pe_int (pa_cons (Zn.pe_cal c__law_draw (hr.mono (by decide)) (by rfl) (pa_cons (pv 0) (pa_cons pe_int pa_nil))) (pa_cons pe_int pa_nil))))))) pa_nil))) pa_nil))))))), ?_⟩
    have dd : d ∈ [d] := by simp
    have hsm := small w1 w8
    have hp0 := pow2_pos w.toNat
    have hcp : CPow 1 w := ⟨by omega, by omega, by decide⟩
    walk_at "rs"
    refine ⟨d, c, _, rfl, hD, by decide, by decide, fun n zs n0 n1 D1 => ?_⟩
    have k1 := Kp.drw (S := [d]) (zs := zs) hD dd
    generalize upd H d (.lst zs) = H1 at D1 k1 ⊢
    walk_at "rs"
    refine ite2 (fun h => ?_) (fun h => ?_)
    · walk_at "rs"
      refine ⟨d, c, _, rfl, D1, by omega, by omega, fun r zs r0 r1 D2 => ?_⟩
      have k2 := k1.trans (Kp.drw (zs := zs) D1 dd)
      generalize upd H1 d (.lst zs) = H2 at D2 k2 ⊢
      walk_at "rs"
      rename_i a ha
      have D3 := D2.same (same_new (o := .lst [.int 0, .int 1, .int (1 * 2 ^ w.toNat - 1), .int ((1 * 2 ^ w.toNat - 1) / 2 ^ Int.toNat 1), .int w, .int r]) ha)
      have k3 := k2.new (o := .lst [.int 0, .int 1, .int (1 * 2 ^ w.toNat - 1), .int ((1 * 2 ^ w.toNat - 1) / 2 ^ Int.toNat 1), .int w, .int r]) ha
      refine ⟨d, c, a, _, rfl, D3, (D2.nd ha).symm, sl_of upd_same, List.cons_ne_nil _ _, by simp, fun x zs hx D4 => ?_⟩
      have k4 := k3.trans (Kp.drw (zs := zs) D3 dd)
      obtain ⟨u, rfl⟩ : ∃ u, x = .int u := by
        simp only [List.mem_cons, List.not_mem_nil, or_false] at hx
        rcases hx with rfl | rfl | rfl | rfl | rfl | rfl <;> exact ⟨_, rfl⟩
      have hu := wlist w1 w8 r0 r1 hx
      walk_at "rs"
      rename_i p hp
      exact q _ p ("word", w, [u]) (k4.new hp) (D4.same (same_new hp)) upd_same ⟨rfl, .inl ⟨rfl, u, rfl, hu⟩⟩
    · walk_at "rs"
      refine ⟨d, c, _, rfl, D1, by omega, by omega, fun r zs r0 r1 D2 => ?_⟩
      have k2 := k1.trans (Kp.drw (zs := zs) D1 dd)
      generalize upd H1 d (.lst zs) = H2 at D2 k2 ⊢
      walk_at "rs"
      rename_i a ha
      have D3 := D2.same (same_new (o := .lst [.int 0, .int 1, .int 2, .int 3, .int r, .int 300]) ha)
      have k3 := k2.new (o := .lst [.int 0, .int 1, .int 2, .int 3, .int r, .int 300]) ha
      refine ⟨d, c, a, _, rfl, D3, (D2.nd ha).symm, sl_of upd_same, List.cons_ne_nil _ _, by simp, fun x zs hx D4 => ?_⟩
      have k4 := k3.trans (Kp.drw (zs := zs) D3 dd)
      obtain ⟨u, rfl, hu⟩ : ∃ u, x = .int u ∧ 0 ≤ u := by
        simp only [List.mem_cons, List.not_mem_nil, or_false] at hx
        rcases hx with rfl | rfl | rfl | rfl | rfl | rfl <;> exact ⟨_, rfl, by omega⟩
      walk_at "rs"
      rename_i p hp
      exact q _ p ("input", w, [u]) (k4.new hp) (D4.same (same_new hp)) upd_same ⟨rfl, .inr ⟨rfl, u, rfl, hu⟩⟩
end
end Zn
namespace Zn
open PySem PySem.Spec PyProof.Rows L2 TL
theorem seq_nx {t1 t2 : TS} {D : Ends} {σ : L2.St} {H : Hp} (Post : L2.St → Hp → Prop) (h2 : ∀ σ' H', Post σ' H' → t2 D σ' H') (h1 : ∀ nx', (∀ σ' H', Post σ' H' → nx' σ' H') → t1 { D with nx := nx' } σ H) : tSeq t1 t2 D σ H := h1 (t2 D) h2
theorem ite_nx {c : Prop} [Decidable c] {A B : TS} {nx : L2.St → Hp → Prop} {rt : VK} {bk ct : L2.St → Hp → Prop} {σ : L2.St} {H : Hp} (Post : L2.St → Hp → Prop) (hq : ∀ σ' H', Post σ' H' → nx σ' H')
    (ha : c → ∀ nx', (∀ σ' H', Post σ' H' → nx' σ' H') → A ⟨nx', rt, bk, ct⟩ σ H) (hb : ¬ c → ∀ nx', (∀ σ' H', Post σ' H' → nx' σ' H') → B ⟨nx', rt, bk, ct⟩ σ H) :
    if c then A ⟨nx, rt, bk, ct⟩ σ H else B ⟨nx, rt, bk, ct⟩ σ H := by
  split
  · exact ha ‹_› nx hq
  · exact hb ‹_› nx hq
/-- nodes in a row -/
def Rw (H : Hp) (ns : List V) (nds : List Nd) : Prop := ns.length = nds.length ∧ ∀ (j : Nat) (v : V) (nd : Nd), ns[j]? = some v → nds[j]? = some nd → IsNd H v nd
theorem Rw.tp {H H' : Hp} {ns : List V} {nds : List Nd} (h : Rw H ns nds) (k : Tp H H') : Rw H' ns nds :=
  ⟨h.1, fun j v c a b => by obtain ⟨t, e, x⟩ := h.2 j v c a b; exact ⟨t, e, k _ _ x⟩⟩
theorem Rw.get {H : Hp} {ns : List V} {nds : List Nd} (h : Rw H ns nds) {j : Nat} (hj : j < nds.length) : ∃ p nd, ns[j]? = some (.ref p) ∧ nds[j]? = some nd ∧ H p = some (.tup (ndV nd)) := by
  have hl : j < ns.length := by rw [h.1]; exact hj
  obtain ⟨p, e, hp⟩ := h.2 j ns[j] nds[j] (List.getElem?_eq_getElem hl) (List.getElem?_eq_getElem hj)
  exact ⟨p, _, by rw [List.getElem?_eq_getElem hl, e], List.getElem?_eq_getElem hj, hp⟩
/-- a number of a node of a width -/
def At (nds : List Nd) (a w : Int) : Prop := 0 ≤ a ∧ a < (nds.length : Int) ∧ ∃ nd, nds[a.toNat]? = some nd ∧ w = nd.2.1
theorem ndAt1 {nds : List Nd} {a u : Int} (x : At nds a u) : ∀ (k : Nat) (z : Int), [a][k]? = some z → 0 ≤ z ∧ z < (nds.length : Int) ∧ ∃ nd', nds[z.toNat]? = some nd' ∧ [u][k]? = some nd'.2.1 := by
  obtain ⟨x0, x1, nd, hx, rfl⟩ := x
  intro k z h
  match k, h with
  | 0, h => cases h; exact ⟨x0, x1, nd, hx, rfl⟩
theorem ndAt2 {nds : List Nd} {a b u v : Int} (x : At nds a u) (y : At nds b v) : ∀ (k : Nat) (z : Int), [a, b][k]? = some z → 0 ≤ z ∧ z < (nds.length : Int) ∧ ∃ nd', nds[z.toNat]? = some nd' ∧ [u, v][k]? = some nd'.2.1 := by
  obtain ⟨x0, x1, nd, hx, rfl⟩ := x
  intro k z h
  match k, h with
  | 0, h => cases h; exact ⟨x0, x1, nd, hx, rfl⟩
  | k + 1, h =>
    have := ndAt1 y k z h
    simpa using this
theorem ndAt3 {nds : List Nd} {a b e u v r : Int} (x : At nds a u) (y : At nds b v) (t : At nds e r) : ∀ (k : Nat) (z : Int), [a, b, e][k]? = some z → 0 ≤ z ∧ z < (nds.length : Int) ∧ ∃ nd', nds[z.toNat]? = some nd' ∧ [u, v, r][k]? = some nd'.2.1 := by
  obtain ⟨x0, x1, nd, hx, rfl⟩ := x
  intro k z h
  match k, h with
  | 0, h => cases h; exact ⟨x0, x1, nd, hx, rfl⟩
  | k + 1, h =>
    have := ndAt2 y t k z h
    simpa using this
theorem opA : ∀ o ∈ opsL, inV (.str o) [.str "not", .str "neg"] = true → o = "not" ∨ o = "neg" := by decide +kernel
theorem opS : ∀ o ∈ opsL, inV (.str o) [.str "<<", .str ">>"] = true → o = "<<" ∨ o = ">>" := by decide +kernel
theorem opC : ∀ o ∈ opsL, inV (.str o) [.str "==", .str "!=", .str "<", .str "<=", .str "pick"] = true → o = "pick" ∨ o = "==" ∨ o = "!=" ∨ o = "<" ∨ o = "<=" := by decide +kernel
theorem opR : ∀ o ∈ opsL, ¬ inV (.str o) [.str "not", .str "neg"] = true → ¬ decide (V.str o = V.str "wide") = true → ¬ inV (.str o) [.str "<<", .str ">>"] = true → ¬ inV (.str o) [.str "==", .str "!=", .str "<", .str "<=", .str "pick"] = true →
    o ∈ (["+", "-", "*", "&", "|", "^", "div", "rem"] : List Str) := by decide +kernel
theorem mkop {nds : List Nd} {o : Str} {wd rw : Int} {as ws : List Int} (sh : Shape o rw ws) (r1 : 1 ≤ rw) (r8 : rw ≤ 8) (e : wd = rwd o rw) (len : ws.length = as.length)
    (ops : ∀ (k : Nat) (z : Int), as[k]? = some z → 0 ≤ z ∧ z < (nds.length : Int) ∧ ∃ nd', nds[z.toNat]? = some nd' ∧ ws[k]? = some nd'.2.1) : OkNd nds nds.length (o, wd, as) :=
  .inr (.inr ⟨ws, rw, sh, r1, r8, e, len, ops⟩)
theorem rwdN {o : Str} (w : Int) (h : ¬ (o = "==" ∨ o = "!=" ∨ o = "<" ∨ o = "<=")) : w = rwd o w := (if_neg h).symm
theorem rwdY {o : Str} (w : Int) (h : o = "==" ∨ o = "!=" ∨ o = "<" ∨ o = "<=") : 1 = rwd o w := (if_pos h).symm
section
variable {P : Program} {w : World} {K : PySem.W.Frag} {mg : Str → Option Value} {base : Heap} {aR : Addr}
def spNodeD : Sp := fun vs H Q _ => ∃ (d c N : Addr) (ns : List V) (nds : List Nd), vs = [.ref d, .ref N] ∧ Drw H d c ∧ H N = some (.lst ns) ∧ N ≠ d ∧ N ≠ c ∧ Rw H ns nds ∧ OkSheet nds ∧ 1 ≤ nds.length ∧ nds.length ≤ 100 ∧
  ∀ (H' : Hp) (p : Addr) (nd : Nd), Kp [d] H H' → Drw H' d c → H' p = some (.tup (ndV nd)) → OkNd nds nds.length nd → Q (.ref p) H'
theorem ok_noded {f : Addr} {fd : FuncData} (F : Fun K "_law_node_drawn" "_law_node_drawn" s__law_node_drawn f fd) (c__law_draw : Cal P w K mg base "_law_draw" 1 spDraw) (c__law_pick : Cal P w K mg base "_law_pick" 2 (spPick K)) (c__law_ops : Cal P w K mg base "_law_ops" 1 spOps) (T : Tx K mg aR) : FnOk P w K mg base CX0 3 f fd ["_law_d", "_law_nodes"] spNodeD := by
  refine F.ok sc__law_node_drawn (fun vs H Q E h => ?_) (fun cdv A outer s H vs Q E hr h => ?_)
  · obtain ⟨d, c, N, ns, nds, rfl, _⟩ := h
    rfl
  · obtain ⟨d, c, N, ns, nds, rfl, hD, hN, nNd, nNc, R, OS, l1, l2, q⟩ := h
    refine ⟨_, 
      (pss_cons (ps_set (i := 2) sc__law_node_drawn.nd rfl (Or.inl rfl) (pe_callB call_len_seq (by rfl) T.z_len (by decide +kernel) (pa_cons (pv 1) pa_nil)))
      (pss_cons (ps_if (pt_cmpR op_eq (Zn.pe_cal c__law_draw (hr.mono (by decide)) (by rfl) (pa_cons (pv 0) (pa_cons pe_int pa_nil))) pe_int (nomark _)) 
       (pss_one (ps_set (i := 2) sc__law_node_drawn.nd rfl (Or.inl rfl) (pe_callB (call_min2 rfl) (by rfl) T.z_min (by decide +kernel) (pa_cons pe_int (pa_cons (pv 2) pa_nil))))) pss_nil)
      (pss_cons (ps_set (i := 3) sc__law_node_drawn.nd rfl (Or.inl rfl) (pe_op op_sub (pe_op op_sub (pe_callB call_len_seq (by rfl) T.z_len (by decide +kernel) (pa_cons (pv 1) pa_nil)) pe_int) (Zn.pe_cal c__law_draw (hr.mono (by decide)) (by rfl) (pa_cons (pv 0) (pa_cons (pv 2) pa_nil)))))
      (pss_cons (ps_set (i := 4) sc__law_node_drawn.nd rfl (Or.inr rfl) (pe_ix (r := rIxT K) ix_tup (pe_ix (r := rIxL K) ix_list (pv 1) (pv 3) (fun _ _ => rfl)) pe_int (fun _ _ => rfl)))
      (pss_cons (ps_setLc (own := [("_law_k", 6)]) (i := 5) rfl sc__law_node_drawn.nd rfl rfl (sw_true rfl rfl rfl (by decide +kernel)) (pi_range1 (by rfl) T.z_range (pa_cons (pe_callB call_len_seq (by rfl) T.z_len (by decide +kernel) (pa_cons (pv 1) pa_nil)) pa_nil)) (blkOk_by (N := ["_law_d", "_law_nodes", "_law_near", "_law_a", "_law_width", "_law_mates", "_law_k", "_law_bits", "_law_op", "_law_b"]) (sc := defScope s__law_node_drawn) (by decide +kernel)) (fun _ _ _ _ _ => (pg_name (i := 6) sc__law_node_drawn.nd rfl (Or.inl rfl))) (fun _ _ _ _ _ => (pts_one (pt_cmpR op_eq (pe_ix (r := rIxT K) ix_tup (pe_ix (r := rIxL K) ix_list (pv 1) (pv 6) (fun _ _ => rfl)) pe_int (fun _ _ => rfl)) (pv 4) (nomark _)))) (fun _ _ _ _ _ => (pv 6)))
      (pss_cons (ps_setLc (own := [("_law_k", 6)]) (i := 7) rfl sc__law_node_drawn.nd rfl rfl (sw_true rfl rfl rfl (by decide +kernel)) (pi_range1 (by rfl) T.z_range (pa_cons (pe_callB call_len_seq (by rfl) T.z_len (by decide +kernel) (pa_cons (pv 1) pa_nil)) pa_nil)) (blkOk_by (N := ["_law_d", "_law_nodes", "_law_near", "_law_a", "_law_width", "_law_mates", "_law_k", "_law_bits", "_law_op", "_law_b"]) (sc := defScope s__law_node_drawn) (by decide +kernel)) (fun _ _ _ _ _ => (pg_name (i := 6) sc__law_node_drawn.nd rfl (Or.inl rfl))) (fun _ _ _ _ _ => (pts_one (pt_cmpR op_eq (pe_ix (r := rIxT K) ix_tup (pe_ix (r := rIxL K) ix_list (pv 1) (pv 6) (fun _ _ => rfl)) pe_int (fun _ _ => rfl)) pe_int (nomark _)))) (fun _ _ _ _ _ => (pv 6)))
      (pss_cons (ps_set (i := 8) sc__law_node_drawn.nd rfl (Or.inl rfl) (Zn.pe_cal c__law_pick (hr.mono (by decide)) (by rfl) (pa_cons (pv 0) (pa_cons (Zn.pe_cal0 c__law_ops (hr.mono (by decide)) (by rfl)) pa_nil))))
      (pss_cons (ps_if (pt_cmpR (r := rIn K false) op_in_seq (pv 8) (pe_lst (pa_cons pe_str (pa_cons pe_str pa_nil))) (by rfl)) 
       (pss_one (ps_ret (pe_tup (pa_cons (pv 8) (pa_cons (pv 4) (pa_cons (pv 3) pa_nil)))))) pss_nil)
      (pss_cons (ps_if (pt_cmpR op_eq (pv 8) pe_str (nomark _)) 
       (pss_one (ps_ret (pe_tup (pa_cons (pv 8) (pa_cons (pe_op op_add pe_int (Zn.pe_cal c__law_draw (hr.mono (by decide)) (by rfl) (pa_cons (pv 0) (pa_cons pe_int pa_nil)))) (pa_cons (pv 3) pa_nil)))))) pss_nil)
      (pss_cons (ps_if (pt_cmpR (r := rIn K false) op_in_seq (pv 8) (pe_lst (pa_cons pe_str (pa_cons pe_str pa_nil))) (by rfl)) 
       (pss_one (ps_ret (pe_tup (pa_cons (pv 8) (pa_cons (pv 4) (pa_cons (pv 3) (pa_cons (Zn.pe_cal c__law_draw (hr.mono (by decide)) (by rfl) (pa_cons (pv 0) (pa_cons (pe_callB call_len_seq (by rfl) T.z_len (by decide +kernel) (pa_cons (pv 1) pa_nil)) pa_nil))) pa_nil))))))) pss_nil)
      (pss_cons (ps_set (i := 9) sc__law_node_drawn.nd rfl (Or.inl rfl) (Zn.pe_cal c__law_pick (hr.mono (by decide)) (by rfl) (pa_cons (pv 0) (pa_cons (pv 5) pa_nil))))
      (pss_cons (ps_if (PW.pt (pw_and (pt_cmpR op_eq (pv 8) pe_str (nomark _)) (pw_and1 (pt_truth (pv 7) (by intro _; rfl))))) 
       (pss_one (ps_ret (pe_tup (pa_cons (pv 8) (pa_cons (pv 4) (pa_cons (Zn.pe_cal c__law_pick (hr.mono (by decide)) (by rfl) (pa_cons (pv 0) (pa_cons (pv 7) pa_nil))) (pa_cons (pv 3) (pa_cons (pv 9) pa_nil)))))))) pss_nil)
      (pss_cons (ps_if (pt_cmpR (r := rIn K false) op_in_seq (pv 8) (pe_lst (pa_cons pe_str (pa_cons pe_str (pa_cons pe_str (pa_cons pe_str (pa_cons pe_str pa_nil)))))) (by rfl)) 
       (pss_one (ps_ret (pe_tup (pa_cons (pe_ifExp (pt_cmpR op_eq (pv 8) pe_str (nomark _)) pe_str (pv 8)) (pa_cons pe_int (pa_cons (pv 3) (pa_cons (pv 9) pa_nil))))))) pss_nil)
      (pss_one (ps_ret (pe_tup (pa_cons (pv 8) (pa_cons (pv 4) (pa_cons (pv 3) (pa_cons (pv 9) pa_nil)))))))))))))))))))), ?_⟩
    have dd : d ∈ [d] := by simp
    have nNd' : N ∉ [d] := by simpa using nNd
    have hl := R.1
    walk_at "rs"
    refine ⟨d, c, _, rfl, hD, by decide, by decide, fun n zs n0 n1 D1 => ?_⟩
    have k1 := Kp.drw (S := [d]) (zs := zs) hD dd
    generalize upd H d (.lst zs) = H1 at D1 k1 ⊢
    walk_at "rs"
    refine ite_nx (fun σ' H' => ∃ near : Int, σ' = [some (.ref d), some (.ref N), some (.int near), none, none, none, none, none, none, none] ∧ Kp [d] H H' ∧ Drw H' d c ∧ 1 ≤ near ∧ near ≤ (ns.length : Int)) (fun σ1 H1 => ?_) (fun h nx hx => ?_) (fun h nx hx => ?_)
    rotate_left
    · walk_at "rs"
      exact hx _ _ ⟨_, rfl, k1, D1, by split <;> omega, by split <;> omega⟩
    · walk_at "rs"
      exact hx _ _ ⟨_, rfl, k1, D1, by omega, by omega⟩
    · rintro ⟨near, rfl, k1, D1, e1, e2⟩
      have hN1 := k1.x _ _ nNd' hN
      have R1 := R.tp k1.tp
      walk_at "rs"
      refine ⟨d, c, near, rfl, D1, e1, by omega, fun n zs n0 n1 D2 => ?_⟩
      have k2 := k1.trans (Kp.drw (zs := zs) D1 dd)
      generalize upd H1 d (.lst zs) = H2 at D2 k2 ⊢
      have hN2 := k2.x _ _ nNd' hN
      have R2 := R.tp k2.tp
      obtain ⟨a, ha⟩ : ∃ a : Nat, (a : Int) = (ns.length : Int) - 1 - n := ⟨((ns.length : Int) - 1 - n).toNat, by omega⟩
      have hal : a < nds.length := by omega
      walk_at "rs"
      rw [← ha]
      obtain ⟨ap, ⟨o', wd, as'⟩, ea, hnd, hap⟩ := R2.get hal
      have h18 := (OS a _ hnd).w18
      dsimp only at h18
      have hap : H2 ap = some (.tup (.str o' :: .int wd :: as'.map V.int)) := hap
      have Aa : At nds (a : Int) wd := ⟨by omega, by omega, _, hnd, rfl⟩
      refine r_ixL (sl_of hN2) (atI_lt (j := a) rfl ea) ?_
      walk_at "rs"
      intro C1 hC1
      have nC1d : C1 ≠ d := (D2.same (Same.refl _)).nd hC1 |>.symm
      refine lc_range (fun i H' => ∃ ks : List Int, Same H2 H' ∧ H' C1 = some (.lst (ks.map V.int)) ∧ ks.length ≤ i ∧ (∀ k ∈ ks, At nds k wd) ∧ (a < i → (a : Int) ∈ ks)) ⟨[], same_new hC1, upd_same, Nat.le_refl _, by simp, fun h => absurd h (Nat.not_lt_zero _)⟩ ?_ ?_
      · rintro i H3 hi ⟨ks, s3, h3, l3, a3, m3⟩
        have hil : i < nds.length := by omega
        obtain ⟨bp, ⟨o2, wd2, as2⟩, eb, hnd2, hbp⟩ := R2.get hil
        have hbp : H2 bp = some (.tup (.str o2 :: .int wd2 :: as2.map V.int)) := hbp
        have hbp3 := s3 _ _ hbp
        walk_at "rs"
        refine ⟨rfl, ?_⟩
        walk_at "rs"
        refine r_ixL (sl_of (s3 _ _ hN2)) (atI_lt (j := i) (by omega) eb) ?_
        walk_at "rs"
        refine ite2 (fun h4 => ?_) (fun h4 => ?_)
        · have e4 : wd2 = wd := V.int.inj (of_decide_eq_true h4)
          walk_at "rs"
          refine ⟨_, h3, lt_line (by rw [List.length_map]; omega), ks ++ [(i : Int)], Zn.Same.mut s3 hC1, by rw [upd_same, List.map_append]; simp, by simp; omega, fun y hy => ?_, fun h => ?_⟩
          · rcases List.mem_append.mp hy with hy | hy
            · exact a3 y hy
            · rw [List.mem_singleton] at hy
              subst hy
              exact ⟨by omega, by omega, _, hnd2, e4.symm⟩
          · by_cases e : a < i
            · exact List.mem_append_left _ (m3 e)
            · have : a = i := by omega
              subst this
              simp
        · refine ⟨ks, s3, h3, by omega, a3, fun h => ?_⟩
          refine m3 (Nat.lt_of_le_of_ne (by omega) fun e => h4 ?_)
          subst e
          rw [hnd] at hnd2
          cases hnd2
          exact decide_eq_true rfl
      · rintro H3 ⟨ms, s3, h3, l3, a3, m3⟩
        have m3 := m3 (by omega)
        have hN3 := s3 _ _ hN2
        have R3 := R2.tp (Same.tp s3)
        walk_at "rs"
        intro C2 hC2
        have nC2d : C2 ≠ d := (D2.same s3).nd hC2 |>.symm
        refine lc_range (fun i H' => ∃ ks : List Int, Same H3 H' ∧ H' C2 = some (.lst (ks.map V.int)) ∧ ks.length ≤ i ∧ (∀ k ∈ ks, At nds k 1)) ⟨[], same_new hC2, upd_same, Nat.le_refl _, by simp⟩ ?_ ?_
        · rintro i H9 hi ⟨ks, s9, h9, l9, a9⟩
          have hil : i < nds.length := by omega
          obtain ⟨bp, ⟨o2, wd2, as2⟩, eb, hnd2, hbp⟩ := R3.get hil
          have hbp : H3 bp = some (.tup (.str o2 :: .int wd2 :: as2.map V.int)) := hbp
          have hbp3 := s9 _ _ hbp
          walk_at "rs"
          refine ⟨rfl, ?_⟩
          walk_at "rs"
          refine r_ixL (sl_of (s9 _ _ hN3)) (atI_lt (j := i) (by omega) eb) ?_
          walk_at "rs"
          refine ite2 (fun h4 => ?_) (fun h4 => ?_)
          · have e4 : wd2 = 1 := V.int.inj (of_decide_eq_true h4)
            walk_at "rs"
            refine ⟨_, h9, lt_line (by rw [List.length_map]; omega), ks ++ [(i : Int)], Zn.Same.mut s9 hC2, by rw [upd_same, List.map_append]; simp, by simp; omega, fun y hy => ?_⟩
            · rcases List.mem_append.mp hy with hy | hy
              · exact a9 y hy
              · rw [List.mem_singleton] at hy
                subst hy
                exact ⟨by omega, by omega, _, hnd2, e4.symm⟩
          · refine ⟨ks, s9, h9, by omega, a9⟩
        · rintro H4 ⟨bs, s4, h4, l4, a4⟩
          have hN4 := s4 _ _ hN3
          have h34 := s4 _ _ h3
          have s24 : Same H2 H4 := s3.trans s4
          have k4 := k2.trans (.same s24)
          have D4 := D2.same s24
          have nC1d : C1 ≠ d := (D2.nd hC1).symm
          have nC2d : C2 ≠ d := ((D2.same s3).nd hC2).symm
          walk_at "rs"
          refine ⟨rfl, fun op hop => ?_⟩
          have s5 := same_new (o := .lst (opsL.map V.str)) hop
          walk_at "rs"
          refine ⟨d, c, op, _, rfl, D4.same s5, (D4.nd hop).symm, sl_of upd_same, by decide, by decide, fun x zs hx D6 => ?_⟩
          have k6 := (k4.new (o := .lst (opsL.map V.str)) hop).trans (Kp.drw (zs := zs) (D4.same s5) dd)
          have k46 := (Kp.same (S := [d]) s5).trans (Kp.drw (zs := zs) (D4.same s5) dd)
          generalize upd (upd H4 op (.lst (opsL.map V.str))) d (.lst zs) = H6 at D6 k6 k46 ⊢
          have hN6 := k46.x _ _ nNd' hN4
          have h36 := k46.x _ _ (notin1 nC1d) h34
          have h46 := k46.x _ _ (notin1 nC2d) h4
          obtain ⟨o, ho, rfl⟩ : ∃ o ∈ opsL, x = .str o := by
            obtain ⟨o, h1, h2⟩ := List.mem_map.mp hx
            exact ⟨o, h1, h2.symm⟩
          walk_at "rs"
          rename_i q1 hq1
          have s7 := same_new (o := .lst [.str "not", .str "neg"]) hq1
          have D7 := D6.same s7
          have k7 := k6.new (o := .lst [.str "not", .str "neg"]) hq1
          have h37 := s7 _ _ h36
          have h47 := s7 _ _ h46
          have hN7 := s7 _ _ hN6
          generalize upd H6 q1 (.lst [.str "not", .str "neg"]) = H7 at D7 k7 h37 h47 hN7 ⊢
          refine ite2 (fun c1 => ?_) (fun c1 => ?_)
          · have e1 := opA o ho c1
            walk_at "rs"
            rename_i p hp
            exact q _ p (o, wd, [(a : Int)]) (k7.new hp) (D7.same (same_new hp)) upd_same (by rcases e1 with rfl | rfl <;> exact mkop (.one (by simp)) h18.1 h18.2 (rwdN _ (by decide +kernel)) rfl (ndAt1 Aa))
          walk_at "rs"
          refine ite2 (fun c2 => ?_) (fun c2 => ?_)
          · have e2 : o = "wide" := V.str.inj (of_decide_eq_true c2)
            subst e2
            walk_at "rs"
            refine ⟨d, c, _, rfl, D7, by decide, by decide, fun n zs n0 n1 D8 => ?_⟩
            have k8 := k7.trans (Kp.drw (zs := zs) D7 dd)
            walk_at "rs"
            rename_i p hp
            exact q _ p ("wide", 1 + n, [(a : Int)]) (k8.new hp) (D8.same (same_new hp)) upd_same (mkop (.wide h18.1 h18.2) (by omega) (by omega) (rwdN _ (by decide +kernel)) rfl (ndAt1 Aa))
          walk_at "rs"
          rename_i q2 hq2
          have s8 := same_new (o := .lst [.str "<<", .str ">>"]) hq2
          have D8 := D7.same s8
          have k8 := k7.new (o := .lst [.str "<<", .str ">>"]) hq2
          have h38 := s8 _ _ h37
          have h48 := s8 _ _ h47
          have hN8 := s8 _ _ hN7
          generalize upd H7 q2 (.lst [.str "<<", .str ">>"]) = H8 at D8 k8 h38 h48 hN8 ⊢
          refine ite2 (fun c3 => ?_) (fun c3 => ?_)
          · have e3 := opS o ho c3
            walk_at "rs"
            refine ⟨d, c, _, rfl, D8, by omega, by omega, fun n zs n0 n1 D9 => ?_⟩
            have k9 := k8.trans (Kp.drw (zs := zs) D8 dd)
            obtain ⟨_, nd9, _, e9, _⟩ := R2.get (show n.toNat < nds.length by omega)
            have w9 := (OS _ _ e9).w18
            walk_at "rs"
            rename_i p hp
            exact q _ p (o, wd, [(a : Int), n]) (k9.new hp) (D9.same (same_new hp)) upd_same (by rcases e3 with rfl | rfl <;> exact mkop (.shift (by simp) w9.1 w9.2) h18.1 h18.2 (rwdN _ (by decide +kernel)) rfl (ndAt2 Aa ⟨n0, by omega, nd9, e9, rfl⟩))
          walk_at "rs"
          refine ⟨d, c, C1, ms.map V.int, rfl, D8, nC1d, sl_of h38, (fun e => by rw [List.map_eq_nil_iff] at e; subst e; cases m3), by rw [List.length_map]; omega, fun x zs hx D9 => ?_⟩
          obtain ⟨b, hb, rfl⟩ : ∃ b ∈ ms, x = .int b := by
            obtain ⟨o, h1, h2⟩ := List.mem_map.mp hx
            exact ⟨o, h1, h2.symm⟩
          have Ab := a3 b hb
          have k9 := k8.trans (Kp.drw (zs := zs) D8 dd)
          have h49 := (Kp.drw (zs := zs) D8 dd).x _ _ (notin1 nC2d) h48
          generalize upd H8 d (.lst zs) = H9 at D9 k9 h49 ⊢
          walk_at "rs"
          by_cases c4 : decide (V.str o = V.str "pick") = true
          · rw [if_pos c4]
            have e4 : o = "pick" := V.str.inj (of_decide_eq_true c4)
            subst e4
            walk_at "rs"
            refine ite2 (fun c6 => ?_) (fun c6 => ?_)
            · walk_at "rs"
              refine ⟨d, c, C2, bs.map V.int, rfl, D9, nC2d, sl_of h49, (fun e => by rw [e] at c6; cases c6), by rw [List.length_map]; omega, fun x zs hx D10 => ?_⟩
              obtain ⟨cb, hcb, rfl⟩ : ∃ b ∈ bs, x = .int b := by
                obtain ⟨o, h1, h2⟩ := List.mem_map.mp hx
                exact ⟨o, h1, h2.symm⟩
              have k10 := k9.trans (Kp.drw (zs := zs) D9 dd)
              walk_at "rs"
              rename_i p hp
              exact q _ p ("pick", wd, [cb, (a : Int), b]) (k10.new hp) (D10.same (same_new hp)) upd_same (mkop .pick h18.1 h18.2 (rwdN _ (by decide +kernel)) rfl (ndAt3 (a4 cb hcb) Aa Ab))
            · walk_at "rs"
              rename_i q3 hq3 p hp
              have k10 := k9.new (o := .lst [.str "==", .str "!=", .str "<", .str "<=", .str "pick"]) hq3
              have D10 := D9.same (same_new (o := .lst [.str "==", .str "!=", .str "<", .str "<=", .str "pick"]) hq3)
              exact q _ p ("==", 1, [(a : Int), b]) (k10.new hp) (D10.same (same_new hp)) upd_same (mkop (.two (by simp)) h18.1 h18.2 (rwdY wd (by simp)) rfl (ndAt2 Aa Ab))
          · rw [if_neg c4]
            walk_at "rs"
            rename_i q3 hq3
            have k10 := k9.new (o := .lst [.str "==", .str "!=", .str "<", .str "<=", .str "pick"]) hq3
            have D10 := D9.same (same_new (o := .lst [.str "==", .str "!=", .str "<", .str "<=", .str "pick"]) hq3)
            refine ite2 (fun c5 => ?_) (fun c5 => ?_)
            · walk_at "rs"
              rename_i p hp
              exact q _ p (o, 1, [(a : Int), b]) (k10.new hp) (D10.same (same_new hp)) upd_same (by
                rcases opC o ho c5 with rfl | rfl | rfl | rfl | rfl
                · exact absurd (decide_eq_true rfl) c4
                all_goals exact mkop (.two (by simp)) h18.1 h18.2 (rwdY wd (by simp)) rfl (ndAt2 Aa Ab))
            · walk_at "rs"
              rename_i p hp
              exact q _ p (o, wd, [(a : Int), b]) (k10.new hp) (D10.same (same_new hp)) upd_same (by
                have := opR o ho c1 c2 c3 c5
                simp only [List.mem_cons, List.not_mem_nil, or_false] at this
                rcases this with rfl | rfl | rfl | rfl | rfl | rfl | rfl | rfl <;> exact mkop (.two (by simp)) h18.1 h18.2 (rwdN _ (by decide +kernel)) rfl (ndAt2 Aa Ab))
end
end Zn
namespace Zn
open PySem PySem.Spec PyProof.Rows L2 TL
theorem u65 {k : Nat} {A : Around} (r : Room k A) : A.units + 65 < cLine := by have := r.un; omega
/-- a node as data -/
def ndD (nd : Nd) : PyData := .tuple (.str nd.1 :: .int nd.2.1 :: nd.2.2.map PyData.int)
theorem dp_ints {K : PySem.W.Frag} {H : Hp} : ∀ l : List Int, DpAll K H (l.map V.int) (l.map PyData.int)
  | [] => .nil
  | _ :: l => .cons (.int _) (dp_ints l)
theorem dp_nd {K : PySem.W.Frag} {H : Hp} {p : Addr} {nd : Nd} (h : H p = some (.tup (ndV nd))) : Dp K H (.ref p) (ndD nd) := .tup (st_of h) (.cons (.str _) (.cons (.int _) (dp_ints _)))
theorem dp_row {K : PySem.W.Frag} {H : Hp} : ∀ {ns : List V} {nds : List Nd}, Rw H ns nds → DpAll K H ns (nds.map ndD)
  | [], [], _ => .nil
  | v :: ns, nd :: nds, h => by
    obtain ⟨p, e, hp⟩ := h.2 0 v nd rfl rfl
    subst e
    exact .cons (dp_nd hp) (dp_row ⟨by have := h.1; simpa using this, fun j v nd a b => h.2 (j + 1) v nd (by simpa using a) (by simpa using b)⟩)
  | [], _ :: _, h => by have := h.1; simp at this
  | _ :: _, [], h => by have := h.1; simp at this
theorem lay_ints : ∀ l : List Int, PyData.canLayAll0 (l.map PyData.int) = true
  | [] => rfl
  | _ :: l => by simp [PyData.canLayAll0, PyData.canLay0, lay_ints l]
theorem dep_ints : ∀ l : List Int, PyData.depthAll (l.map PyData.int) ≤ 1
  | [] => by simp [PyData.depthAll]
  | _ :: l => by
    have := dep_ints l
    simp [PyData.depthAll, PyData.depth] <;> omega
theorem nd_lay {nd : Nd} (h : PyData.strOk nd.1 = true) : (ndD nd).canLay0 = true ∧ (ndD nd).depth ≤ 2 := by
  have := dep_ints nd.2.2
  refine ⟨by simp [ndD, PyData.canLay0, PyData.canLayAll0, lay_ints, h], ?_⟩
  simp [ndD, PyData.depth, PyData.depthAll]
  omega
theorem sh_str {o : Str} {w : Int} {ws : List Int} (h : Shape o w ws) : PyData.strOk o = true := by
  cases h with
  | one h => rcases h with rfl | rfl <;> decide +kernel
  | wide h0 h1 => decide +kernel
  | shift h h0 h1 => rcases h with rfl | rfl <;> decide +kernel
  | pick => decide +kernel
  | two h =>
    simp only [List.mem_cons, List.not_mem_nil, or_false] at h
    rcases h with rfl | rfl | rfl | rfl | rfl | rfl | rfl | rfl | rfl | rfl | rfl | rfl <;> decide +kernel
theorem nd_str {nds : List Nd} {j : Nat} {nd : Nd} (h : OkNd nds j nd) : PyData.strOk nd.1 = true := by
  rcases h with ⟨e, _⟩ | ⟨e, _⟩ | ⟨ws, rw, h⟩
  · rw [e]; decide +kernel
  · rw [e]; decide +kernel
  · exact sh_str h.sh
theorem nds_lay {nds : List Nd} : ∀ {l : List Nd}, (∀ nd ∈ l, PyData.strOk nd.1 = true) → PyData.canLayAll0 (l.map ndD) = true ∧ PyData.depthAll (l.map ndD) ≤ 2
  | [], _ => ⟨rfl, by simp [PyData.depthAll]⟩
  | nd :: l, h => by
    have a := nd_lay (h nd (by simp))
    have b := nds_lay (nds := nds) (l := l) fun x hx => h x (by simp [hx])
    refine ⟨by simp [PyData.canLayAll0, a.1, b.1], ?_⟩
    simp only [List.map_cons, PyData.depthAll]
    omega
theorem nd_sh {nd : Nd} (h : PyData.strOk nd.1 = true) : SeqAt.shaped (ndD nd) = true := by
  have a := nd_lay h
  unfold SeqAt.shaped
  rw [a.1, Bool.true_and]
  exact decide_eq_true (by omega)
theorem nds_sh {nds : List Nd} (h : OkSheet nds) : SeqAt.shaped (.list (nds.map ndD)) = true := by
  have a := nds_lay (nds := nds) (l := nds) fun nd hn => by
    obtain ⟨j, hj⟩ := List.mem_iff_getElem?.mp hn
    exact nd_str (h j nd hj)
  unfold SeqAt.shaped
  simp only [PyData.canLay0, PyData.depth, a.1, Bool.true_and]
  exact decide_eq_true (by omega)
theorem ok_more {nds : List Nd} {j : Nat} {nd x : Nd} (h : OkNd nds j nd) (hj : j ≤ nds.length) : OkNd (nds ++ [x]) j nd := by
  rcases h with h | h | ⟨ws, rw, h⟩
  · exact .inl h
  · exact .inr (.inl h)
  · refine .inr (.inr ⟨ws, rw, h.sh, h.r1, h.r8, h.w, h.len, fun k a ha => ?_⟩)
    obtain ⟨a0, a1, nd', b, c⟩ := h.ops k a ha
    exact ⟨a0, a1, nd', by rw [List.getElem?_append_left (by omega)]; exact b, c⟩
theorem ok_push {nds : List Nd} {nd : Nd} (h : OkSheet nds) (hn : OkNd nds nds.length nd) : OkSheet (nds ++ [nd]) := fun j x hx => by
  by_cases e : j < nds.length
  · rw [List.getElem?_append_left e] at hx
    exact ok_more (h j x hx) (by omega)
  · have hj := getL hx
    have : j = nds.length := by simp at hj; omega
    subst this
    rw [List.getElem?_append_right (Nat.le_refl _)] at hx
    simp at hx
    subst hx
    exact ok_more hn (Nat.le_refl _)
theorem rw_push {H : Hp} {ns : List V} {nds : List Nd} {p : Addr} {nd : Nd} (h : Rw H ns nds) (hp : H p = some (.tup (ndV nd))) : Rw H (ns ++ [.ref p]) (nds ++ [nd]) := by
  have hl := h.1
  refine ⟨by simp [hl], fun j v x hv hx => ?_⟩
  by_cases e : j < nds.length
  · rw [List.getElem?_append_left e] at hx
    rw [List.getElem?_append_left (by omega)] at hv
    exact h.2 j v x hv hx
  · have hj := getL hx
    have : j = nds.length := by simp at hj; omega
    subst this
    rw [List.getElem?_append_right (Nat.le_refl _)] at hx
    rw [List.getElem?_append_right (by omega), ← hl] at hv
    simp at hx hv
    subst hx hv
    exact ⟨p, rfl, hp⟩
theorem leaf_ok {nds : List Nd} {w : Int} {nd : Nd} (w1 : 1 ≤ w) (w8 : w ≤ 8) (h : LeafOk w nd) (j : Nat) : OkNd nds j nd := by
  obtain ⟨rfl, ⟨a, b⟩ | ⟨a, b⟩⟩ := h
  · exact .inl ⟨a, w1, w8, b⟩
  · exact .inr (.inl ⟨a, w1, w8, b⟩)
section
variable {P : Program} {w : World} {K : PySem.W.Frag} {mg : Str → Option Value} {base : Heap} {aR : Addr}
def spSheetD : Sp := fun vs H Q _ => ∃ (d c : Addr) (l m : Int), vs = [.ref d, .int l, .int m] ∧ Drw H d c ∧ 0 ≤ l ∧ l ≤ 6 ∧ 0 ≤ m ∧ m ≤ 20 ∧
  ∀ (H' : Hp) (N : Addr) (ns : List V) (nds : List Nd), Kp [d] H H' → Drw H' d c → IsSheet H' N ns nds → OkSheet nds → nds.length ≤ 26 → Q (.ref N) H'
theorem ok_sheetd {f : Addr} {fd : FuncData} (F : Fun K "_law_sheet_drawn" "_law_sheet_drawn" s__law_sheet_drawn f fd) (c__law_draw : Cal P w K mg base "_law_draw" 1 spDraw) (c__law_pick : Cal P w K mg base "_law_pick" 2 (spPick K)) (c__law_leaf_drawn : Cal P w K mg base "_law_leaf_drawn" 3 spLeafD) (c__law_node_drawn : Cal P w K mg base "_law_node_drawn" 3 spNodeD) (T : Tx K mg aR) : FnOk P w K mg base CX0 4 f fd ["_law_d", "_law_leaves", "_law_many"] spSheetD := by
  refine F.ok sc__law_sheet_drawn (fun vs H Q E h => ?_) (fun cdv A outer s H vs Q E hr h => ?_)
  · obtain ⟨d, c, l, m, rfl, _⟩ := h
    rfl
  · obtain ⟨d, c, l, m, rfl, hD, l0, l6, m0, m20, q⟩ := h
    refine ⟨_, 
      (pss_cons (ps_set (i := 3) sc__law_sheet_drawn.nd rfl (Or.inl rfl) (pe_op op_add pe_int (Zn.pe_cal c__law_draw (hr.mono (by decide)) (by rfl) (pa_cons (pv 0) (pa_cons pe_int pa_nil)))))
      (pss_cons (ps_set (i := 4) sc__law_sheet_drawn.nd rfl (Or.inl rfl) (pe_op op_add pe_int (Zn.pe_cal c__law_draw (hr.mono (by decide)) (by rfl) (pa_cons (pv 0) (pa_cons pe_int pa_nil)))))
      (pss_cons (ps_set (i := 5) sc__law_sheet_drawn.nd rfl (Or.inl rfl) (pe_lst pa_nil))
      (pss_cons (ps_for PassesOwn.never rfl (pi_range1 (by rfl) T.z_range (pa_cons (pv 1) pa_nil)) (pg_name (i := 6) sc__law_sheet_drawn.nd rfl (Or.inl rfl)) 
       (pss_cons (ps_set (i := 7) sc__law_sheet_drawn.nd rfl (Or.inl rfl) (Zn.pe_cal c__law_leaf_drawn (hr.mono (by decide)) (by rfl) (pa_cons (pv 0) (pa_cons (Zn.pe_cal c__law_pick (hr.mono (by decide)) (by rfl) (pa_cons (pv 0) (pa_cons (pe_lst (pa_cons (pv 3) (pa_cons (pv 3) (pa_cons (pv 4) (pa_cons pe_int pa_nil))))) pa_nil))) pa_nil))))
       (pss_one (ps_if (pt_cmpR (r := rNotInD K) (op_notInD (Zn.u65 hr)) (pv 7) (pv 5) (by rfl)) 
        (pss_one (ps_expr (pe_bm PySem.F.plainAttrs_list PySem.F.slot_list_append PySem.F.type_list_append mt_append (pv 5) (pa_cons (pv 7) pa_nil)))) pss_nil))))
      (pss_cons (ps_for PassesOwn.never rfl (pi_range1 (by rfl) T.z_range (pa_cons (pe_ifExp (pt_truth (pv 5) (by intro _; rfl)) (pv 2) pe_int) pa_nil)) (pg_name (i := 6) sc__law_sheet_drawn.nd rfl (Or.inl rfl)) 
       (pss_cons (ps_set (i := 7) sc__law_sheet_drawn.nd rfl (Or.inl rfl) (Zn.pe_cal c__law_node_drawn (hr.mono (by decide)) (by rfl) (pa_cons (pv 0) (pa_cons (pv 5) pa_nil))))
       (pss_one (ps_if (pt_cmpR (r := rNotInD K) (op_notInD (Zn.u65 hr)) (pv 7) (pv 5) (by rfl)) 
        (pss_one (ps_expr (pe_bm PySem.F.plainAttrs_list PySem.F.slot_list_append PySem.F.type_list_append mt_append (pv 5) (pa_cons (pv 7) pa_nil)))) pss_nil))))
      (pss_one (ps_ret (pe_callTy call_tuple_of (by rfl) T.z_tuple (by decide +kernel) (pa_cons (pv 5) pa_nil))))))))), ?_⟩
    have dd : d ∈ [d] := by simp
    walk_at "rs"
    refine ⟨d, c, _, rfl, hD, by decide, by decide, fun a zs a0 a1 D1 => ?_⟩
    have k1 := Kp.drw (S := [d]) (zs := zs) hD dd
    generalize upd H d (.lst zs) = H1 at D1 k1 ⊢
    walk_at "rs"
    refine ⟨d, c, _, rfl, D1, by decide, by decide, fun b zs b0 b1 D2 => ?_⟩
    have k2 := k1.trans (Kp.drw (zs := zs) D1 dd)
    generalize upd H1 d (.lst zs) = H2 at D2 k2 ⊢
    walk_at "rs"
    rename_i vp hvp
    have nvd : vp ≠ d := (D2.nd hvp).symm
    have nvc : vp ≠ c := (D2.nc hvp).symm
    have fvH : H vp = none := k2.free (notin1 nvd) hvp
    refine fr (fun i σ H' => ∃ v6 v7 ns nds, σ = [some (.ref d), some (.int l), some (.int m), some (.int (1 + a)), some (.int (1 + b)), some (.ref vp), v6, v7] ∧ Kp [d] H H' ∧ Drw H' d c ∧ H' vp = some (.lst ns) ∧ Rw H' ns nds ∧ OkSheet nds ∧ nds.length ≤ i) ⟨_, _, [], [], rfl, k2.new hvp, D2.same (same_new hvp), upd_same, ⟨rfl, fun j v x h => by simp at h⟩, fun j x h => by simp at h, Nat.le_refl _⟩ ?_ ?_
    · rintro i σ H3 hi ⟨v6, v7, ns, nds, rfl, k3, D3, h3, R3, O3, l3⟩
      walk_at "rs"
      rename_i q1 hq1
      have s4 := same_new (o := .lst [.int (1 + a), .int (1 + a), .int (1 + b), .int 1]) hq1
      have D4 := D3.same s4
      refine ⟨d, c, q1, [.int (1 + a), .int (1 + a), .int (1 + b), .int 1], rfl, D4, (D3.nd hq1).symm, sl_of upd_same, List.cons_ne_nil _ _, by simp, fun x zs hx D5 => ?_⟩
      have k4 := (k3.new (o := .lst [.int (1 + a), .int (1 + a), .int (1 + b), .int 1]) hq1).trans (Kp.drw (zs := zs) D4 dd)
      have k34 := (Kp.same (S := [d]) s4).trans (Kp.drw (zs := zs) D4 dd)
      generalize upd (upd H3 q1 (.lst [.int (1 + a), .int (1 + a), .int (1 + b), .int 1])) d (.lst zs) = H4 at D5 k4 k34 ⊢
      obtain ⟨u, rfl, u1, u8⟩ : ∃ u, x = .int u ∧ 1 ≤ u ∧ u ≤ 8 := by
        simp only [List.mem_cons, List.not_mem_nil, or_false] at hx
        rcases hx with rfl | rfl | rfl | rfl <;> exact ⟨_, rfl, by omega, by omega⟩
      walk_at "rs"
      refine ⟨d, c, u, rfl, D5, u1, u8, fun H5 p nd k45 D5 hp lf => ?_⟩
      have k5 := k4.trans k45
      have k35 := k34.trans k45
      have h5 := k35.x _ _ (notin1 nvd) h3
      have R5 := R3.tp k35.tp
      have on := leaf_ok (nds := nds) u1 u8 lf nds.length
      have nvcP := nvc
      walk_at "rs"
      refine ⟨ndD nd, nds.map ndD, dp_nd hp, .lst (sl_of h5) (dp_row R5), nd_sh (nd_str on), nds_sh O3, ?_⟩
      walk_at "rs"
      refine ite2 (fun c1 => ?_) (fun c1 => ?_)
      · walk_at "rs"
        refine r_append h5 (lt_line (by have := R5.1; omega)) ?_
        walk_at "rs"
        have tq : Tp H5 (upd H5 vp (.lst (ns ++ [.ref p]))) := Tp.set h5
        exact ⟨_, _, ns ++ [.ref p], nds ++ [nd], rfl, k5.mut fvH h5, D5.upd nvd.symm nvcP.symm, upd_same, (rw_push R5 hp).tp tq, ok_push O3 on, by rw [List.length_append, List.length_singleton]; omega⟩
      · walk_at "rs"
        exact ⟨_, _, ns, nds, rfl, k5, D5, h5, R5, O3, by omega⟩
    · rintro σ H3 ⟨v6, v7, ns, nds, rfl, k3, D3, h3, R3, O3, l3⟩
      have l6' : nds.length ≤ 6 := by omega
      have fin : ∀ (H4 : Hp) (ns : List V) (nds : List Nd), Kp [d] H H4 → Drw H4 d c → H4 vp = some (.lst ns) → Rw H4 ns nds → OkSheet nds → nds.length ≤ 26 → ∀ N, H4 N = none → Q (.ref N) (upd H4 N (.tup ns)) := fun H4 ns nds k4 D4 h4 R4 O4 l4 N hN => by
        have R5 := R4.tp (Same.tp (same_new (o := .tup ns) hN))
        exact q _ N ns nds (k4.new hN) (D4.same (same_new hN)) ⟨upd_same, R5.1, R5.2⟩ O4 l4
      walk_at "rs"
      refine ite2 (fun c0 => ?_) (fun c0 => ?_)
      · have hne : 1 ≤ nds.length := by
          rw [← R3.1]
          cases ns with
          | nil => cases c0
          | cons => simp
        walk_at "rs"
        refine fr (fun i σ H' => ∃ v6 v7 ns nds, σ = [some (.ref d), some (.int l), some (.int m), some (.int (1 + a)), some (.int (1 + b)), some (.ref vp), v6, v7] ∧ Kp [d] H H' ∧ Drw H' d c ∧ H' vp = some (.lst ns) ∧ Rw H' ns nds ∧ OkSheet nds ∧ 1 ≤ nds.length ∧ nds.length ≤ 6 + i) ⟨_, _, ns, nds, rfl, k3, D3, h3, R3, O3, hne, by omega⟩ ?_ ?_
        · rintro i σ H4 hi ⟨v6, v7, ns, nds, rfl, k4, D4, h4, R4, O3, l4, l5⟩
          walk_at "rs"
          refine ⟨d, c, vp, ns, nds, rfl, D4, h4, nvd, nvc, R4, O3, l4, by omega, fun H5 p nd k45 D5 hp on => ?_⟩
          have k5 := k4.trans k45
          have h5 := k45.x _ _ (notin1 nvd) h4
          have R5 := R4.tp k45.tp
          have nvcP := nvc
          walk_at "rs"
          refine ⟨ndD nd, nds.map ndD, dp_nd hp, .lst (sl_of h5) (dp_row R5), nd_sh (nd_str on), nds_sh O3, ?_⟩
          walk_at "rs"
          refine ite2 (fun c1 => ?_) (fun c1 => ?_)
          · walk_at "rs"
            refine r_append h5 (lt_line (by have := R5.1; omega)) ?_
            walk_at "rs"
            have tq : Tp H5 (upd H5 vp (.lst (ns ++ [.ref p]))) := Tp.set h5
            exact ⟨_, _, ns ++ [.ref p], nds ++ [nd], rfl, k5.mut fvH h5, D5.upd nvd.symm nvcP.symm, upd_same, (rw_push R5 hp).tp tq, ok_push O3 on, by rw [List.length_append, List.length_singleton]; omega, by rw [List.length_append, List.length_singleton]; omega⟩
          · walk_at "rs"
            exact ⟨_, _, ns, nds, rfl, k5, D5, h5, R5, O3, by omega, by omega⟩
        · rintro σ H4 ⟨v6, v7, ns, nds, rfl, k4, D4, h4, R4, O4, l4, l5⟩
          walk_at "rs"
          first
          | exact fun N hN => fin H4 ns nds k4 D4 h4 R4 O4 (by omega) N hN
          | exact ⟨vp, ns, rfl, .inl ⟨sl_of h4, fun N hN => fin H4 ns nds k4 D4 h4 R4 O4 (by omega) N hN⟩⟩
          | done
      · walk_at "rs"
        refine fr (fun i σ H' => i = 0 ∧ σ = [some (.ref d), some (.int l), some (.int m), some (.int (1 + a)), some (.int (1 + b)), some (.ref vp), v6, v7] ∧ H' = H3) ⟨rfl, rfl, rfl⟩ (fun i σ H' hi _ => absurd hi (Nat.not_lt_zero _)) ?_
        rintro σ H4 ⟨_, rfl, rfl⟩
        walk_at "rs"
        first
          | exact fun N hN => fin H4 ns nds k3 D3 h3 R3 O3 (by omega) N hN
          | exact ⟨vp, ns, rfl, .inl ⟨sl_of h3, fun N hN => fin H4 ns nds k3 D3 h3 R3 O3 (by omega) N hN⟩⟩
          | done
end
end Zn
namespace Zn
open PySem PySem.Spec PyProof.Rows L2 TL
/-- what the law asks of: a sheet, words, a spot, what is due -/
def Ent (S : List Addr) (H : Hp) (v : V) : Prop := ∃ (p N W D : Addr) (ns : List V) (nds : List Nd) (words zs : List Int) (s : Int), v = .ref p ∧ H p = some (.tup [.ref N, .ref W, .int s, .ref D]) ∧ IsSheet H N ns nds ∧ OkSheet nds ∧ nds.length ≤ 26 ∧
  H W = some (.tup (words.map V.int)) ∧ EvL nds words zs ∧ H D = some (.lst (zs.map V.int)) ∧ 0 ≤ s ∧ (1 ≤ nds.length → s < (nds.length : Int)) ∧ D ∉ S
theorem Ent.kp {S S' : List Addr} {H H' : Hp} {v : V} (h : Ent S H v) (k : Kp S' H H') (hs : ∀ b ∈ S', b ∈ S) : Ent S H' v := by
  obtain ⟨p, N, W, D, ns, nds, words, zs, s, rfl, hp, IS, OS, hl, hW, EV, hD, s0, s1, hn⟩ := h
  exact ⟨p, N, W, D, ns, nds, words, zs, s, rfl, k.tp _ _ hp, IS.tp k.tp, OS, hl, k.tp _ _ hW, EV, k.x _ _ (fun m => hn (hs _ m)) hD, s0, s1, hn⟩
section
variable {P : Program} {w : World} {K : PySem.W.Frag} {mg : Str → Option Value} {base : Heap} {aR : Addr}
def spLaw (K : PySem.W.Frag) : Sp := fun vs H Q _ => ∃ (a : Addr) (ns : List Int), vs = [.ref a] ∧ SqL K H a (ns.map V.int) ∧ ns.length ≤ 63 ∧ ∀ H', Q (.bl true) H'
theorem ok_law {f : Addr} {fd : FuncData} (F : Fun K "law" "law" s_law f fd) (c__law_begin : Cal P w K mg base "_law_begin" 1 (spBegin K)) (c__law_draw : Cal P w K mg base "_law_draw" 1 spDraw) (c__law_rare : Cal P w K mg base "_law_rare" 2 spRare) (c__law_pick : Cal P w K mg base "_law_pick" 2 (spPick K)) (c__law_is_int : Cal P w K mg base "_law_is_int" 1 spIsInt)
    (c__law_sheet_drawn : Cal P w K mg base "_law_sheet_drawn" 4 spSheetD) (c__law_reckoned_all : Cal P w K mg base "_law_reckoned_all" 2 spRAll) (c__law_same_values : Cal P w K mg base "_law_same_values" 2 spSameV) (c_values_of : Cal P w K mg base "values_of" 5 spValues) (c_value_of : Cal P w K mg base "value_of" 5 spValOf) (T : Tx K mg aR) : FnOk P w K mg base CX0 6 f fd ["_law_script"] (spLaw K) := by
  refine F.ok sc_law (fun vs H Q E h => ?_) (fun cdv A outer s H vs Q E hr h => ?_)
  · obtain ⟨a, ns, rfl, _⟩ := h
    rfl
  · obtain ⟨a, ns, rfl, hS, hl, q⟩ := h
    refine ⟨_, 
      (pss_cons (ps_set (i := 1) sc_law.nd rfl (Or.inr rfl) (Zn.pe_cal c__law_begin (hr.mono (by decide)) (by rfl) (pa_cons (pv 0) pa_nil)))
      (pss_cons (ps_set (i := 2) sc_law.nd rfl (Or.inl rfl) (pe_lst pa_nil))
      (pss_cons (ps_for PassesOwn.never rfl (pi_range1 (by rfl) T.z_range (pa_cons pe_int pa_nil)) (pg_name (i := 3) sc_law.nd rfl (Or.inl rfl)) 
       (pss_cons (ps_set (i := 4) sc_law.nd rfl (Or.inl rfl) (pe_op op_add pe_int (Zn.pe_cal c__law_draw (hr.mono (by decide)) (by rfl) (pa_cons (pv 1) (pa_cons pe_int pa_nil)))))
       (pss_cons (ps_if (pt_val (Zn.pe_cal c__law_rare (hr.mono (by decide)) (by rfl) (pa_cons (pv 1) (pa_cons pe_int pa_nil)))) 
        (pss_one (ps_set (i := 4) sc_law.nd rfl (Or.inl rfl) pe_int)) pss_nil)
       (pss_cons (ps_set (i := 5) sc_law.nd rfl (Or.inl rfl) (Zn.pe_cal c__law_sheet_drawn (hr.mono (by decide)) (by rfl) (pa_cons (pv 1) (pa_cons (pv 4) (pa_cons (Zn.pe_cal c__law_draw (hr.mono (by decide)) (by rfl) (pa_cons (pv 1) (pa_cons pe_int pa_nil))) pa_nil)))))
       (pss_one (ps_for PassesOwn.never rfl (pi_range1 (by rfl) T.z_range (pa_cons pe_int pa_nil)) (pg_name (i := 6) sc_law.nd rfl (Or.inl rfl)) 
        (pss_cons (ps_set (i := 7) sc_law.nd rfl (Or.inl rfl) (pe_callTy call_tuple_of (by rfl) T.z_tuple (by decide +kernel) (pa_cons (pe_lc (own := [("_law_k", 8)]) rfl sc_law.nd (pi_range1 (by rfl) T.z_range (pa_cons (Zn.pe_cal c__law_draw (hr.mono (by decide)) (by rfl) (pa_cons (pv 1) (pa_cons pe_int pa_nil))) pa_nil)) (blkOk_by (N := ["_law_script", "_law_d", "_law_asked", "_law_turn", "_law_leaves", "_law_nodes", "_law_step", "_law_words", "_law_k", "_law_spot", "_law_due", "_law_term", "_law_one"]) (sc := defScope s_law) (by decide +kernel)) (fun _ _ _ _ _ => (pg_name (i := 8) sc_law.nd rfl (Or.inl rfl))) (fun _ _ _ _ _ => pts_nil) (fun _ _ _ _ _ => (Zn.pe_cal c__law_pick (hr.mono (by decide)) (by rfl) (pa_cons (pv 1) (pa_cons (pe_lst (pa_cons pe_int (pa_cons pe_int (pa_cons pe_int (pa_cons pe_int (pa_cons (Zn.pe_cal c__law_draw (hr.mono (by decide)) (by rfl) (pa_cons (pv 1) (pa_cons pe_int pa_nil))) pa_nil)))))) pa_nil))))) pa_nil)))
        (pss_cons (ps_set (i := 9) sc_law.nd rfl (Or.inl rfl) (Zn.pe_cal c__law_draw (hr.mono (by decide)) (by rfl) (pa_cons (pv 1) (pa_cons (pe_callB (call_max2 rfl) (by rfl) T.z_max (by decide +kernel) (pa_cons pe_int (pa_cons (pe_callB call_len_seq (by rfl) T.z_len (by decide +kernel) (pa_cons (pv 5) pa_nil)) pa_nil))) pa_nil))))
        (pss_one (ps_expr (pe_bm PySem.F.plainAttrs_list PySem.F.slot_list_append PySem.F.type_list_append mt_append (pv 2) (pa_cons (pe_tup (pa_cons (pv 5) (pa_cons (pv 7) (pa_cons (pv 9) (pa_cons (Zn.pe_cal c__law_reckoned_all (hr.mono (by decide)) (by rfl) (pa_cons (pv 5) (pa_cons (pv 7) pa_nil))) pa_nil))))) pa_nil))))))))))))
      (pss_cons (ps_for PassesOwn.never rfl (pi_list (pe_op op_cat (pv 2) (Zn.pe_lstRev rfl (by rfl) T.z_list (by rfl) T.z_reversed (pv 2)))) (pg_tup (by rfl) (pgs_cons (pg_name (i := 5) sc_law.nd rfl (Or.inl rfl)) (pgs_cons (pg_name (i := 7) sc_law.nd rfl (Or.inl rfl)) (pgs_cons (pg_name (i := 9) sc_law.nd rfl (Or.inl rfl)) (pgs_cons (pg_name (i := 10) sc_law.nd rfl (Or.inl rfl)) pgs_nil))))) 
       (pss_cons (ps_if (pt_not (pt_val (Zn.pe_cal c__law_same_values (hr.mono (by decide)) (by rfl) (pa_cons (Zn.pe_cal c_values_of (hr.mono (by decide)) (by rfl) (pa_cons (pv 5) (pa_cons (pv 7) pa_nil))) (pa_cons (pv 10) pa_nil))))) 
        (pss_one (ps_ret pe_bl)) pss_nil)
       (pss_one (ps_for PassesOwn.never rfl (pi_list (pe_lst (pa_cons pe_int (pa_cons (pv 9) (pa_cons (pe_op op_sub (pe_callB call_len_seq (by rfl) T.z_len (by decide +kernel) (pa_cons (pv 5) pa_nil)) pe_int) pa_nil))))) (pg_name (i := 11) sc_law.nd rfl (Or.inl rfl)) 
        (pss_one (ps_if (pt_truth (pv 5) (by intro _; rfl)) 
         (pss_cons (ps_set (i := 12) sc_law.nd rfl (Or.inl rfl) (Zn.pe_cal c_value_of (hr.mono (by decide)) (by rfl) (pa_cons (pv 5) (pa_cons (pv 7) (pa_cons (pv 11) pa_nil)))))
         (pss_one (ps_if (PW.pt (pw_or (pt_not (pt_val (Zn.pe_cal c__law_is_int (hr.mono (by decide)) (by rfl) (pa_cons (pv 12) pa_nil)))) (pw_or1 (pt_cmpR op_ne (pv 12) (pe_ix (r := rIxL K) ix_list (pv 10) (pv 11) (fun _ _ => rfl)) (nomark _))))) 
          (pss_one (ps_ret pe_bl)) pss_nil))) pss_nil))))))
      (pss_one (ps_ret pe_bl)))))), ?_⟩
    walk_at "rs"
    refine ⟨a, ns, rfl, hS, hl, fun H1 d c s1 hd D1 => ?_⟩
    walk_at "rs"
    rename_i A hA
    have nAd : A ≠ d := (D1.nd hA).symm
    have nAc : A ≠ c := (D1.nc hA).symm
    have dS : ∀ b ∈ [d], b ∈ [d, A] := by simp
    have dd : d ∈ [d] := by simp
    refine fr (fun i σ H' => ∃ v3 v4 v5 v6 v7 v8 v9 v10 v11 v12 es, σ = [some (.ref a), some (.ref d), some (.ref A), v3, v4, v5, v6, v7, v8, v9, v10, v11, v12] ∧ Drw H' d c ∧ H' A = some (.lst es) ∧ es.length = 3 * i ∧ ∀ v ∈ es, Ent [d, A] H' v) ⟨_, _, _, _, _, _, _, _, _, _, [], rfl, D1.same (same_new hA), upd_same, rfl, by simp⟩ ?_ ?_
    · rintro i σ H2 hi ⟨v3, v4, v5, v6, v7, v8, v9, v10, v11, v12, es, rfl, D2, h2, l2, E2⟩
      walk_at "rs"
      refine ⟨d, c, _, rfl, D2, by decide, by decide, fun n zs n0 n1 D3 => ?_⟩
      have k3 := Kp.drw (S := [d]) (zs := zs) D2 dd
      generalize upd H2 d (.lst zs) = H3 at D3 k3 ⊢
      walk_at "rs"
      refine ⟨d, c, _, rfl, D3, by decide, by decide, fun b zs D4 => ?_⟩
      have k4 := k3.trans (Kp.drw (zs := zs) D3 dd)
      generalize upd H3 d (.lst zs) = H4 at D4 k4 ⊢
      walk_at "rs"
      refine ite_nx (fun σ' H' => ∃ l : Int, σ' = [some (.ref a), some (.ref d), some (.ref A), some (.int (0 + (i : Int))), some (.int l), v5, v6, v7, v8, v9, v10, v11, v12] ∧ H' = H4 ∧ 0 ≤ l ∧ l ≤ 6) (fun σ1 H5 => ?_) (fun h nx hx => ?_) (fun h nx hx => ?_)
      rotate_left
      · walk_at "rs"
        exact hx _ _ ⟨_, rfl, rfl, by omega, by omega⟩
      · walk_at "rs"
        exact hx _ _ ⟨_, rfl, rfl, by omega, by omega⟩
      · rintro ⟨l, rfl, rfl, l0, l6⟩
        walk_at "rs"
        refine ⟨d, c, _, rfl, D4, by decide, by decide, fun m zs m0 m1 D5 => ?_⟩
        have k5 := k4.trans (Kp.drw (zs := zs) D4 dd)
        generalize upd H5 d (.lst zs) = H6 at D5 k5 ⊢
        walk_at "rs"
        refine ⟨d, c, l, m, rfl, D5, l0, l6, m0, by omega, fun H7 N ns nds k7 D7 IS OS l26 => ?_⟩
        have k7 := k5.trans k7
        have h7 := k7.x _ _ (notin1 nAd) h2
        have E7 := fun v hv => (E2 v hv).kp k7 dS
        walk_at "rs"
        refine fr (fun j σ H' => ∃ v6 v7 v8 v9 es, σ = [some (.ref a), some (.ref d), some (.ref A), some (.int (0 + (i : Int))), some (.int l), some (.ref N), v6, v7, v8, v9, v10, v11, v12] ∧ Drw H' d c ∧ Tp H7 H' ∧ H' A = some (.lst es) ∧ es.length = 3 * i + j ∧ ∀ v ∈ es, Ent [d, A] H' v) ⟨_, _, _, _, es, rfl, D7, (Kp.refl [d] H7).tp, h7, l2, E7⟩ ?_ ?_
        · rintro j σ H8 hj ⟨v6, v7, v8, v9, es, rfl, D8, t8, h8, l8, E8⟩
          walk_at "rs"
          refine ⟨d, c, _, rfl, D8, by decide, by decide, fun r zs r0 r1 D9 => ?_⟩
          have k9 := Kp.drw (S := [d]) (zs := zs) D8 dd
          generalize upd H8 d (.lst zs) = H9 at D9 k9 ⊢
          walk_at "rs"
          intro C hC
          have nCd : C ≠ d := (D9.nd hC).symm
          have nCc : C ≠ c := (D9.nc hC).symm
          refine lc_range (fun i H' => ∃ ws : List Int, Kp [d] H9 H' ∧ Drw H' d c ∧ H' C = some (.lst (ws.map V.int)) ∧ ws.length = i) ⟨[], (Kp.refl _ _).new hC, D9.same (same_new hC), upd_same, rfl⟩ ?_ ?_
          · rintro k H10 hk ⟨ws, k10, D10, h10, l10⟩
            walk_at "rs"
            refine ⟨rfl, ?_⟩
            walk_at "rs"
            refine ⟨d, c, _, rfl, D10, by decide, by decide, fun e zs e0 e1 D11 => ?_⟩
            have k11 := k10.trans (Kp.drw (zs := zs) D10 dd)
            have h11 := (Kp.drw (zs := zs) D10 dd).x _ _ (notin1 nCd) h10
            generalize upd H10 d (.lst zs) = H11 at D11 k11 h11 ⊢
            walk_at "rs"
            rename_i q1 hq1
            have s12 := same_new (o := .lst [.int 0, .int 1, .int 255, .int 128, .int e]) hq1
            have D12 := D11.same s12
            have k12 := k11.new (o := .lst [.int 0, .int 1, .int 255, .int 128, .int e]) hq1
            have h12 := s12 _ _ h11
            refine ⟨d, c, q1, [.int 0, .int 1, .int 255, .int 128, .int e], rfl, D12, (D11.nd hq1).symm, sl_of upd_same, List.cons_ne_nil _ _, by simp, fun x zs hx D13 => ?_⟩
            obtain ⟨u, rfl⟩ : ∃ u, x = .int u := by
              simp only [List.mem_cons, List.not_mem_nil, or_false] at hx
              rcases hx with rfl | rfl | rfl | rfl | rfl <;> exact ⟨_, rfl⟩
            have k13 := k12.trans (Kp.drw (zs := zs) D12 dd)
            have h13 := (Kp.drw (zs := zs) D12 dd).x _ _ (notin1 nCd) h12
            generalize upd (upd H11 q1 (.lst [.int 0, .int 1, .int 255, .int 128, .int e])) d (.lst zs) = H13 at D13 k13 h13 ⊢
            exact ⟨_, h13, lt_line (by rw [List.length_map]; omega), ws ++ [u], k13.mut hC h13, D13.upd nCd.symm nCc.symm, by rw [upd_same, List.map_append]; rfl, by rw [List.length_append, l10]; rfl⟩
          · rintro H10 ⟨ws, k10, D10, h10, l10⟩
            walk_at "rs"
            refine ⟨C, _, rfl, .inl ⟨sl_of h10, fun W hW => ?_⟩⟩
            have k11 := (k9.trans k10).new (o := .tup (ws.map V.int)) hW
            have D11 := D10.same (same_new (o := .tup (ws.map V.int)) hW)
            have hW11 : upd H10 W (.tup (ws.map V.int)) W = _ := upd_same
            generalize upd H10 W (.tup (ws.map V.int)) = H11 at D11 k11 hW11 ⊢
            have IS11 := IS.tp (t8.trans k11.tp)
            have hN11 := IS11.at_
            have hnl := IS11.len
            walk_at "rs"
            refine ⟨d, c, _, rfl, D11, by split <;> omega, by split <;> omega, fun sp zs sp0 sp1 D12 => ?_⟩
            have k12 := k11.trans (Kp.drw (zs := zs) D11 dd)
            have hW12 := (Kp.drw (zs := zs) D11 dd).tp _ _ hW11
            have IS12 := IS11.tp (Kp.drw (zs := zs) D11 dd).tp
            generalize upd H11 d (.lst zs) = H12 at D12 k12 hW12 IS12 ⊢
            obtain ⟨zs, EV⟩ := ev_ex OS ws
            have h12 := k12.x _ _ (notin1 nAd) h8
            walk_at "rs"
            refine ⟨N, W, ns, nds, ws, zs, rfl, IS12, OS, by omega, hW12, EV, fun H13 Dp s13 hDf hDp => ?_⟩
            have k13 := k12.trans (.same s13)
            have nDA : Dp ≠ A := (ne_of_none h12 hDf).symm
            have nDd : Dp ≠ d := (D12.nd hDf).symm
            have D13 := D12.same s13
            walk_at "rs"
            rename_i p hp
            have s14 := same_new (o := .tup [.ref N, .ref W, .int sp, .ref Dp]) hp
            have k14 := k13.new (o := .tup [.ref N, .ref W, .int sp, .ref Dp]) hp
            have h14 := k14.x _ _ (notin1 nAd) h8
            have hp14 : upd H13 p (.tup [.ref N, .ref W, .int sp, .ref Dp]) p = _ := upd_same
            have D14 := D13.same s14
            have hD14 := s14 _ _ hDp
            have hW14 := s14 _ _ (s13 _ _ hW12)
            generalize upd H13 p (.tup [.ref N, .ref W, .int sp, .ref Dp]) = H14 at s14 k14 h14 hp14 D14 hD14 hW14 ⊢
            refine r_append h14 (lt_line (by omega)) ?_
            walk_at "rs"
            have tq : Tp H14 (upd H14 A (.lst (es ++ [.ref p]))) := Tp.set h14
            have kq : Kp [d, A] H14 (upd H14 A (.lst (es ++ [.ref p]))) := (Kp.refl [d, A] H14).set (by simp) h14
            refine ⟨_, _, _, _, es ++ [.ref p], rfl, D14.upd nAd.symm nAc.symm, t8.trans (k14.tp.trans tq), upd_same, by simp; omega, fun v hv => ?_⟩
            rcases List.mem_append.mp hv with hv | hv
            · exact ((E8 v hv).kp k14 dS).kp kq (fun b hb => hb)
            · rw [List.mem_singleton] at hv
              subst hv
              have e : Ent [d, A] H14 (.ref p) := ⟨p, N, W, Dp, ns, nds, ws, zs, sp, rfl, hp14, IS12.tp (Same.tp (s13.trans s14)), OS, l26, hW14, EV, hD14, sp0, fun h => by
                have := hnl
                split at sp1 <;> omega, by simp [nDd, nDA]⟩
              exact e.kp kq (fun b hb => hb)
        · rintro σ H8 ⟨v6, v7, v8, v9, es, rfl, D8, t8, h8, l8, E8⟩
          walk_at "rs"
          exact ⟨_, _, _, _, _, _, _, _, _, _, es, rfl, D8, h8, by omega, E8⟩
    · rintro σ H2 ⟨v3, v4, v5, v6, v7, v8, v9, v10, v11, v12, es, rfl, D2, h2, l2, E2⟩
      walk_at "rs"
      refine ⟨A, es, rfl, sl_of h2, fun r hrf => ?_⟩
      have s3 := same_new (o := .lst es.reverse) hrf
      refine r_cat (s3 _ _ h2) upd_same (len_ok (by rw [List.length_reverse]; omega)) fun C hC => ?_
      have s4 := s3.trans (same_new (o := .lst (es ++ es.reverse)) hC)
      have h4 : upd (upd H2 r (.lst es.reverse)) C (.lst (es ++ es.reverse)) C = _ := upd_same
      have E4 := fun v hv => (E2 v hv).kp (Kp.same (S := []) s4) (by simp)
      generalize upd (upd H2 r (.lst es.reverse)) C (.lst (es ++ es.reverse)) = H4 at s4 h4 E4 ⊢
      refine ⟨C, rfl, ⟨_, sl_of h4⟩, ?_⟩
      refine fl (K := K) (a := C) (xs := es ++ es.reverse) (fun i σ H' => ∃ v3 v4 v5 v6 v7 v8 v9 v10 v11 v12, σ = [some (.ref a), some (.ref d), some (.ref A), v3, v4, v5, v6, v7, v8, v9, v10, v11, v12] ∧ Same H4 H') ⟨_, _, _, _, _, _, _, _, _, _, rfl, Same.refl _⟩ (fun i σ H' _ ⟨_, _, _, _, _, _, _, _, _, _, _, s⟩ => sl_of (s _ _ h4)) ?_ ?_
      · rintro i x σ H5 hi ⟨v3, v4, v5, v6, v7, v8, v9, v10, v11, v12, rfl, s5⟩
        have hx : x ∈ es := by
          rcases List.mem_append.mp (List.mem_of_getElem? hi) with h | h
          · exact h
          · exact List.mem_reverse.mp h
        obtain ⟨p, N, W, Dp, ns, nds, words, zs, sp, rfl, hp, IS, OS, l26, hW, EV, hD, sp0, sp1, _⟩ := (E4 x hx).kp (Kp.same (S := []) s5) (by simp)
        have hnl := IS.len
        have hzl := EV.len
        walk_at "rs"
        refine ⟨N, W, ns, nds, words, zs, rfl, IS, OS, by omega, hW, EV, fun H6 tv s6 htv => ?_⟩
        have hD6 := s6 _ _ hD
        walk_at "rs"
        refine ⟨tv, Dp, zs, rfl, htv, hD6, fun H7 s7 => ?_⟩
        have s67 := s6.trans s7
        have hN7 := s67 _ _ IS.at_
        walk_at "rs"
        rename_i L hL
        have s8 := s67.trans (same_new (o := .lst [.int 0, .int sp, .int ((ns.length : Int) - 1)]) hL)
        have h8 : upd H7 L (.lst [.int 0, .int sp, .int ((ns.length : Int) - 1)]) L = _ := upd_same
        generalize upd H7 L (.lst [.int 0, .int sp, .int ((ns.length : Int) - 1)]) = H8 at s8 h8 ⊢
        refine ⟨L, rfl, ⟨_, sl_of h8⟩, ?_⟩
        refine fl (K := K) (a := L) (xs := [.int 0, .int sp, .int ((ns.length : Int) - 1)]) (fun i σ H' => ∃ v3 v4 v6 v8 v11 v12, σ = [some (.ref a), some (.ref d), some (.ref A), v3, v4, some (.ref N), v6, some (.ref W), v8, some (.int sp), some (.ref Dp), v11, v12] ∧ Same H8 H') ⟨_, _, _, _, _, _, rfl, Same.refl _⟩ (fun i σ H' _ ⟨_, _, _, _, _, _, _, s⟩ => sl_of (s _ _ h8)) ?_ ?_
        · rintro k y σ H9 hk ⟨v3, v4, v6, v8, v11, v12, rfl, s9⟩
          have s59 := s8.trans s9
          have IS9 := IS.tp (Same.tp s59)
          have hN9 := IS9.at_
          have hW9 := s59 _ _ hW
          have hD9 := s59 _ _ hD
          obtain ⟨u, rfl, hu⟩ : ∃ u, y = .int u ∧ (1 ≤ nds.length → 0 ≤ u ∧ u < (nds.length : Int)) := by
            have := List.mem_of_getElem? hk
            simp only [List.mem_cons, List.not_mem_nil, or_false] at this
            rcases this with rfl | rfl | rfl
            · exact ⟨_, rfl, fun h => ⟨by omega, by omega⟩⟩
            · exact ⟨_, rfl, fun h => ⟨sp0, sp1 h⟩⟩
            · exact ⟨_, rfl, fun h => ⟨by omega, by omega⟩⟩
          walk_at "rs"
          refine ite2 (fun h => ?_) (fun h => ?_)
          · have hne : 1 ≤ nds.length := by
              rw [← hnl]
              cases ns with
              | nil => cases h
              | cons => simp
            obtain ⟨u0, u1⟩ := hu hne
            walk_at "rs"
            refine ⟨N, W, ns, nds, words, zs, u, rfl, IS9, OS, by omega, hW9, EV, u0, u1, fun H10 s10 => ?_⟩
            have hD10 := s10 _ _ hD9
            walk_at "rs"
            refine ⟨_, rfl, ?_⟩
            walk_at "rs"
            refine r_ixL (sl_of hD10) (v := .int (zs.getD u.toNat 0)) (atI_lt (j := u.toNat) (by omega) (by rw [List.getElem?_map, getD_at (by omega)]; rfl)) ?_
            walk_at "rs"
            rw [decide_eq_true rfl]
            walk_at "rs"
            exact ⟨_, _, _, _, _, _, rfl, s9.trans s10⟩
          · walk_at "rs"
            exact ⟨_, _, _, _, _, _, rfl, s9⟩
        · rintro σ H9 ⟨v3, v4, v6, v8, v11, v12, rfl, s9⟩
          walk_at "rs"
          exact ⟨_, _, _, _, _, _, _, _, _, _, rfl, s5.trans (s8.trans s9)⟩
      · rintro σ H5 ⟨v3, v4, v5, v6, v7, v8, v9, v10, v11, v12, rfl, s5⟩
        walk_at "rs"
        exact q _
end
end Zn
namespace Zn
open PySem PySem.Spec PyProof.Rows L2 TL
theorem all_mk {l : PySem.W.OpenLaw} {w : World} {K : PySem.W.Frag} {h : Heap} {mg : Str → Option Value} {fa : Addr} {fT fL : Addr} {odT odL : Option Addr} {nT nL : Nat} {slT slL : Array (Option Value)} {f0 : Addr} {od0 an0 : Option Addr} {sl0 : Array (Option Value)} {oc0 kV0 dc0 pm0 cd0 ct0 : Value}
    {f1 : Addr} {od1 an1 : Option Addr} {sl1 : Array (Option Value)} {oc1 kV1 dc1 pm1 cd1 ct1 : Value}
    {f2 : Addr} {od2 an2 : Option Addr} {sl2 : Array (Option Value)} {oc2 kV2 dc2 pm2 cd2 ct2 : Value}
    {f3 : Addr} {od3 an3 : Option Addr} {sl3 : Array (Option Value)} {oc3 kV3 dc3 pm3 cd3 ct3 : Value}
    {f4 : Addr} {od4 an4 : Option Addr} {sl4 : Array (Option Value)} {oc4 kV4 dc4 pm4 cd4 ct4 : Value}
    {f5 : Addr} {od5 an5 : Option Addr} {sl5 : Array (Option Value)} {oc5 kV5 dc5 pm5 cd5 ct5 : Value}
    {f6 : Addr} {od6 an6 : Option Addr} {sl6 : Array (Option Value)} {oc6 kV6 dc6 pm6 cd6 ct6 : Value}
    {f7 : Addr} {od7 an7 : Option Addr} {sl7 : Array (Option Value)} {oc7 kV7 dc7 pm7 cd7 ct7 : Value}
    {f8 : Addr} {od8 an8 : Option Addr} {sl8 : Array (Option Value)} {oc8 kV8 dc8 pm8 cd8 ct8 : Value}
    {f9 : Addr} {od9 an9 : Option Addr} {sl9 : Array (Option Value)} {oc9 kV9 dc9 pm9 cd9 ct9 : Value}
    {f10 : Addr} {od10 an10 : Option Addr} {sl10 : Array (Option Value)} {oc10 kV10 dc10 pm10 cd10 ct10 : Value}
    {f11 : Addr} {od11 an11 : Option Addr} {sl11 : Array (Option Value)} {oc11 kV11 dc11 pm11 cd11 ct11 : Value}
    {f12 : Addr} {od12 an12 : Option Addr} {sl12 : Array (Option Value)} {oc12 kV12 dc12 pm12 cd12 ct12 : Value}
    {f13 : Addr} {od13 an13 : Option Addr} {sl13 : Array (Option Value)} {oc13 kV13 dc13 pm13 cd13 ct13 : Value}
    {f14 : Addr} {od14 an14 : Option Addr} {sl14 : Array (Option Value)} {oc14 kV14 dc14 pm14 cd14 ct14 : Value}
    {f15 : Addr} {od15 an15 : Option Addr} {sl15 : Array (Option Value)} {oc15 kV15 dc15 pm15 cd15 ct15 : Value}
    {f16 : Addr} {od16 an16 : Option Addr} {sl16 : Array (Option Value)} {oc16 kV16 dc16 pm16 cd16 ct16 : Value}
    {f17 : Addr} {od17 an17 : Option Addr} {sl17 : Array (Option Value)} {oc17 kV17 dc17 pm17 cd17 ct17 : Value}
    {f18 : Addr} {od18 an18 : Option Addr} {sl18 : Array (Option Value)} {oc18 kV18 dc18 pm18 cd18 ct18 : Value}
    {f19 : Addr} {od19 an19 : Option Addr} {sl19 : Array (Option Value)} {oc19 kV19 dc19 pm19 cd19 ct19 : Value}
    {f20 : Addr} {od20 an20 : Option Addr} {sl20 : Array (Option Value)} {oc20 kV20 dc20 pm20 cd20 ct20 : Value}
    {f21 : Addr} {od21 an21 : Option Addr} {sl21 : Array (Option Value)} {oc21 kV21 dc21 pm21 cd21 ct21 : Value}
    {f22 : Addr} {od22 an22 : Option Addr} {sl22 : Array (Option Value)} {oc22 kV22 dc22 pm22 cd22 ct22 : Value}
    {f23 : Addr} {od23 an23 : Option Addr} {sl23 : Array (Option Value)} {oc23 kV23 dc23 pm23 cd23 ct23 : Value}
    {aR : Addr} {odaR : Option Addr} {naR : Nat} {slaR : Array (Option Value)} {taR0 taR1 taR2 taR3 : Tok} (X : K.In h) (G : h.Ns mainGlobals mg) (hfa : mg "law" = some (.ref fa))
    (a0 : PySem.W.nsIn K mainGlobals "operands_of" = some (some (.ref f0))) (l0 : K.lookup f0 = some ⟨oc0, od0, .func (PySem.W.fnOf "operands_of" "operands_of" (defArgs s_operands_of) (defBody s_operands_of) (defScope s_operands_of) .none kV0 dc0 pm0 an0 cd0 ct0), sl0⟩) (c0 : PySem.W.codeIn K cd0 "operands_of" = true) (k0 : PySem.W.keepIn K (.ref f0) = true)
    (a1 : PySem.W.nsIn K mainGlobals "cone_of" = some (some (.ref f1))) (l1 : K.lookup f1 = some ⟨oc1, od1, .func (PySem.W.fnOf "cone_of" "cone_of" (defArgs s_cone_of) (defBody s_cone_of) (defScope s_cone_of) (.ref fT) kV1 dc1 pm1 an1 cd1 ct1), sl1⟩) (c1 : PySem.W.codeIn K cd1 "cone_of" = true) (k1 : PySem.W.keepIn K (.ref f1) = true)
    (a2 : PySem.W.nsIn K mainGlobals "reckoning_width" = some (some (.ref f2))) (l2 : K.lookup f2 = some ⟨oc2, od2, .func (PySem.W.fnOf "reckoning_width" "reckoning_width" (defArgs s_reckoning_width) (defBody s_reckoning_width) (defScope s_reckoning_width) .none kV2 dc2 pm2 an2 cd2 ct2), sl2⟩) (c2 : PySem.W.codeIn K cd2 "reckoning_width" = true) (k2 : PySem.W.keepIn K (.ref f2) = true)
    (a3 : PySem.W.nsIn K mainGlobals "result" = some (some (.ref f3))) (l3 : K.lookup f3 = some ⟨oc3, od3, .func (PySem.W.fnOf "result" "result" (defArgs s_result) (defBody s_result) (defScope s_result) .none kV3 dc3 pm3 an3 cd3 ct3), sl3⟩) (c3 : PySem.W.codeIn K cd3 "result" = true) (k3 : PySem.W.keepIn K (.ref f3) = true)
    (a4 : PySem.W.nsIn K mainGlobals "_of_one" = some (some (.ref f4))) (l4 : K.lookup f4 = some ⟨oc4, od4, .func (PySem.W.fnOf "_of_one" "_of_one" (defArgs s__of_one) (defBody s__of_one) (defScope s__of_one) .none kV4 dc4 pm4 an4 cd4 ct4), sl4⟩) (c4 : PySem.W.codeIn K cd4 "_of_one" = true) (k4 : PySem.W.keepIn K (.ref f4) = true)
    (a5 : PySem.W.nsIn K mainGlobals "_related" = some (some (.ref f5))) (l5 : K.lookup f5 = some ⟨oc5, od5, .func (PySem.W.fnOf "_related" "_related" (defArgs s__related) (defBody s__related) (defScope s__related) .none kV5 dc5 pm5 an5 cd5 ct5), sl5⟩) (c5 : PySem.W.codeIn K cd5 "_related" = true) (k5 : PySem.W.keepIn K (.ref f5) = true)
    (a6 : PySem.W.nsIn K mainGlobals "_of_two" = some (some (.ref f6))) (l6 : K.lookup f6 = some ⟨oc6, od6, .func (PySem.W.fnOf "_of_two" "_of_two" (defArgs s__of_two) (defBody s__of_two) (defScope s__of_two) .none kV6 dc6 pm6 an6 cd6 ct6), sl6⟩) (c6 : PySem.W.codeIn K cd6 "_of_two" = true) (k6 : PySem.W.keepIn K (.ref f6) = true)
    (a7 : PySem.W.nsIn K mainGlobals "_divided" = some (some (.ref f7))) (l7 : K.lookup f7 = some ⟨oc7, od7, .func (PySem.W.fnOf "_divided" "_divided" (defArgs s__divided) (defBody s__divided) (defScope s__divided) .none kV7 dc7 pm7 an7 cd7 ct7), sl7⟩) (c7 : PySem.W.codeIn K cd7 "_divided" = true) (k7 : PySem.W.keepIn K (.ref f7) = true)
    (a8 : PySem.W.nsIn K mainGlobals "value_of" = some (some (.ref f8))) (l8 : K.lookup f8 = some ⟨oc8, od8, .func (PySem.W.fnOf "value_of" "value_of" (defArgs s_value_of) (defBody s_value_of) (defScope s_value_of) .none kV8 dc8 pm8 an8 cd8 ct8), sl8⟩) (c8 : PySem.W.codeIn K cd8 "value_of" = true) (k8 : PySem.W.keepIn K (.ref f8) = true)
    (a9 : PySem.W.nsIn K mainGlobals "values_of" = some (some (.ref f9))) (l9 : K.lookup f9 = some ⟨oc9, od9, .func (PySem.W.fnOf "values_of" "values_of" (defArgs s_values_of) (defBody s_values_of) (defScope s_values_of) .none kV9 dc9 pm9 an9 cd9 ct9), sl9⟩) (c9 : PySem.W.codeIn K cd9 "values_of" = true) (k9 : PySem.W.keepIn K (.ref f9) = true)
    (a10 : PySem.W.nsIn K mainGlobals "_value" = some (some (.ref f10))) (l10 : K.lookup f10 = some ⟨oc10, od10, .func (PySem.W.fnOf "_value" "_value" (defArgs s__value) (defBody s__value) (defScope s__value) .none kV10 dc10 pm10 an10 cd10 ct10), sl10⟩) (c10 : PySem.W.codeIn K cd10 "_value" = true) (k10 : PySem.W.keepIn K (.ref f10) = true)
    (a11 : PySem.W.nsIn K mainGlobals "_law_begin" = some (some (.ref f11))) (l11 : K.lookup f11 = some ⟨oc11, od11, .func (PySem.W.fnOf "_law_begin" "_law_begin" (defArgs s__law_begin) (defBody s__law_begin) (defScope s__law_begin) .none kV11 dc11 pm11 an11 cd11 ct11), sl11⟩) (c11 : PySem.W.codeIn K cd11 "_law_begin" = true) (k11 : PySem.W.keepIn K (.ref f11) = true)
    (a12 : PySem.W.nsIn K mainGlobals "_law_draw" = some (some (.ref f12))) (l12 : K.lookup f12 = some ⟨oc12, od12, .func (PySem.W.fnOf "_law_draw" "_law_draw" (defArgs s__law_draw) (defBody s__law_draw) (defScope s__law_draw) .none kV12 dc12 pm12 an12 cd12 ct12), sl12⟩) (c12 : PySem.W.codeIn K cd12 "_law_draw" = true) (k12 : PySem.W.keepIn K (.ref f12) = true)
    (a13 : PySem.W.nsIn K mainGlobals "_law_pick" = some (some (.ref f13))) (l13 : K.lookup f13 = some ⟨oc13, od13, .func (PySem.W.fnOf "_law_pick" "_law_pick" (defArgs s__law_pick) (defBody s__law_pick) (defScope s__law_pick) .none kV13 dc13 pm13 an13 cd13 ct13), sl13⟩) (c13 : PySem.W.codeIn K cd13 "_law_pick" = true) (k13 : PySem.W.keepIn K (.ref f13) = true)
    (a14 : PySem.W.nsIn K mainGlobals "_law_rare" = some (some (.ref f14))) (l14 : K.lookup f14 = some ⟨oc14, od14, .func (PySem.W.fnOf "_law_rare" "_law_rare" (defArgs s__law_rare) (defBody s__law_rare) (defScope s__law_rare) .none kV14 dc14 pm14 an14 cd14 ct14), sl14⟩) (c14 : PySem.W.codeIn K cd14 "_law_rare" = true) (k14 : PySem.W.keepIn K (.ref f14) = true)
    (a15 : PySem.W.nsIn K mainGlobals "_law_is_int" = some (some (.ref f15))) (l15 : K.lookup f15 = some ⟨oc15, od15, .func (PySem.W.fnOf "_law_is_int" "_law_is_int" (defArgs s__law_is_int) (defBody s__law_is_int) (defScope s__law_is_int) .none kV15 dc15 pm15 an15 cd15 ct15), sl15⟩) (c15 : PySem.W.codeIn K cd15 "_law_is_int" = true) (k15 : PySem.W.keepIn K (.ref f15) = true)
    (a16 : PySem.W.nsIn K mainGlobals "_law_ops" = some (some (.ref f16))) (l16 : K.lookup f16 = some ⟨oc16, od16, .func (PySem.W.fnOf "_law_ops" "_law_ops" (defArgs s__law_ops) (defBody s__law_ops) (defScope s__law_ops) .none kV16 dc16 pm16 an16 cd16 ct16), sl16⟩) (c16 : PySem.W.codeIn K cd16 "_law_ops" = true) (k16 : PySem.W.keepIn K (.ref f16) = true)
    (a17 : PySem.W.nsIn K mainGlobals "_law_leaf_drawn" = some (some (.ref f17))) (l17 : K.lookup f17 = some ⟨oc17, od17, .func (PySem.W.fnOf "_law_leaf_drawn" "_law_leaf_drawn" (defArgs s__law_leaf_drawn) (defBody s__law_leaf_drawn) (defScope s__law_leaf_drawn) .none kV17 dc17 pm17 an17 cd17 ct17), sl17⟩) (c17 : PySem.W.codeIn K cd17 "_law_leaf_drawn" = true) (k17 : PySem.W.keepIn K (.ref f17) = true)
    (a18 : PySem.W.nsIn K mainGlobals "_law_node_drawn" = some (some (.ref f18))) (l18 : K.lookup f18 = some ⟨oc18, od18, .func (PySem.W.fnOf "_law_node_drawn" "_law_node_drawn" (defArgs s__law_node_drawn) (defBody s__law_node_drawn) (defScope s__law_node_drawn) .none kV18 dc18 pm18 an18 cd18 ct18), sl18⟩) (c18 : PySem.W.codeIn K cd18 "_law_node_drawn" = true) (k18 : PySem.W.keepIn K (.ref f18) = true)
    (a19 : PySem.W.nsIn K mainGlobals "_law_sheet_drawn" = some (some (.ref f19))) (l19 : K.lookup f19 = some ⟨oc19, od19, .func (PySem.W.fnOf "_law_sheet_drawn" "_law_sheet_drawn" (defArgs s__law_sheet_drawn) (defBody s__law_sheet_drawn) (defScope s__law_sheet_drawn) .none kV19 dc19 pm19 an19 cd19 ct19), sl19⟩) (c19 : PySem.W.codeIn K cd19 "_law_sheet_drawn" = true) (k19 : PySem.W.keepIn K (.ref f19) = true)
    (a20 : PySem.W.nsIn K mainGlobals "_law_reckoned" = some (some (.ref f20))) (l20 : K.lookup f20 = some ⟨oc20, od20, .func (PySem.W.fnOf "_law_reckoned" "_law_reckoned" (defArgs s__law_reckoned) (defBody s__law_reckoned) (defScope s__law_reckoned) .none kV20 dc20 pm20 an20 cd20 ct20), sl20⟩) (c20 : PySem.W.codeIn K cd20 "_law_reckoned" = true) (k20 : PySem.W.keepIn K (.ref f20) = true)
    (a21 : PySem.W.nsIn K mainGlobals "_law_reckoned_all" = some (some (.ref f21))) (l21 : K.lookup f21 = some ⟨oc21, od21, .func (PySem.W.fnOf "_law_reckoned_all" "_law_reckoned_all" (defArgs s__law_reckoned_all) (defBody s__law_reckoned_all) (defScope s__law_reckoned_all) .none kV21 dc21 pm21 an21 cd21 ct21), sl21⟩) (c21 : PySem.W.codeIn K cd21 "_law_reckoned_all" = true) (k21 : PySem.W.keepIn K (.ref f21) = true)
    (a22 : PySem.W.nsIn K mainGlobals "_law_same_values" = some (some (.ref f22))) (l22 : K.lookup f22 = some ⟨oc22, od22, .func (PySem.W.fnOf "_law_same_values" "_law_same_values" (defArgs s__law_same_values) (defBody s__law_same_values) (defScope s__law_same_values) .none kV22 dc22 pm22 an22 cd22 ct22), sl22⟩) (c22 : PySem.W.codeIn K cd22 "_law_same_values" = true) (k22 : PySem.W.keepIn K (.ref f22) = true)
    (a23 : PySem.W.nsIn K mainGlobals "law" = some (some (.ref f23))) (l23 : K.lookup f23 = some ⟨oc23, od23, .func (PySem.W.fnOf "law" "law" (defArgs s_law) (defBody s_law) (defScope s_law) .none kV23 dc23 pm23 an23 cd23 ct23), sl23⟩) (c23 : PySem.W.codeIn K cd23 "law" = true) (k23 : PySem.W.keepIn K (.ref f23) = true)
    (gaR : PySem.W.nsIn K mainGlobals "RELATIONS" = some (some (.ref aR))) (laR : K.lookup aR = some ⟨.type "tuple", odaR, .seq #[.str "==" taR0, .str "!=" taR1, .str "<" taR2, .str "<=" taR3] naR, slaR⟩)
    (lT : K.lookup fT = some ⟨.type "tuple", odT, .seq #[.ref fL] nT, slT⟩) (lL : K.lookup fL = some ⟨.type "tuple", odL, .seq #[] nL, slL⟩)
    (z_abs : PySem.W.nsIn K mainGlobals "abs" = some none) (z_bool : PySem.W.nsIn K mainGlobals "bool" = some none) (z_int : PySem.W.nsIn K mainGlobals "int" = some none) (z_isinstance : PySem.W.nsIn K mainGlobals "isinstance" = some none) (z_len : PySem.W.nsIn K mainGlobals "len" = some none) (z_list : PySem.W.nsIn K mainGlobals "list" = some none) (z_max : PySem.W.nsIn K mainGlobals "max" = some none) (z_min : PySem.W.nsIn K mainGlobals "min" = some none) (z_range : PySem.W.nsIn K mainGlobals "range" = some none) (z_reversed : PySem.W.nsIn K mainGlobals "reversed" = some none) (z_sorted : PySem.W.nsIn K mainGlobals "sorted" = some none) (z_tuple : PySem.W.nsIn K mainGlobals "tuple" = some none) (z_zip : PySem.W.nsIn K mainGlobals "zip" = some none) :
    ∃ fd : FuncData, (∀ (s : Shared) (v : Value), BindsTo s fd ⟨[v], []⟩ [("_law_script", v)]) ∧ ∀ base : Heap, K.In base → base.Ns mainGlobals mg → FnOk l.prog w K mg base CX0 6 fa fd ["_law_script"] (spLaw K) := by
  have e := hfa.symm.trans (PySem.W.mg_of X G a23)
  cases e
  have T : Tx K mg aR := { z_abs := PySem.W.mg_none_of X G z_abs, z_bool := PySem.W.mg_none_of X G z_bool, z_int := PySem.W.mg_none_of X G z_int, z_isinstance := PySem.W.mg_none_of X G z_isinstance, z_len := PySem.W.mg_none_of X G z_len, z_list := PySem.W.mg_none_of X G z_list, z_max := PySem.W.mg_none_of X G z_max, z_min := PySem.W.mg_none_of X G z_min, z_range := PySem.W.mg_none_of X G z_range, z_reversed := PySem.W.mg_none_of X G z_reversed, z_sorted := PySem.W.mg_none_of X G z_sorted, z_tuple := PySem.W.mg_none_of X G z_tuple, z_zip := PySem.W.mg_none_of X G z_zip, g_RELATIONS := PySem.W.mg_of X G gaR, q_RELATIONS := fun H => .inr ⟨_, _, _, laR, rfl, rfl, Nat.le_of_ble_eq_true rfl, .cons ⟨_, rfl⟩ (.cons ⟨_, rfl⟩ (.cons ⟨_, rfl⟩ (.cons ⟨_, rfl⟩ (.nil))))⟩ }
  have F0 := fun_mk (st := s_operands_of) l0 c0 k0
  have m0 := PySem.W.mg_of X G a0
  have F1 : FunD K "cone_of" "cone_of" (defArgs s_cone_of) (defBody s_cone_of) (defScope s_cone_of) [V.ref fL] [] f1 _ := ⟨⟨_, _, _, _, _, _, _, _, _, _, rfl, l1, c1, .inr ⟨by simp, fT, _, [.ref fL], _, rfl, lT, rfl, .cons rfl .nil⟩, .inl rfl⟩, k1⟩
  have m1 := PySem.W.mg_of X G a1
  have F2 := fun_mk (st := s_reckoning_width) l2 c2 k2
  have m2 := PySem.W.mg_of X G a2
  have F3 := fun_mk (st := s_result) l3 c3 k3
  have m3 := PySem.W.mg_of X G a3
  have F4 := fun_mk (st := s__of_one) l4 c4 k4
  have m4 := PySem.W.mg_of X G a4
  have F5 := fun_mk (st := s__related) l5 c5 k5
  have m5 := PySem.W.mg_of X G a5
  have F6 := fun_mk (st := s__of_two) l6 c6 k6
  have m6 := PySem.W.mg_of X G a6
  have F7 := fun_mk (st := s__divided) l7 c7 k7
  have m7 := PySem.W.mg_of X G a7
  have F8 := fun_mk (st := s_value_of) l8 c8 k8
  have m8 := PySem.W.mg_of X G a8
  have F9 := fun_mk (st := s_values_of) l9 c9 k9
  have m9 := PySem.W.mg_of X G a9
  have F10 := fun_mk (st := s__value) l10 c10 k10
  have m10 := PySem.W.mg_of X G a10
  have F11 := fun_mk (st := s__law_begin) l11 c11 k11
  have m11 := PySem.W.mg_of X G a11
  have F12 := fun_mk (st := s__law_draw) l12 c12 k12
  have m12 := PySem.W.mg_of X G a12
  have F13 := fun_mk (st := s__law_pick) l13 c13 k13
  have m13 := PySem.W.mg_of X G a13
  have F14 := fun_mk (st := s__law_rare) l14 c14 k14
  have m14 := PySem.W.mg_of X G a14
  have F15 := fun_mk (st := s__law_is_int) l15 c15 k15
  have m15 := PySem.W.mg_of X G a15
  have F16 := fun_mk (st := s__law_ops) l16 c16 k16
  have m16 := PySem.W.mg_of X G a16
  have F17 := fun_mk (st := s__law_leaf_drawn) l17 c17 k17
  have m17 := PySem.W.mg_of X G a17
  have F18 := fun_mk (st := s__law_node_drawn) l18 c18 k18
  have m18 := PySem.W.mg_of X G a18
  have F19 := fun_mk (st := s__law_sheet_drawn) l19 c19 k19
  have m19 := PySem.W.mg_of X G a19
  have F20 := fun_mk (st := s__law_reckoned) l20 c20 k20
  have m20 := PySem.W.mg_of X G a20
  have F21 := fun_mk (st := s__law_reckoned_all) l21 c21 k21
  have m21 := PySem.W.mg_of X G a21
  have F22 := fun_mk (st := s__law_same_values) l22 c22 k22
  have m22 := PySem.W.mg_of X G a22
  have F23 := fun_mk (st := s_law) l23 c23 k23
  have m23 := PySem.W.mg_of X G a23
  refine ⟨PySem.W.fnOf "law" "law" (defArgs s_law) (defBody s_law) (defScope s_law) .none kV23 dc23 pm23 an23 cd23 ct23, fun s v => .of_eq rfl, fun base _ _ => ?_⟩
  have c_operands_of := cal_of (N := []) m0 F0 (fun _ _ _ _ _ _ us hl => match us, hl with | [_], _ => rfl) (ok_operands (P := l.prog) (w := w) (base := base) F0)
  have c_cone_of := cal_ofD m1 k1 (F1.binds1 (ps := ["rows", "terms", "left_out"]) 2 0 (by simp) rfl (fun T kV doc pm an cdv ct us its hu hi => match us, its, hu, hi with | [_, _], [_], _, _ => ⟨_, rfl, rfl⟩)) (ok_cone (P := l.prog) (w := w) (base := base) F1 c_operands_of T.toTVal)
  have c_reckoning_width := cal_of (N := []) m2 F2 (fun _ _ _ _ _ _ us hl => match us, hl with | [_, _, _, _], _ => rfl) (ok_reck (P := l.prog) (w := w) (base := base) F2)
  have c__divided := cal_of (N := []) m7 F7 (fun _ _ _ _ _ _ us hl => match us, hl with | [_, _, _], _ => rfl) (ok_divided (P := l.prog) (w := w) (base := base) F7)
  have c__of_one := cal_of (N := []) m4 F4 (fun _ _ _ _ _ _ us hl => match us, hl with | [_, _], _ => rfl) (ok_of_one (P := l.prog) (w := w) (base := base) F4)
  have c__related := cal_of (N := []) m5 F5 (fun _ _ _ _ _ _ us hl => match us, hl with | [_, _, _], _ => rfl) (ok_related (P := l.prog) (w := w) (base := base) F5)
  have c__of_two := cal_of (N := []) m6 F6 (fun _ _ _ _ _ _ us hl => match us, hl with | [_, _, _, _], _ => rfl) (ok_of_two (P := l.prog) (w := w) (base := base) F6 c__divided)
  have c_result := cal_result (P := l.prog) (w := w) (base := base) F3 m3 c__of_one c__related c__of_two T.toTWord
  have c__value := cal_of (N := []) m10 F10 (fun _ _ _ _ _ _ us hl => match us, hl with | [_, _, _, _], _ => rfl) (ok_value (P := l.prog) (w := w) (base := base) F10 c_operands_of c_reckoning_width c_result T.toTVal)
  have c_values_of := cal_of (N := []) m9 F9 (fun _ _ _ _ _ _ us hl => match us, hl with | [_, _], _ => rfl) (ok_values (P := l.prog) (w := w) (base := base) F9 c__value T.toTVal)
  have c_value_of := cal_of (N := []) m8 F8 (fun _ _ _ _ _ _ us hl => match us, hl with | [_, _, _], _ => rfl) (ok_valueof (P := l.prog) (w := w) (base := base) F8 (fun H => .inr ⟨_, _, _, lL, rfl, rfl, Nat.le_of_ble_eq_true rfl, .nil⟩) c__value c_cone_of T.toTVal)
  have c__law_begin := cal_of (N := []) m11 F11 (fun _ _ _ _ _ _ us hl => match us, hl with | [_], _ => rfl) (ok_begin (P := l.prog) (w := w) (base := base) F11 T.toTDraw)
  have c__law_draw := cal_of (N := []) m12 F12 (fun _ _ _ _ _ _ us hl => match us, hl with | [_, _], _ => rfl) (ok_draw (P := l.prog) (w := w) (base := base) F12 T.toTDraw)
  have c__law_pick := cal_of (N := []) m13 F13 (fun _ _ _ _ _ _ us hl => match us, hl with | [_, _], _ => rfl) (ok_pick (P := l.prog) (w := w) (base := base) F13 c__law_draw T.toTDraw)
  have c__law_rare := cal_of (N := []) m14 F14 (fun _ _ _ _ _ _ us hl => match us, hl with | [_, _], _ => rfl) (ok_rare (P := l.prog) (w := w) (base := base) F14 c__law_draw)
  have c__law_is_int := cal_of (N := []) m15 F15 (fun _ _ _ _ _ _ us hl => match us, hl with | [_], _ => rfl) (ok_is_int (P := l.prog) (w := w) (base := base) F15 T)
  have c__law_ops := cal_of (N := []) m16 F16 (fun _ _ _ _ _ _ us hl => match us, hl with | [], _ => rfl) (ok_ops (P := l.prog) (w := w) (base := base) F16)
  have c__law_leaf_drawn := cal_of (N := []) m17 F17 (fun _ _ _ _ _ _ us hl => match us, hl with | [_, _], _ => rfl) (ok_leafd (P := l.prog) (w := w) (base := base) F17 c__law_draw c__law_pick T)
  have c__law_node_drawn := cal_of (N := []) m18 F18 (fun _ _ _ _ _ _ us hl => match us, hl with | [_, _], _ => rfl) (ok_noded (P := l.prog) (w := w) (base := base) F18 c__law_draw c__law_pick c__law_ops T)
  have c__law_sheet_drawn := cal_of (N := []) m19 F19 (fun _ _ _ _ _ _ us hl => match us, hl with | [_, _, _], _ => rfl) (ok_sheetd (P := l.prog) (w := w) (base := base) F19 c__law_draw c__law_pick c__law_leaf_drawn c__law_node_drawn T)
  have c__law_reckoned := cal_of (N := []) m20 F20 (fun _ _ _ _ _ _ us hl => match us, hl with | [_, _, _], _ => rfl) (ok_reckoned (P := l.prog) (w := w) (base := base) F20 T)
  have c__law_reckoned_all := cal_of (N := []) m21 F21 (fun _ _ _ _ _ _ us hl => match us, hl with | [_, _], _ => rfl) (ok_rall (P := l.prog) (w := w) (base := base) F21 c__law_reckoned T)
  have c__law_same_values := cal_of (N := []) m22 F22 (fun _ _ _ _ _ _ us hl => match us, hl with | [_, _], _ => rfl) (ok_samev (P := l.prog) (w := w) (base := base) F22 c__law_is_int T)
  exact ok_law F23 c__law_begin c__law_draw c__law_rare c__law_pick c__law_is_int c__law_sheet_drawn c__law_reckoned_all c__law_same_values c_values_of c_value_of T
theorem walk {l : PySem.W.OpenLaw} {q : Program} {loose : List Str} {XP : (Str → Option Value) → Heap → Prop} {YP : World → Heap → Prop} {d : DefRec} {K : Params → PySem.W.Frag} (hn : l.most = some 63) (hdf : d.params.defaults = [])
    (hY : ∀ (w : World) (h : Heap), YP w h → (K w.params).In h)
    (F : ∀ (w : World) (mg : Str → Option Value) (fa : Addr) (h : Heap), (K w.params).In h → h.Ns mainGlobals mg → mg d.name = some (.ref fa) →
      ∃ fd : FuncData, (∀ (s : Shared) (u : Value), BindsTo s fd ⟨[u], []⟩ [("_law_script", u)]) ∧ ∀ base : Heap, (K w.params).In base → base.Ns mainGlobals mg → FnOk l.prog w (K w.params) mg base CX0 6 fa fd ["_law_script"] (spLaw (K w.params))) :
    PySem.W.WalkO q loose XP YP l.row.toRowW d [] (fun f vs => PySem.call f vs) :=
  L2.walk_of (n := 63) (k := 6) (x := "_law_script") (CX := fun _ => CX0) (sp := fun w => spLaw (K w.params)) hn (by decide) hdf ⟨rfl, by decide, by decide⟩ hY F (fun _ _ a ns hl _ hS => ⟨a, ns, rfl, hS, hl, fun _ => rfl⟩) fun _ _ _ _ _ z => z
end Zn

open PySem PySem.W PyProof.Rows in
set_option maxRecDepth 100000 in
set_option maxHeartbeats 0 in
theorem PySem.Challenge.cw_metorshut_k30_values_holds : PySem.Challenge.rw_metorshut_k30_values.Holds := by
  w_on; o_law; k_head; (case hw => w_witness2)
  k_fill
  refine Zn.walk (l := PySem.Challenge.rw_metorshut_k30_values) rfl rfl (fun w h Y => PySem.W.kIn_of Y) ?F
  case F =>
    intro w mg fa h KX G hmg
    refine' Zn.all_mk KX G hmg ?a0 ?l0 ?c0 ?k0 ?a1 ?l1 ?c1 ?k1 ?a2 ?l2 ?c2 ?k2 ?a3 ?l3 ?c3 ?k3 ?a4 ?l4 ?c4 ?k4 ?a5 ?l5 ?c5 ?k5 ?a6 ?l6 ?c6 ?k6 ?a7 ?l7 ?c7 ?k7 ?a8 ?l8 ?c8 ?k8 ?a9 ?l9 ?c9 ?k9 ?a10 ?l10 ?c10 ?k10 ?a11 ?l11 ?c11 ?k11 ?a12 ?l12 ?c12 ?k12 ?a13 ?l13 ?c13 ?k13 ?a14 ?l14 ?c14 ?k14 ?a15 ?l15 ?c15 ?k15 ?a16 ?l16 ?c16 ?k16 ?a17 ?l17 ?c17 ?k17 ?a18 ?l18 ?c18 ?k18 ?a19 ?l19 ?c19 ?k19 ?a20 ?l20 ?c20 ?k20 ?a21 ?l21 ?c21 ?k21 ?a22 ?l22 ?c22 ?k22 ?a23 ?l23 ?c23 ?k23 ?gaR ?laR ?lT ?lL ?z_abs ?z_bool ?z_int ?z_isinstance ?z_len ?z_list ?z_max ?z_min ?z_range ?z_reversed ?z_sorted ?z_tuple ?z_zip
    (case a0 => k_is)
    (case l0 => k_is)
    (case c0 => k_is)
    (case k0 => k_is)
    (case a1 => k_is)
    (case l1 => k_is)
    (case c1 => k_is)
    (case k1 => k_is)
    (case a2 => k_is)
    (case l2 => k_is)
    (case c2 => k_is)
    (case k2 => k_is)
    (case a3 => k_is)
    (case l3 => k_is)
    (case c3 => k_is)
    (case k3 => k_is)
    (case a4 => k_is)
    (case l4 => k_is)
    (case c4 => k_is)
    (case k4 => k_is)
    (case a5 => k_is)
    (case l5 => k_is)
    (case c5 => k_is)
    (case k5 => k_is)
    (case a6 => k_is)
    (case l6 => k_is)
    (case c6 => k_is)
    (case k6 => k_is)
    (case a7 => k_is)
    (case l7 => k_is)
    (case c7 => k_is)
    (case k7 => k_is)
    (case a8 => k_is)
    (case l8 => k_is)
    (case c8 => k_is)
    (case k8 => k_is)
    (case a9 => k_is)
    (case l9 => k_is)
    (case c9 => k_is)
    (case k9 => k_is)
    (case a10 => k_is)
    (case l10 => k_is)
    (case c10 => k_is)
    (case k10 => k_is)
    (case a11 => k_is)
    (case l11 => k_is)
    (case c11 => k_is)
    (case k11 => k_is)
    (case a12 => k_is)
    (case l12 => k_is)
    (case c12 => k_is)
    (case k12 => k_is)
    (case a13 => k_is)
    (case l13 => k_is)
    (case c13 => k_is)
    (case k13 => k_is)
    (case a14 => k_is)
    (case l14 => k_is)
    (case c14 => k_is)
    (case k14 => k_is)
    (case a15 => k_is)
    (case l15 => k_is)
    (case c15 => k_is)
    (case k15 => k_is)
    (case a16 => k_is)
    (case l16 => k_is)
    (case c16 => k_is)
    (case k16 => k_is)
    (case a17 => k_is)
    (case l17 => k_is)
    (case c17 => k_is)
    (case k17 => k_is)
    (case a18 => k_is)
    (case l18 => k_is)
    (case c18 => k_is)
    (case k18 => k_is)
    (case a19 => k_is)
    (case l19 => k_is)
    (case c19 => k_is)
    (case k19 => k_is)
    (case a20 => k_is)
    (case l20 => k_is)
    (case c20 => k_is)
    (case k20 => k_is)
    (case a21 => k_is)
    (case l21 => k_is)
    (case c21 => k_is)
    (case k21 => k_is)
    (case a22 => k_is)
    (case l22 => k_is)
    (case c22 => k_is)
    (case k22 => k_is)
    (case a23 => k_is)
    (case l23 => k_is)
    (case c23 => k_is)
    (case k23 => k_is)
    (case gaR => k_is)
    (case laR => k_is)
    (case lT => k_is)
    (case lL => k_is)
    (case z_abs => k_is)
    (case z_bool => k_is)
    (case z_int => k_is)
    (case z_isinstance => k_is)
    (case z_len => k_is)
    (case z_list => k_is)
    (case z_max => k_is)
    (case z_min => k_is)
    (case z_range => k_is)
    (case z_reversed => k_is)
    (case z_sorted => k_is)
    (case z_tuple => k_is)
    (case z_zip => k_is)
#print axioms PySem.Challenge.cw_metorshut_k30_values_holds
