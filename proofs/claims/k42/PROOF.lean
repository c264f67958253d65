import PyProof.Rows.All
import Wide.All
import OpenK.AllK
import Wide.FinOn
import HandS.ForMost
import HandS.More
import HandS.Star
import HandS.IsInst
import HandS.TupAny
import HandS.Text
import HandS.Iter
import HandS.Zip
import HandS.Walk
import PySem.Challenge.RW_metorshut_k42_multipliers_judged
set_option Elab.async false
set_option linter.all false
set_option maxRecDepth 100000
set_option maxHeartbeats 4000000
/-! my own layer over the modules: what a reading asks, taken step by step; callees by name -/
namespace Zn
open PySem PySem.Spec PyProof.Rows L2

section
variable {σ : L2.St} {H : Hp} {K : PySem.W.Frag} {Q : VK} {ta tb te tl : TE} {t u c : TT} {D : Ends} {t1 t2 : TS} {g : TG} {i : Nat} {v x y : V} {r : R2} {tr : TA}
theorem r_var (h : σ[i]? = some (some v)) (q : Q v H) : tVar i σ H Q := ⟨v, h, q⟩
theorem r_c (q : Q v H) : tC v σ H Q := q
theorem r_op (q : ta σ H fun x H1 => tb σ H1 fun y H2 => r x y H2 Q) : tOp r ta tb σ H Q := q
theorem r_un {f : V → Hp → VK → Prop} (q : ta σ H fun x H1 => f x H1 Q) : tUn f ta σ H Q := q
theorem r_test {Q : Bool → Hp → Prop} (q : te σ H fun x H' => ∃ k, x = .bl k ∧ Q k H') : tTest te σ H Q := q
theorem r_B {Q : Bool → Hp → Prop} (q : te σ H fun x H' => ∃ k, x = .bl k ∧ Q k H') : tB te σ H Q := q
theorem r_bl {b : Bool} {R : Bool → Prop} (q : R b) : ∃ k, V.bl b = V.bl k ∧ R k := ⟨b, rfl, q⟩
theorem r_I0 {g : Int → Int → V} {i j : Int} (q : Q (g i j) H) : rI0 g (.int i) (.int j) H Q := ⟨i, j, rfl, rfl, q⟩
theorem r_I {C : Int → Int → Prop} {g : Int → Int → V} {i j : Int} (h : C i j) (q : Q (g i j) H) : rI C g (.int i) (.int j) H Q := ⟨i, j, rfl, rfl, h, q⟩
theorem r_U {g : Int → V} {i : Int} (q : Q (g i) H) : rU g (.int i) H Q := ⟨i, rfl, q⟩
theorem r_ipI {f : Int → Int → Int} {i j : Int} (q : Q (.int (f i j)) H) : ipI f (.int i) (.int j) H Q := ⟨i, j, rfl, rfl, q⟩
theorem r_eq (h : scal x y = true) (q : Q (.bl (decide (x = y))) H) : rEq x y H Q := ⟨h, q⟩
theorem r_ne (h : scal x y = true) (q : Q (.bl (!decide (x = y))) H) : rNe x y H Q := ⟨h, q⟩
theorem r_seq (q : t1 { D with nx := t2 D } σ H) : tSeq t1 t2 D σ H := q
theorem r_asg (q : te σ H fun x H1 => g x σ H1 D.nx) : tAsg te g D σ H := q
theorem r_gname {Q : L2.St → Hp → Prop} (q : Q (σ.set i (some v)) H) : gName i v σ H Q := q
theorem r_gsub {to ti : TE} {s : TSet} {Q : L2.St → Hp → Prop} (q : to σ H fun o H1 => ti σ H1 fun i H2 => s o i v H2 fun H3 => Q σ H3) : gSub to ti s v σ H Q := q
theorem r_setL {p : Addr} {xs : List V} {k : Int} {j : Nat} {Q : Hp → Prop} (h : H p = some (.lst xs)) (e : ixN xs.length k = some j) (q : Q (upd H p (.lst (xs.set j v)))) : rSetL (.ref p) (.int k) v H Q := ⟨p, xs, k, j, rfl, rfl, h, e, q⟩
theorem r_ret (q : te σ H D.rt) : tRet te D σ H := q
theorem r_next (q : D.nx σ H) : tNext D σ H := q
theorem r_drop (q : te σ H fun _ H1 => D.nx σ H1) : tDrop te D σ H := q
theorem r_ifs (q : c σ H fun b H1 => if b = true then t1 D σ H1 else t2 D σ H1) : tIfS c t1 t2 D σ H := q
theorem r_if (q : t σ H fun c H1 => if c = true then ta σ H1 Q else tb σ H1 Q) : tIf t ta tb σ H Q := q
theorem r_cons {Q : List V → Hp → Prop} (q : ta σ H fun x H1 => tr σ H1 fun xs H2 => Q (x :: xs) H2) : tCons ta tr σ H Q := q
theorem r_nil {Q : List V → Hp → Prop} (q : Q [] H) : tNil σ H Q := q
theorem r_CB {f : List V → Hp → VK → Prop} (q : tr σ H fun vs H1 => f vs H1 Q) : tCB f tr σ H Q := q
theorem r_and {Q : Bool → Hp → Prop} (q : t σ H fun c H1 => if c = true then u σ H1 Q else Q false H1) : tAnd t u σ H Q := q
theorem r_or {Q : Bool → Hp → Prop} (q : t σ H fun c H1 => if c = true then Q true H1 else u σ H1 Q) : tOr t u σ H Q := q
theorem r_not {Q : Bool → Hp → Prop} (q : t σ H fun c H1 => Q (!c) H1) : tNot t σ H Q := q
theorem r_notV {b : Bool} (q : ta σ H fun x H1 => ∃ c, x = .bl c ∧ Q (.bl (!c)) H1) : tNotV ta σ H Q := q
theorem r_andV (q : ta σ H fun x H1 => ∃ c, x = .bl c ∧ if c = true then tb σ H1 Q else Q (.bl false) H1) : tAndV ta tb σ H Q := q
theorem r_orV (q : ta σ H fun x H1 => ∃ c, x = .bl c ∧ if c = true then Q (.bl true) H1 else tb σ H1 Q) : tOrV ta tb σ H Q := q
theorem r_notV' (q : ta σ H fun x H1 => ∃ c, x = .bl c ∧ Q (.bl (!c)) H1) : tNotV ta σ H Q := q
theorem r_ixL {p : Addr} {xs : List V} {i : Int} (h : SqL K H p xs) (e : atI xs i = some v) (q : Q v H) : rIxL K (.ref p) (.int i) H Q := ⟨p, xs, i, v, rfl, rfl, h, e, q⟩
theorem r_ixT {p : Addr} {xs : List V} {i : Int} (h : SqT K H p xs) (e : atI xs i = some v) (q : Q v H) : rIxT K (.ref p) (.int i) H Q := ⟨p, xs, i, v, rfl, rfl, h, e, q⟩
theorem r_in {neg : Bool} {p : Addr} {xs : List V} (h : SqL K H p xs ∨ SqT K H p xs) (e1 : flatV x = true) (e2 : xs.all flatV = true) (q : Q (.bl (if neg then !inV x xs else inV x xs)) H) : rIn K neg x (.ref p) H Q := ⟨p, xs, rfl, h, e1, e2, q⟩
theorem r_tup {xs : List V} {R : VK} (h : xs.length ≤ sizeLine) (q : ∀ p, H p = none → R (.ref p) (upd H p (.tup xs))) : xs.length ≤ sizeLine ∧ ∀ p, H p = none → R (.ref p) (upd H p (.tup xs)) := ⟨h, q⟩
theorem r_tTup (q : tr σ H fun xs H1 => xs.length ≤ sizeLine ∧ ∀ p, H1 p = none → Q (.ref p) (upd H1 p (.tup xs))) : tTup tr σ H Q := q
theorem r_tLst (q : tr σ H fun xs H1 => xs.length ≤ sizeLine ∧ ∀ p, H1 p = none → Q (.ref p) (upd H1 p (.lst xs))) : tLst tr σ H Q := q
theorem r_one {i : Int} {R : Int → Prop} (q : R i) : ∃ j, [V.int i] = [V.int j] ∧ R j := ⟨i, rfl, q⟩
theorem r_int1 {i : Int} {R : Int → Prop} {B : Bool → Prop} (q : R i) : (∃ j, [V.int i] = [V.int j] ∧ R j) ∨ ∃ k, [V.int i] = [V.bl k] ∧ B k := .inl ⟨i, rfl, q⟩
theorem r_int1b {b : Bool} {R : Int → Prop} {B : Bool → Prop} (q : B b) : (∃ j, [V.bl b] = [V.int j] ∧ R j) ∨ ∃ k, [V.bl b] = [V.bl k] ∧ B k := .inr ⟨b, rfl, q⟩
theorem r_aug {ti : TIp} (h : σ[i]? = some (some v)) (q : te σ H fun y H1 => ti v y H1 fun z H2 => D.nx (σ.set i (some z)) H2) : tAug i te ti D σ H := ⟨v, h, q⟩
theorem r_augS {to ti : TE} {tget : V → V → Hp → VK → Prop} {tip : TIp} {tset : TSet} (q : to σ H fun o H1 => ti σ H1 fun i H2 => tget o i H2 fun x H3 => te σ H3 fun y H4 => tip x y H4 fun z H5 => tset o i z H5 fun H6 => D.nx σ H6) : tAugS to ti te tget tip tset D σ H := q
theorem r_BM {T : String} {f : V → List V → Hp → VK → Prop} (q : ta σ H fun x H1 => tyV K T x H1 ∧ tr σ H1 fun xs H2 => f x xs H2 Q) : tBM K T f ta tr σ H Q := q
theorem r_BM0 {T : String} {f : V → List V → Hp → VK → Prop} (q : ta σ H fun x H1 => tyV K T x H1 ∧ f x [] H1 Q) : tBM0 K T f ta σ H Q := q
theorem r_tupd {a : Addr} {xs : List V} {n : Nat} {ts : TGs} {Q : L2.St → Hp → Prop} (h : SqT K H a xs) (e : xs.length = n) (q : ts xs σ H Q) : gTup K n ts (.ref a) σ H Q := ⟨a, xs, rfl, h, e, q⟩
theorem r_gcons {ts : TGs} {vs : List V} {Q : L2.St → Hp → Prop} (q : g v σ H fun σ' H' => ts vs σ' H' Q) : gCons g ts (v :: vs) σ H Q := ⟨v, vs, rfl, q⟩
theorem r_gnil {Q : L2.St → Hp → Prop} (q : Q σ H) : gNil [] σ H Q := ⟨rfl, q⟩
theorem r_par {j : Nat} {ta : TA} (q : ta σ H fun vs H1 => ∃ v w, vs = [v, w] ∧ D.nx ((σ.set i (some v)).set j (some w)) H1) : tPar i j ta D σ H := q
theorem r_len {p : Addr} {xs : List V} {R : List V → Prop} (h : SqL K H p xs ∨ SqT K H p xs) (q : R xs) : ∃ p' ys, [V.ref p] = [V.ref p'] ∧ (SqL K H p' ys ∨ SqT K H p' ys) ∧ R ys := ⟨p, xs, rfl, h, q⟩
theorem r_yes {Q : Bool → Hp → Prop} (q : Q true H) : tYes σ H Q := q
theorem sl_of {a : Addr} {xs : List V} (h : H a = some (.lst xs)) : SqL K H a xs := .inl (.inl h)
theorem st_of {a : Addr} {xs : List V} (h : H a = some (.tup xs)) : SqT K H a xs := .inl (.inl h)
end
theorem same_new' {H : Hp} {p : Addr} {o : HO} (h : H p = none) : Same H (upd H p o) := fun b x e => by
  rw [upd_ne (ne_of_none e h)]
  exact e
theorem r_iteT {c : Prop} [Decidable c] {A B : Prop} (h : c) (q : A) : if c then A else B := by
  rw [if_pos h]
  exact q
theorem r_iteF {c : Prop} [Decidable c] {A B : Prop} (h : ¬ c) (q : B) : if c then A else B := by
  rw [if_neg h]
  exact q
section
variable {σ : L2.St} {H : Hp} {K : PySem.W.Frag} {Q : VK} {ta tb te tl : TE} {t u c : TT} {D : Ends} {t1 t2 : TS} {g : TG} {i : Nat} {v x y : V} {r : R2} {tr : TA}
theorem r_tupN {xs : List V} {R : V → Hp → Prop} (h : xs.length ≤ sizeLine) (q : ∀ p, H p = none → R (.ref p) (upd H p (.tup xs))) : xs.length ≤ sizeLine ∧ ∀ p, H p = none → R (.ref p) (upd H p (.tup xs)) := ⟨h, q⟩
theorem r_two {v w : V} {R : V → V → Prop} (q : R v w) : ∃ a b, [v, w] = [a, b] ∧ R a b := ⟨v, w, rfl, q⟩
theorem r_twoI {i j : Int} {R : Int → Int → Prop} (q : R i j) : ∃ a b, [V.int i, V.int j] = [V.int a, V.int b] ∧ R a b := ⟨i, j, rfl, q⟩
theorem r_for {wi : TI} {tb : TS} (q : wi σ H fun J H1 => ∃ W : Nat → Nat → L2.St → Hp → Prop, (∃ m, W 0 m σ H1) ∧ ∀ i m σ H, W i m σ H → (J.stop i H ∧ D.nx σ H) ∨ (J.go i H ∧ ∃ N : L2.St → Hp → Prop, (∀ σ' H', N σ' H' → ∃ m', m' < m ∧ W (i + 1) m' σ' H') ∧ ∀ x H', J.yld i H x H' → g x σ H' fun σ2 H2 => tb { D with nx := N, ct := N, bk := D.nx } σ2 H2)) : tFor wi g tb D σ H := q
theorem r_rng1 {R : It → Hp → Prop} (q : tr σ H fun vs H1 => ∃ j : Int, vs = [.int j] ∧ -(2 ^ 62) ≤ j ∧ j < 2 ^ 62 ∧ R (Itr 0 j.toNat) H1) : iRng1 tr σ H R := q
theorem r_rng {j : Int} {R : Int → Prop} (h1 : -(2 ^ 62) ≤ j) (h2 : j < 2 ^ 62) (q : R j) : ∃ k : Int, [V.int j] = [V.int k] ∧ -(2 ^ 62) ≤ k ∧ k < 2 ^ 62 ∧ R k := ⟨j, rfl, h1, h2, q⟩
theorem r_lc {wi : TI} {te : TE} {vs : List Nat}
    (q : wi σ H fun J H1 => ∀ A, H1 A = none → ∃ Z : Nat → Nat → Hp → Prop, (∃ m, Z 0 m (upd H1 A (.lst [])))
      ∧ ∀ j m H, Z j m H → (J.stop j H ∧ Q (.ref A) H)
        ∨ (J.go j H ∧ ∃ Y : Hp → Prop, (∀ H', Y H' → ∃ m', m' < m ∧ Z (j + 1) m' H')
          ∧ ∀ x H', J.yld j H x H' → g x (wipe σ vs) H' fun σ2 H2 => wipe σ2 vs = wipe σ vs
            ∧ t σ2 H2 fun b H3 =>
              if b = true then te σ2 H3 fun y H4 => ∃ l, H4 A = some (.lst l) ∧ l.length < sizeLine ∧ Y (upd H4 A (.lst (l ++ [y])))
              else Y H3)) : tLc wi g t te vs σ H Q := q
theorem r_ilist {R : It → Hp → Prop} (q : tl σ H fun x H1 => ∃ a, x = .ref a ∧ (∃ xs, SqL K H1 a xs) ∧ R (Itl K a) H1) : iList K tl σ H R := q
theorem r_itup {R : It → Hp → Prop} (q : tl σ H fun x H1 => ∃ a, x = .ref a ∧ (∃ xs, SqT K H1 a xs) ∧ R (Itt K a) H1) : iTup K tl σ H R := q
theorem r_ref {p : Addr} {A R : Addr → Prop} (h : A p) (q : R p) : ∃ a, V.ref p = V.ref a ∧ A a ∧ R a := ⟨p, rfl, h, q⟩
theorem r_tyL {p : Addr} {xs : List V} {R : Prop} (h : SqL K H p xs) (q : R) : tyV K "list" (.ref p) H ∧ R := ⟨.inl ⟨rfl, _, h⟩, q⟩
theorem r_tyS {s : Str} {R : Prop} (q : R) : tyV K "str" (.str s) H ∧ R := ⟨rfl, q⟩
theorem r_append {p : Addr} {xs : List V} {y : V} (h : H p = some (.lst xs)) (e : xs.length < sizeLine) (q : Q .non (upd H p (.lst (xs ++ [y])))) : rAppend (.ref p) [y] H Q := ⟨p, xs, y, rfl, rfl, h, e, q⟩
theorem r_extend {p b : Addr} {xs zs : List V} (h : H p = some (.lst xs)) (hb : H b = some (.lst zs)) (e : xs.length + zs.length ≤ sizeLine) (q : Q .non (upd H p (.lst (xs ++ zs)))) : rExtend (.ref p) [.ref b] H Q := ⟨p, b, xs, zs, rfl, rfl, h, hb, e, q⟩
theorem r_popAt {p : Addr} {xs : List V} {i : Int} {y : V} (h : H p = some (.lst xs)) (h0 : 0 ≤ i) (h1 : i < (xs.length : Int)) (h2 : xs.length ≤ 1000000) (hy : xs[i.toNat]? = some y) (q : Q y (upd H p (.lst (xs.eraseIdx i.toNat)))) : rPopAt (.ref p) [.int i] H Q :=
  ⟨p, xs, i, i.toNat, y, rfl, rfl, h, by omega, by omega, seqIndex_of h0 h1, hy, q⟩
theorem r_cat {p b : Addr} {xs zs : List V} (h : H p = some (.lst xs)) (hb : H b = some (.lst zs)) (e : xs.length + zs.length ≤ sizeLine) (q : ∀ c, H c = none → Q (.ref c) (upd H c (.lst (xs ++ zs)))) : rCat (.ref p) (.ref b) H Q := ⟨p, b, xs, zs, rfl, rfl, h, hb, e, q⟩
theorem r_isi {x c : V} {t u : Value} {b : Bool} (hc : ClsV c u) (ht : TyX K H x t) (hk : PySem.W.kitOne K t u = some b) (q : Q (.bl b) H) : rIsi K [x, c] H Q := ⟨x, c, t, u, b, rfl, hc, ht, hk, q⟩
theorem r_catA {p b : Addr} {xs ys : List V} (h1 : SqT K H p xs) (h2 : SqT K H b ys) (q : rCatA K (.ref p) (.ref b) H Q) : rCatA K (.ref p) (.ref b) H Q := q
theorem at_new {p a : Addr} {o u : HO} (hp : H p = none) (h : H a = some u) : upd H p o a = some u := same_new' hp _ _ h
theorem r_listOf {p : Addr} {xs : List V} {R : V → Hp → Prop} (h : SqL K H p xs ∨ SqT K H p xs) (q : ∀ l, H l = none → R (.ref l) (upd H l (.lst xs))) : ∃ p' ys, [V.ref p] = [V.ref p'] ∧ (SqL K H p' ys ∨ SqT K H p' ys) ∧ ∀ l, H l = none → R (.ref l) (upd H l (.lst ys)) := ⟨p, xs, rfl, h, q⟩
theorem r_slL {p : Addr} {xs : List V} {lo hi : Option Int} (h : SqL K H p xs) (q : ∀ l, H l = none → Q (.ref l) (upd H l (.lst (cutV xs lo hi)))) : rSlL K (.ref p) lo hi H Q := ⟨p, xs, rfl, h, q⟩
theorem r_sl {f : V → Option Int → Option Int → Hp → VK → Prop} {tlo thi : TO} (q : te σ H fun x H1 => tlo σ H1 fun l H2 => thi σ H2 fun u H3 => f x l u H3 Q) : tSl f te tlo thi σ H Q := q
theorem r_noP {Q : Option Int → Hp → Prop} (q : Q none H) : tNoPart σ H Q := q
theorem r_part {Q : Option Int → Hp → Prop} (q : te σ H fun x H1 => ∃ i, x = .int i ∧ Q (some i) H1) : tPart te σ H Q := q
theorem r_eI {i : Int} {R : Int → Prop} (q : R i) : ∃ j, V.int i = V.int j ∧ R j := ⟨i, rfl, q⟩
end
theorem len_ok {n : Nat} (h : n ≤ 100000) : n ≤ sizeLine := Nat.le_trans h (by decide)
theorem r_al {n : Nat} {H : Hp} {R : Addr → Prop} (h : n ≤ sizeLine) (q : ∀ p, H p = none → R p) : n ≤ sizeLine ∧ ∀ p, H p = none → R p := ⟨h, q⟩
theorem pow2_pos (n : Nat) : (0 : Int) < 1 * 2 ^ n := by
  rw [Int.one_mul]
  exact Int.pow_pos (by decide)
theorem mulR {i j : Int} (h1 : -(2 ^ 64) < j) (h2 : j < 2 ^ 64) : CMul i j := .inr ⟨h1, h2⟩
theorem mulL {i j : Int} (h1 : -(2 ^ 64) < i) (h2 : i < 2 ^ 64) : CMul i j := .inl ⟨h1, h2⟩

/-! ### loops, what follows and what is handed back told apart -/
section
variable {K : PySem.W.Frag} {a : Addr} {xs : List V} {g : TG} {tb : TS} {nx : L2.St → Hp → Prop} {rt : VK} {σ : L2.St} {H : Hp}
theorem fl (Pv : Nat → L2.St → Hp → Prop) (h0 : Pv 0 σ H) (hl : ∀ i σ H, i ≤ xs.length → Pv i σ H → SqL K H a xs)
    (hs : ∀ i x σ H, xs[i]? = some x → Pv i σ H → g x σ H fun σ2 H2 => tb { nx := Pv (i + 1), rt := rt, bk := nx, ct := Pv (i + 1) } σ2 H2) (hd : ∀ σ H, Pv xs.length σ H → nx σ H) :
    ∃ W : Nat → Nat → L2.St → Hp → Prop, (∃ m, W 0 m σ H) ∧ ∀ i m σ H, W i m σ H →
      ((Itl K a).stop i H ∧ nx σ H) ∨ ((Itl K a).go i H ∧ ∃ N : L2.St → Hp → Prop, (∀ σ' H', N σ' H' → ∃ m', m' < m ∧ W (i + 1) m' σ' H') ∧ ∀ x H', (Itl K a).yld i H x H' → g x σ H' fun σ2 H2 => tb { nx := N, rt := rt, bk := nx, ct := N } σ2 H2) :=
  for_list (D := { nx := nx, rt := rt, bk := nx, ct := nx }) Pv h0 hl hs hd
theorem ft (Pv : Nat → L2.St → Hp → Prop) (h0 : Pv 0 σ H) (hl : ∀ i σ H, i ≤ xs.length → Pv i σ H → SqT K H a xs)
    (hs : ∀ i x σ H, xs[i]? = some x → Pv i σ H → g x σ H fun σ2 H2 => tb { nx := Pv (i + 1), rt := rt, bk := nx, ct := Pv (i + 1) } σ2 H2) (hd : ∀ σ H, Pv xs.length σ H → nx σ H) :
    ∃ W : Nat → Nat → L2.St → Hp → Prop, (∃ m, W 0 m σ H) ∧ ∀ i m σ H, W i m σ H →
      ((Itt K a).stop i H ∧ nx σ H) ∨ ((Itt K a).go i H ∧ ∃ N : L2.St → Hp → Prop, (∀ σ' H', N σ' H' → ∃ m', m' < m ∧ W (i + 1) m' σ' H') ∧ ∀ x H', (Itt K a).yld i H x H' → g x σ H' fun σ2 H2 => tb { nx := N, rt := rt, bk := nx, ct := N } σ2 H2) :=
  for_tup (D := { nx := nx, rt := rt, bk := nx, ct := nx }) Pv h0 hl hs hd
theorem fr {lo : Int} {n : Nat} (Pv : Nat → L2.St → Hp → Prop) (h0 : Pv 0 σ H)
    (hs : ∀ i σ H, i < n → Pv i σ H → g (.int (lo + i)) σ H fun σ2 H2 => tb { nx := Pv (i + 1), rt := rt, bk := nx, ct := Pv (i + 1) } σ2 H2) (hd : ∀ σ H, Pv n σ H → nx σ H) :
    ∃ W : Nat → Nat → L2.St → Hp → Prop, (∃ m, W 0 m σ H) ∧ ∀ i m σ H, W i m σ H →
      ((Itr lo n).stop i H ∧ nx σ H) ∨ ((Itr lo n).go i H ∧ ∃ N : L2.St → Hp → Prop, (∀ σ' H', N σ' H' → ∃ m', m' < m ∧ W (i + 1) m' σ' H') ∧ ∀ x H', (Itr lo n).yld i H x H' → g x σ H' fun σ2 H2 => tb { nx := N, rt := rt, bk := nx, ct := N } σ2 H2) :=
  for_range (D := { nx := nx, rt := rt, bk := nx, ct := nx }) Pv h0 hs hd
end
/-! ### lists of any values read by a written place -/
theorem atI_lt {xs : List V} {i : Int} {v : V} {j : Nat} (e : i = (j : Int)) (h : xs[j]? = some v) : atI xs i = some v := by
  rw [e]
  exact atI_nat h
/-- o[i] of a list, for o[i] op= e -/
theorem pget_list {X : Cx} : PGet X (rIxL X.K) := by
  intro pins s σ H o i ov iv Q I ro ri h
  obtain ⟨p, xs, k, z, rfl, rfl, hq, he, q⟩ := h
  cases ro
  obtain ⟨t, rfl⟩ := ri
  obtain ⟨its, r, pl, hz⟩ := I.list hq
  obtain ⟨j, h1, h2, h3, h4, h5⟩ := atI_get he
  obtain ⟨w, ew, rw'⟩ := r.get h2
  have hl := r.length
  have hn := line63
  have fin : EP X pins σ Q w s := ⟨z, H, I, rw', q⟩
  by_cases h0 : 0 ≤ k
  · have hj : k.toNat = j := by
      rw [seqIndex_of h0 h5] at h1
      exact Option.some.inj h1
    exact wpAny_getItem_list pl.isList h0 (by omega) (by rw [hj]; simpa using ew) fin
  · have hj : (k + (its.toArray.size : Int)).toNat = j := by
      rw [seqIndex_neg (by omega) h4] at h1
      rw [List.size_toArray, ← hl]
      exact Option.some.inj h1
    exact wpAny_getItem_list_neg pl.isList (by omega) (by rw [List.size_toArray] <;> omega) (by omega) (by rw [hj]; simpa using ew) fin

/-! ### a def of the module, by its name -/
def Cal (P : Program) (w : World) (K : PySem.W.Frag) (mg : Str → Option Value) (base : Heap) (x : Str) (k : Nat) (sp : Sp) : Prop :=
  ∃ f, mg x = some (.ref f) ∧ FnR P w K mg base CX0 k f sp ∧ PySem.W.keepIn K (.ref f) = true
section
variable {P : Program} {w : World} {K : PySem.W.Frag} {mg : Str → Option Value} {base : Heap}
def tCal (sp : Sp) (t : TA) : TE := fun σ H Q => t σ H fun vs H1 => sp vs H1 Q E0
theorem pe_cal {X : Cx} {x : Str} {k : Nat} {sp : Sp} {e : Expr} {es : List Expr} {t : TA} {p pos : Pos} (C : Cal X.prog X.w X.K X.mg X.base x k sp) (hr : Room k X.A) (hg : Gl X x) (ha : PA X (e :: es) t)
    (hdb : (x == ("__debug__" : Str)) = false := by decide) (he : starEach (e :: es) X.env = (false, eval e X.env) :: starEach es X.env := by rfl)
    (hpl : (backTo pos (starEach es X.env)).any (·.1) = false := by rfl) : PE X (.Call (.Name x p) (e :: es) [] pos) (tCal sp t) := by
  obtain ⟨f, hm, F, hk⟩ := C
  refine ⟨fun pins s σ H Q I h => ?_⟩
  refine wpAny_Call_Name_kw (ld_glob I hg hm ?_ hdb)
  refine PySem.W.callWith_K (h₀ := X.base) I.ok.mod.kin hk (thn (ha.run pos pins s σ H _ I h) fun us s1 ⟨vs, H1, I1, r, q⟩ => ⟨I1.kIn, ?_⟩) he hpl
  exact wpAny_call (run_fnR F hr pass0 I1 r q)
theorem pe_cal0 {X : Cx} {x : Str} {k : Nat} {sp : Sp} {p pos : Pos} (C : Cal X.prog X.w X.K X.mg X.base x k sp) (hr : Room k X.A) (hg : Gl X x)
    (hdb : (x == ("__debug__" : Str)) = false := by decide) : PE X (.Call (.Name x p) [] [] pos) (tCal sp tNil) := by
  obtain ⟨f, hm, F, hk⟩ := C
  refine ⟨fun pins s σ H Q I h => ?_⟩
  refine wpAny_Call_Name_kw (ld_glob I hg hm ?_ hdb)
  exact PySem.W.callWith_K0 I.kIn hk (wpAny_call (run_fnR (us := []) F hr pass0 I .nil h))
theorem r_cal {sp : Sp} {t : TA} {σ : L2.St} {H : Hp} {Q : VK} (q : t σ H fun vs H1 => sp vs H1 Q E0) : tCal sp t σ H Q := q
/-- from a def of the text to its call -/
theorem cal_of {x : Str} {st : Stmt} {f : Addr} {fd : FuncData} {N ps : List Str} {k : Nat} {sp : Sp} (hm : mg x = some (.ref f)) (F : Fun K x x st f fd)
    (hb : ∀ (kV doc pm : Value) (an : Option Addr) (cdv ct : Value) (us : List Value), us.length = ps.length → bindArgs (PySem.W.fnOf x x (defArgs st) (defBody st) (defScope st) .none kV doc pm an cdv ct) ⟨us, []⟩ = pure (ps.zip us))
    (G : FnOk P w K mg base CX0 k f fd ps sp) : Cal P w K mg base x k sp := by
  refine ⟨f, hm, ?_, F.kp⟩
  refine (G.raw (F.binds hb) .nil).imp fun vs H Q E h => ?_
  show sp (vs ++ []) H Q E
  rw [List.append_nil]
  exact h
end
/-! ### heaps -/
theorem same_new {H : Hp} {p : Addr} {o : HO} (h : H p = none) : Same H (upd H p o) := fun b x e => by
  rw [upd_ne (ne_of_none e h)]
  exact e
/-- all but what stands at d is as it was -/
def Keep (d : Addr) (H H' : Hp) : Prop := ∀ b o, b ≠ d → H b = some o → H' b = some o
theorem Keep.refl (d : Addr) (H : Hp) : Keep d H H := fun _ _ _ h => h
theorem Keep.trans {d : Addr} {H H1 H2 : Hp} (a : Keep d H H1) (b : Keep d H1 H2) : Keep d H H2 := fun c o n h => b c o n (a c o n h)
theorem Same.keep {d : Addr} {H H1 : Hp} (a : Same H H1) : Keep d H H1 := fun c o _ h => a c o h
theorem keep_upd {d : Addr} {H : Hp} {o : HO} : Keep d H (upd H d o) := fun b x n e => by
  rw [upd_ne n]
  exact e
theorem Keep.seq {K : PySem.W.Frag} {d : Addr} {H H' : Hp} {a : Addr} {xs : List V} (e : Keep d H H') (n : a ≠ d) (h : SqL K H a xs) : SqL K H' a xs := by
  rcases h with (h | ⟨o, h⟩) | h
  · exact .inl (.inl (e _ _ n h))
  · exact .inl (.inr ⟨o, e _ _ n h⟩)
  · exact .inr h
end Zn
namespace Zn
open PySem
def topS (i : Nat) : Stmt := PySem.Challenge.pw_metorshut_k42_multipliers_judged.main.body.getD i (.Pass ⟨0, 0, 0, 0⟩)
end Zn
local macro_rules | `(tactic| walk_at "fd") => `(tactic| (repeat (first | assumption | exact L2.upd_same | refine' Zn.at_new (by assumption) ?_)))
local macro_rules | `(tactic| walk_at "sm") => `(tactic| (repeat (first | assumption | exact L2.Same.refl _ | refine L2.Same.trans ?_ (Zn.same_new (by assumption)))))

local macro_rules | `(tactic| walk_at "rd1") => `(tactic| first
  | (with_reducible refine Zn.r_seq ?_)
  | (with_reducible refine Zn.r_asg ?_)
  | (with_reducible refine Zn.r_ret ?_)
  | (with_reducible refine Zn.r_ifs ?_)
  | (with_reducible refine Zn.r_test ?_)
  | (with_reducible refine Zn.r_op ?_)
  | ((with_reducible refine' Zn.r_var ?hv ?_); (case hv => exact rfl))
  | (with_reducible refine Zn.r_c ?_)
  | (with_reducible refine Zn.r_gname ?_)
  | (with_reducible refine Zn.r_I0 ?_)
  | (with_reducible refine Zn.r_bl ?_)
  | ((with_reducible refine Zn.r_eq ?hs ?_); (case hs => exact rfl))
  | ((with_reducible refine Zn.r_ne ?hs ?_); (case hs => exact rfl))
  | (with_reducible refine Zn.r_CB ?_)
  | (with_reducible refine Zn.r_cal ?_)
  | (with_reducible refine Zn.r_cons ?_)
  | (with_reducible refine Zn.r_nil ?_)
  | (with_reducible refine Zn.r_tTup ?_)
  | (with_reducible refine Zn.r_tLst ?_)
  | (with_reducible refine Zn.r_B ?_)
  | (with_reducible refine Zn.r_if ?_)
  | (with_reducible refine Zn.r_un ?_)
  | (with_reducible refine Zn.r_U ?_)
  | (with_reducible refine Zn.r_int1 ?_)
  | (with_reducible refine Zn.r_int1b ?_)
  | (with_reducible refine Zn.r_one ?_)
  | (with_reducible refine Zn.r_gsub ?_)
  | ((with_reducible refine' Zn.r_aug ?hv ?_); (case hv => exact rfl))
  | (with_reducible refine Zn.r_augS ?_)
  | (with_reducible refine Zn.r_ipI ?_)
  | (with_reducible refine Zn.r_and ?_)
  | (with_reducible refine Zn.r_or ?_)
  | (with_reducible refine Zn.r_not ?_)
  | (with_reducible refine Zn.r_andV ?_)
  | (with_reducible refine Zn.r_orV ?_)
  | (with_reducible refine Zn.r_notV' ?_)
  | (with_reducible refine Zn.r_BM ?_)
  | (with_reducible refine Zn.r_BM0 ?_)
  | (with_reducible refine Zn.r_par ?_)
  | (with_reducible refine Zn.r_gcons ?_)
  | (with_reducible refine Zn.r_gnil ?_)
  | (with_reducible refine Zn.r_drop ?_)
  | (with_reducible refine Zn.r_yes ?_)
  | ((with_reducible refine' Zn.r_len ?h ?_); (case h => first | exact .inl (Zn.sl_of (by assumption)) | exact .inr (Zn.st_of (by assumption)) | exact .inl (by assumption) | exact .inr (by assumption)))
  | (with_reducible refine Zn.r_for ?_)
  | (with_reducible refine Zn.r_lc ?_)
  | (with_reducible refine Zn.r_rng1 ?_)
  | (with_reducible refine Zn.r_ilist ?_)
  | (with_reducible refine Zn.r_itup ?_)
  | (with_reducible refine Zn.r_two ?_)
  | (with_reducible refine Zn.r_twoI ?_)
  | (with_reducible refine Zn.r_sl ?_)
  | (with_reducible refine Zn.r_noP ?_)
  | (with_reducible refine Zn.r_part ?_)
  | (with_reducible refine Zn.r_eI ?_)
  | (with_reducible refine Zn.r_tyS ?_)
  | ((with_reducible refine' Zn.r_tyL ?h ?_); (case h => first | exact Zn.sl_of (by walk_at "fd") | assumption))
  | ((with_reducible refine Zn.r_iteT ?h ?_); (case h => first | assumption | decide +kernel | exact rfl))
  | ((with_reducible refine Zn.r_iteF ?h ?_); (case h => first | assumption | decide +kernel | exact (fun h => Bool.noConfusion (show false = true from h))))
  | ((with_reducible refine Zn.r_rng ?h1 ?h2 ?_); (case h1 => first | omega | decide); (case h2 => first | omega | decide))
  | ((with_reducible refine' Zn.r_in ?h ?e1 ?e2 ?_); (case h => first | exact .inr (Zn.st_of (by walk_at "fd")) | exact .inl (Zn.sl_of (by walk_at "fd")) | exact .inl (by assumption) | exact .inr (by assumption)); (case e1 => rfl); (case e2 => rfl))
  | ((with_reducible refine Zn.r_al ?h ?_); (case h => exact Zn.len_ok (Nat.le_of_ble_eq_true rfl)); intro p hp)
  | (with_reducible refine Zn.r_next ?_)
  | ((with_reducible refine Zn.r_I ?hc ?_); (case hc => first | assumption | exact Zn.pow2_pos _ | omega | decide | exact Zn.mulR (by decide) (by decide) | exact Zn.mulL (by decide) (by decide) | exact ⟨by decide, by decide⟩ | exact ⟨by decide, by decide, by decide⟩ | exact Zn.mulR (by omega) (by omega) | exact Zn.mulL (by omega) (by omega) | exact ⟨by omega, by omega⟩ | exact ⟨by omega, by omega, by omega⟩))
  | ((with_reducible refine' Zn.r_setL ?h ?e ?_); (case h => walk_at "fd"); (case e => exact rfl))
  | ((with_reducible refine' Zn.r_ixL ?h ?e ?_); (case h => first | exact Zn.sl_of (by walk_at "fd") | assumption); (case e => exact rfl))
  | ((with_reducible refine' Zn.r_ixT ?h ?e ?_); (case h => first | exact Zn.st_of (by walk_at "fd") | assumption); (case e => exact rfl))
  | ((with_reducible refine' Zn.r_tupd ?h ?e ?_); (case h => first | exact Zn.st_of (by walk_at "fd") | assumption); (case e => exact rfl)))
local macro_rules | `(tactic| walk_at "rd") => `(tactic| ((try dsimp only); (repeat ((walk_at "rd1"); (try dsimp only)))))
namespace Zn
open PySem PySem.Spec PyProof.Rows L2
abbrev s__law_begin : Stmt := topS 3
theorem sc__law_begin : FnScope ["_law_script", "_law_cell"] ["_law_script"] (defScope s__law_begin) := ⟨rfl, rfl, rfl, by decide +kernel, rfl, by decide +kernel, by decide +kernel⟩

abbrev s__law_draw : Stmt := topS 4
theorem sc__law_draw : FnScope ["_law_d", "_law_many", "_law_found", "_law_size", "_law_cell"] ["_law_d", "_law_many"] (defScope s__law_draw) := ⟨rfl, rfl, rfl, by decide +kernel, rfl, by decide +kernel, by decide +kernel⟩

/-- what the drawer keeps: its own list at d, the script's ints at c -/
def DL (H : Hp) (d c : Addr) : Prop := ∃ (at_ rest st last : Int), H d = some (.lst [.ref c, .int at_, .int rest, .int st, .int last]) ∧ 0 ≤ at_ ∧ 0 ≤ rest ∧ 0 ≤ st ∧ st < 2147483647
structure Drw (H : Hp) (d c : Addr) : Prop where
  dl : DL H d c
  ne : c ≠ d
  cl : ∃ ns : List Int, H c = some (.lst (ns.map V.int))
theorem Drw.same {H H' : Hp} {d c : Addr} (D : Drw H d c) (s : Same H H') : Drw H' d c := by
  obtain ⟨⟨a, r, st, l, h1, h2⟩, ne, ns, h3⟩ := D
  exact ⟨⟨a, r, st, l, s _ _ h1, h2⟩, ne, ns, s _ _ h3⟩
theorem Drw.get {H : Hp} {d c : Addr} (D : Drw H d c) : ∃ xs, H d = some (.lst xs) := by
  obtain ⟨⟨a, r, st, l, h1, _⟩, _⟩ := D
  exact ⟨_, h1⟩
theorem Drw.upd {H : Hp} {d c a : Addr} {o : HO} (D : Drw H d c) (n1 : d ≠ a) (n2 : c ≠ a) : Drw (upd H a o) d c := by
  obtain ⟨⟨at_, r, st, l, h1, h2⟩, ne, ns, h3⟩ := D
  exact ⟨⟨at_, r, st, l, (upd_ne n1).trans h1, h2⟩, ne, ns, (upd_ne n2).trans h3⟩
theorem Drw.nd {H : Hp} {d c a : Addr} (D : Drw H d c) (h : H a = none) : d ≠ a := by
  obtain ⟨xs, e⟩ := D.get
  exact ne_of_none e h
theorem Drw.nc {H : Hp} {d c a : Addr} (D : Drw H d c) (h : H a = none) : c ≠ a := by
  obtain ⟨ns, e⟩ := D.cl
  exact ne_of_none e h
/-- a draw: a number below many; only the drawer's own list changes -/
def spDraw : Sp := fun vs H Q _ => ∃ (d c : Addr) (many : Int), vs = [.ref d, .int many] ∧ Drw H d c ∧ 1 ≤ many ∧ many < 1073741824 ∧
  ∀ (n : Int) (xs : List V), 0 ≤ n → n < many → Drw (upd H d (.lst xs)) d c → Q (.int n) (upd H d (.lst xs))
def spBegin (K : PySem.W.Frag) : Sp := fun vs H Q _ => ∃ (a : Addr) (ns : List Int), vs = [.ref a] ∧ SqL K H a (ns.map V.int) ∧ ns.length ≤ 63 ∧
  ∀ (H' : Hp) (d c : Addr), Same H H' → H d = none → Drw H' d c → Q (.ref d) H'
/-- the names that the drawer reads -/
structure TDraw (mg : Str → Option Value) : Prop where
  z_int : mg "int" = none
  z_len : mg "len" = none
  z_abs : mg "abs" = none
section
variable {P : Program} {w : World} {K : PySem.W.Frag} {mg : Str → Option Value} {base : Heap}
theorem ok_begin {f : Addr} {fd : FuncData} (F : Fun K "_law_begin" "_law_begin" s__law_begin f fd) (T : TDraw mg) : FnOk P w K mg base CX0 1 f fd ["_law_script"] (spBegin K) := by
  refine F.ok sc__law_begin (fun vs H Q E h => ?_) (fun cdv A outer s H vs Q E hr h => ?_)
  · obtain ⟨a, ns, rfl, _⟩ := h
    rfl
  · obtain ⟨a, ns, rfl, hS, hlen, q⟩ := h
    refine ⟨_, 
      (pss_one (ps_ret (pe_lst (pa_cons (pe_lc (own := [("_law_cell", 1)]) rfl sc__law_begin.nd (pi_list (pv 0)) (blkOk_by (N := ["_law_script", "_law_cell"]) (sc := defScope s__law_begin) (by decide +kernel)) (fun _ _ _ _ _ => (pg_name (i := 1) sc__law_begin.nd rfl (Or.inl rfl))) (fun _ _ _ _ _ => pts_nil) (fun _ _ _ _ _ => (pe_callTy call_int1 (by rfl) T.z_int (by decide +kernel) (pa_cons (pv 1) pa_nil)))) (pa_cons pe_int (pa_cons pe_int (pa_cons pe_int (pa_cons pe_int pa_nil)))))))), ?_⟩
    walk_at "rd"
    refine r_ref ⟨_, hS⟩ fun c hc => ?_
    refine lc_list (K := K) (a := a) (xs := ns.map V.int) (fun i H' => Same H H' ∧ H' c = some (.lst ((ns.take i).map V.int))) ⟨same_new hc, upd_same⟩ (fun i H' _ h => h.1.seq hS) (fun i x H' hi h => ?_) (fun H' h => ?_)
    · obtain ⟨u, rfl, hu⟩ : ∃ u, x = V.int u ∧ ns[i]? = some u := by
        rw [List.getElem?_map] at hi
        cases e : ns[i]? with
        | none => rw [e] at hi; cases hi
        | some u => rw [e] at hi; exact ⟨u, (Option.some.inj hi).symm, rfl⟩
      walk_at "rd"
      refine ⟨rfl, ?_⟩
      walk_at "rd"
      refine ⟨_, h.2, ?_, ?_, ?_⟩
      · rw [List.length_map, List.length_take]
        exact Nat.lt_of_le_of_lt (Nat.min_le_right _ _) (small1000 (by omega))
      · exact fun b o e => by
          rw [upd_ne (ne_of_none e hc)]
          exact h.1 _ _ e
      · rw [upd_same, List.take_add_one, hu, List.map_append]
        rfl
    · rw [List.length_map, List.take_of_length_le (Nat.le_refl _)] at h
      walk_at "rd"
      rename_i d hd
      have ncd : c ≠ d := ne_of_none h.2 hd
      refine q _ d c (h.1.trans (same_new hd)) (h.1.free hd) ⟨⟨0, 0, 7, 2, upd_same, by decide⟩, ncd, ns, by rw [upd_ne ncd]; exact h.2⟩
theorem ok_draw {f : Addr} {fd : FuncData} (F : Fun K "_law_draw" "_law_draw" s__law_draw f fd) (T : TDraw mg) : FnOk P w K mg base CX0 1 f fd ["_law_d", "_law_many"] spDraw := by
  refine F.ok sc__law_draw (fun vs H Q E h => ?_) (fun cdv A outer s H vs Q E hr h => ?_)
  · obtain ⟨d, c, m, rfl, _⟩ := h
    rfl
  · obtain ⟨d, c, m, rfl, ⟨⟨at_, rest, st, last, hd, a0, r0, s0, s1⟩, ncd, ns, hc⟩, m1, m2, q⟩ := h
    have hD : CDiv rest m := ⟨by omega, m2⟩
    have hm0 : 0 < m := by omega
    refine ⟨_, 
      (pss_cons (ps_if (pt_cmpR op_gt (pe_ix (r := rIxL K) ix_list (pv 0) pe_int (fun _ _ => rfl)) pe_int (nomark _)) 
       (pss_cons (ps_set (i := 2) sc__law_draw.nd rfl (Or.inl rfl) (pe_ix (r := rIxL K) ix_list (pv 0) pe_int (fun _ _ => rfl)))
       (pss_cons (ps_asg (pe_op op_fdiv (pv 2) (pv 1)) (pg_sub (pv 0) pe_int set_list))
       (pss_one (ps_ret (pe_op op_mod (pe_callTy call_int1 (by rfl) T.z_int (by decide +kernel) (pa_cons (pv 2) pa_nil)) (pv 1)))))) pss_nil)
      (pss_cons (ps_set (i := 3) sc__law_draw.nd rfl (Or.inl rfl) pe_int)
      (pss_cons (ps_if (pt_cmpR op_lt (pe_ix (r := rIxL K) ix_list (pv 0) pe_int (fun _ _ => rfl)) (pe_callB call_len_seq (by rfl) T.z_len (by decide +kernel) (pa_cons (pe_ix (r := rIxL K) ix_list (pv 0) pe_int (fun _ _ => rfl)) pa_nil)) (nomark _)) 
       (pss_cons (ps_set (i := 4) sc__law_draw.nd rfl (Or.inl rfl) (pe_ix (r := rIxL K) ix_list (pe_ix (r := rIxL K) ix_list (pv 0) pe_int (fun _ _ => rfl)) (pe_ix (r := rIxL K) ix_list (pv 0) pe_int (fun _ _ => rfl)) (fun _ _ => rfl)))
       (pss_one (ps_set (i := 3) sc__law_draw.nd rfl (Or.inl rfl) (pe_op op_add (pe_op op_mul pe_int (pe_callB call_abs (by rfl) T.z_abs (by decide +kernel) (pa_cons (pv 4) pa_nil))) (pe_callTy call_int1 (by rfl) T.z_int (by decide +kernel) (pa_cons (pe_cmpR op_lt (pv 4) pe_int (nomark _)) pa_nil)))))) pss_nil)
      (pss_cons (ps_augS (pv 0) pe_int Zn.pget_list pe_int ip_add set_list)
      (pss_cons (ps_if (pt_cmpR op_ge (pv 3) (pe_op op_mul pe_int (pe_op op_pow pe_int pe_int)) (nomark _)) 
       (pss_cons (ps_set (i := 2) sc__law_draw.nd rfl (Or.inl rfl) (pe_op op_mod (pe_callTy call_int1 (by rfl) T.z_int (by decide +kernel) (pa_cons (pe_op op_fdiv (pv 3) pe_int) pa_nil)) (pe_op op_shl pe_int pe_int)))
       (pss_cons (ps_asg (pe_op op_fdiv (pv 2) (pv 1)) (pg_sub (pv 0) pe_int set_list))
       (pss_one (ps_ret (pe_op op_mod (pe_callTy call_int1 (by rfl) T.z_int (by decide +kernel) (pa_cons (pv 2) pa_nil)) (pv 1)))))) pss_nil)
      (pss_cons (ps_asg (pe_op op_mod (pe_callTy call_int1 (by rfl) T.z_int (by decide +kernel) (pa_cons (pe_op op_add (pe_op op_add (pe_op op_add (pe_op op_mul (pe_ix (r := rIxL K) ix_list (pv 0) pe_int (fun _ _ => rfl)) pe_int) (pe_op op_mul (pe_op op_mod (pe_callTy call_int1 (by rfl) T.z_int (by decide +kernel) (pa_cons (pv 3) pa_nil)) pe_int) pe_int)) (pe_op op_mul (pe_ix (r := rIxL K) ix_list (pv 0) pe_int (fun _ _ => rfl)) pe_int)) pe_int) pa_nil)) pe_int) (pg_sub (pv 0) pe_int set_list))
      (pss_one (ps_ret (pe_op op_mod (pe_callTy call_int1 (by rfl) T.z_int (by decide +kernel) (pa_cons (pe_op op_fdiv (pe_ix (r := rIxL K) ix_list (pv 0) pe_int (fun _ _ => rfl)) pe_int) pa_nil)) (pv 1)))))))))), ?_⟩
    walk_at "rd"
    refine ite2 (fun h1 => ?_) (fun h1 => ?_)
    · have h1 : 0 < rest := of_decide_eq_true h1
      walk_at "rd"
      refine q _ _ (Int.emod_nonneg _ (by omega)) (Int.emod_lt_of_pos _ (by omega)) ⟨⟨at_, rest / m, st, last, upd_same, a0, Int.ediv_nonneg r0 (by omega), s0, s1⟩, ncd, ns, by rw [upd_ne ncd]; exact hc⟩
    · walk_at "rd"
      refine ite2 (fun h2 => ?_) (fun h2 => ?_)
      · have h2 : at_ < ((ns.map V.int).length : Int) := of_decide_eq_true h2
        rw [List.length_map] at h2
        have hj : at_.toNat < ns.length := by omega
        walk_at "rd"
        refine r_ixL (v := V.int ns[at_.toNat]) (sl_of hc) (atI_lt (j := at_.toNat) (by omega) (by rw [List.getElem?_map, List.getElem?_eq_getElem hj]; rfl)) ?_
        walk_at "rd"
        refine ite2 (fun h3 => ?_) (fun h3 => ?_)
        · walk_at "rd"
          rw [upd_upd]
          have e0 : ∀ z : Int, 0 ≤ z % (1 * 2 ^ Int.toNat 6000) := fun z => Int.emod_nonneg z (Int.ne_of_gt (pow2_pos (Int.toNat 6000)))
          refine q _ _ (Int.emod_nonneg _ (by omega)) (Int.emod_lt_of_pos _ (by omega)) ⟨⟨at_ + 1, _, st, last, upd_same, by omega, Int.ediv_nonneg (e0 _) (by omega), s0, s1⟩, ncd, ns, by rw [upd_ne ncd]; exact hc⟩
        · walk_at "rd"
          rw [upd_upd]
          refine q _ _ (Int.emod_nonneg _ (by omega)) (Int.emod_lt_of_pos _ (by omega)) ⟨⟨at_ + 1, rest, _, last, upd_same, by omega, r0, Int.emod_nonneg _ (by decide), Int.emod_lt_of_pos _ (by decide)⟩, ncd, ns, by rw [upd_ne ncd]; exact hc⟩
      · walk_at "rd"
        rw [upd_upd]
        refine q _ _ (Int.emod_nonneg _ (by omega)) (Int.emod_lt_of_pos _ (by omega)) ⟨⟨at_ + 1, rest, _, last, upd_same, by omega, r0, Int.emod_nonneg _ (by decide), Int.emod_lt_of_pos _ (by decide)⟩, ncd, ns, by rw [upd_ne ncd]; exact hc⟩
end
end Zn
/-! more readings: texts, while, chains -/
namespace Zn
open PySem PySem.Spec PyProof.Rows L2 TL
section
variable {σ : L2.St} {H : Hp} {K : PySem.W.Frag} {Q : VK} {ta tb te tc : TE} {t u c : TT} {D : Ends} {t1 t2 : TS} {g : TG} {i : Nat} {v x y : V} {r r' : R2} {tr : TA}
theorem r_chain (q : ta σ H fun x H1 => tb σ H1 fun y H2 => r x y H2 fun z H3 => ∃ k, z = .bl k ∧
    (if k = true then tc σ H3 fun v H4 => r' y v H4 Q else Q (.bl false) H3)) : tChain r r' ta tb tc σ H Q := q
theorem r_ss {a b : Str} {R : Str → Str → Prop} (q : R a b) : ∃ i j, V.str a = V.str i ∧ V.str b = V.str j ∧ R i j := ⟨a, b, rfl, rfl, q⟩
theorem r_sign {c : Nat} {z : Str} {R : Nat → Str → Prop} (q : R c z) : ∃ (d : Nat) (y : Str), V.str ⟨#[c]⟩ = V.str ⟨#[d]⟩ ∧ V.str z = V.str y ∧ R d y := ⟨c, z, rfl, rfl, q⟩
theorem r_ixS {z : Str} {i : Int} {c : Nat} (h : z.length ≤ sizeLine) (e : atI z.cps.toList i = some c) (q : Q (.str ⟨#[c]⟩) H) : rIxS (.str z) (.int i) H Q := ⟨z, i, c, rfl, rfl, h, e, q⟩
theorem r_slS {z : Str} {lo hi : Option Int} (h : z.length ≤ sizeLine) (q : Q (.str (cutS z lo hi)) H) : rSlS (.str z) lo hi H Q := ⟨z, rfl, h, q⟩
theorem r_lenS {z : Str} {R : Str → Prop} (q : R z) : ∃ y, [V.str z] = [V.str y] ∧ R y := ⟨z, rfl, q⟩
theorem r_istr {R : It → Hp → Prop} (q : te σ H fun v H1 => ∃ x, v = .str x ∧ R (Its x) H1) : iStr te σ H R := q
theorem r_1s {z : Str} {R : Str → Prop} (q : R z) : ∃ y, V.str z = V.str y ∧ R y := ⟨z, rfl, q⟩
theorem r_62 {j : Int} {R : Prop} (h1 : -(2 ^ 62) ≤ j) (h2 : j < 2 ^ 62) (q : R) : -(2 ^ 62) ≤ j ∧ j < 2 ^ 62 ∧ R := ⟨h1, h2, q⟩
theorem r_M1 {f : V → List V → Hp → VK → Prop} (q : ta σ H fun x H1 => (∃ a, x = .str a) ∧ tb σ H1 fun y H2 => f x [y] H2 Q) : tM1 f ta tb σ H Q := q
theorem r_exS {z : Str} {R : Prop} (q : R) : (∃ a, V.str z = V.str a) ∧ R := ⟨⟨z, rfl⟩, q⟩
theorem r_s1 {a b : Str} {R : Str → Str → Prop} (q : R a b) : ∃ i j, V.str a = V.str i ∧ [V.str b] = [V.str j] ∧ R i j := ⟨a, b, rfl, rfl, q⟩
theorem r_truL {p : Addr} {xs : List V} {R : Bool → Prop} (h : H p = some (.lst xs)) (q : R (!xs.isEmpty)) : ∃ k, TruV K (.ref p) H k ∧ R k := ⟨_, .inl ⟨xs, .inl (.inl h), rfl⟩, q⟩
theorem r_truT {p : Addr} {xs : List V} {R : Bool → Prop} (h : H p = some (.tup xs)) (q : R (!xs.isEmpty)) : ∃ k, TruV K (.ref p) H k ∧ R k := ⟨_, .inr (.inl ⟨xs, .inl (.inl h), rfl⟩), q⟩
theorem r_truI {i : Int} {R : Bool → Prop} (q : R (i != 0)) : ∃ k, TruV K (.int i) H k ∧ R k := ⟨_, rfl, q⟩
theorem seq_same (h2 : t2 D σ H) (h1 : ∀ nx' : L2.St → Hp → Prop, nx' σ H → t1 { D with nx := nx' } σ H) : tSeq t1 t2 D σ H := h1 (t2 D) h2
theorem ne_nil {xs : List V} (h : (!xs.isEmpty) = true) : xs ≠ [] := by
  intro e
  subst e
  cases h
theorem r_lz {n : Nat} {R : Prop} (h : n ≤ sizeLine) (q : R) : n ≤ sizeLine ∧ R := ⟨h, q⟩
theorem r_inY {p : Addr} {xs : List V} (h : SqL K H p xs ∨ SqT K H p xs) (e1 : flatV x = true) (e2 : xs.all flatV = true) (q : Q (.bl (inV x xs)) H) : rIn K false x (.ref p) H Q := ⟨p, xs, rfl, h, e1, e2, q⟩
theorem r_inN {p : Addr} {xs : List V} (h : SqL K H p xs ∨ SqT K H p xs) (e1 : flatV x = true) (e2 : xs.all flatV = true) (q : Q (.bl (!inV x xs)) H) : rIn K true x (.ref p) H Q := ⟨p, xs, rfl, h, e1, e2, q⟩
theorem r_while (q : ∃ Z : Nat → L2.St → Hp → Prop, (∃ m, Z m σ H) ∧ ∀ m σ H, Z m σ H → t σ H fun b H1 =>
    if b = true then ∃ Y : L2.St → Hp → Prop, (∀ σ' H', Y σ' H' → ∃ m', m' < m ∧ Z m' σ' H') ∧ t1 { D with nx := Y, ct := Y, bk := D.nx } σ H1
    else D.nx σ H1) : tWhile t t1 D σ H := q
theorem Same.mut {H H' : Hp} {g : Addr} {o : HO} (s : Same H H') (hg : H g = none) : Same H (upd H' g o) := fun b x e => by
  rw [upd_ne (ne_of_none e hg)]
  exact s _ _ e
theorem keep_new {d : Addr} {H H1 : Hp} {p : Addr} {o : HO} (s : Keep d H H1) (h : H1 p = none) : Keep d H (upd H1 p o) := s.trans (Same.keep (same_new h))
theorem Keep.free {d : Addr} {H H1 : Hp} {p : Addr} (s : Keep d H H1) (n : p ≠ d) (h : H1 p = none) : H p = none := by
  cases e : H p with
  | none => rfl
  | some x =>
    have := s _ _ n e
    rw [h] at this
    cases this
theorem Keep.mut {d : Addr} {H H1 : Hp} {p : Addr} {o : HO} (s : Keep d H H1) (h : H p = none) : Keep d H (upd H1 p o) := fun b x n e => by
  rw [upd_ne (ne_of_none e h)]
  exact s _ _ n e
theorem map_get {ns : List Int} {i : Nat} {x : V} (hi : (ns.map V.int)[i]? = some x) : ∃ u, x = V.int u ∧ ns[i]? = some u := by
  rw [List.getElem?_map] at hi
  cases e : ns[i]? with
  | none => rw [e] at hi; cases hi
  | some u => rw [e] at hi; exact ⟨u, (Option.some.inj hi).symm, rfl⟩
theorem small {w : Int} (h1 : 1 ≤ w) (h8 : w ≤ 8) : (2 : Int) ^ w.toNat ≤ 256 := by
  have : w = 1 ∨ w = 2 ∨ w = 3 ∨ w = 4 ∨ w = 5 ∨ w = 6 ∨ w = 7 ∨ w = 8 := by omega
  rcases this with h | h | h | h | h | h | h | h <;> subst h <;> decide
/-- the parts of a text -/
theorem tl_cut {z : Str} {a b : Int} (h0 : 0 ≤ a) (h1 : 0 ≤ b) : tl (cutS z (some a) (some b)) = ((tl z).drop a.toNat).take (b.toNat - a.toNat) := by
  show ((tl z).drop (HT.sIx z.length 0 (some a))).take (HT.sIx z.length z.length (some b) - HT.sIx z.length 0 (some a)) = _
  obtain ⟨n, rfl⟩ := Int.eq_ofNat_of_zero_le h0
  obtain ⟨m, rfl⟩ := Int.eq_ofNat_of_zero_le h1
  rw [HT.sIx_nat, HT.sIx_nat, len_tl, Int.toNat_natCast, Int.toNat_natCast]
  by_cases h : n ≤ (tl z).length
  · rw [Nat.min_eq_left h]
    by_cases h2 : m ≤ (tl z).length
    · rw [Nat.min_eq_left h2]
    · rw [Nat.min_eq_right (by omega), List.take_of_length_le (by rw [List.length_drop]; omega), List.take_of_length_le (by rw [List.length_drop]; omega)]
  · rw [List.drop_of_length_le (by omega), List.drop_of_length_le (by omega), List.take_nil, List.take_nil]
theorem tl_cut_to {z : Str} {b : Int} (h1 : 0 ≤ b) : tl (cutS z none (some b)) = (tl z).take b.toNat := by
  have := tl_cut (z := z) (Int.le_refl 0) h1
  show ((tl z).drop (HT.sIx z.length 0 none)).take (HT.sIx z.length z.length (some b) - HT.sIx z.length 0 none) = _
  have e : HT.sIx z.length 0 (some 0) = 0 := HT.sIx_nat _ _ 0 |>.trans (by simp)
  have e2 : HT.sIx z.length 0 none = 0 := rfl
  rw [e2, ← e]
  exact this
end
end Zn
/-! trees of tuples; heaps that keep all but some lists -/
namespace Zn
open PySem PySem.Spec PyProof.Rows L2 TL
theorem at0 {a : V} {l : List V} : atI (a :: l) 0 = some a := atI_nat (j := 0) rfl
theorem at1 {a b : V} {l : List V} : atI (a :: b :: l) 1 = some b := atI_nat (j := 1) rfl
theorem at2 {a b c : V} {l : List V} : atI (a :: b :: c :: l) 2 = some c := atI_nat (j := 2) rfl
theorem at3 {a b c d : V} {l : List V} : atI (a :: b :: c :: d :: l) 3 = some d := atI_nat (j := 3) rfl
theorem at4 {a b c d e : V} {l : List V} : atI (a :: b :: c :: d :: e :: l) 4 = some e := atI_nat (j := 4) rfl
/-- signs that a text can have -/
def okB (z : Str) : Bool := (tl z).all (decide <| · < 1114112)
theorem strOk_of {t : Str} (h : okB t = true) : PyData.strOk t = true := by
  unfold PyData.strOk
  rw [← Array.all_toList]
  exact h
/-- what stands is kept, but in the lists of S -/
structure Kp (S : List Addr) (H H' : Hp) : Prop where
  x : ∀ b o, b ∉ S → H b = some o → H' b = some o
  t : ∀ b xs, H b = some (.tup xs) → H' b = some (.tup xs)
theorem Kp.refl (S : List Addr) (H : Hp) : Kp S H H := ⟨fun _ _ _ h => h, fun _ _ h => h⟩
theorem Kp.trans {S : List Addr} {H H1 H2 : Hp} (a : Kp S H H1) (b : Kp S H1 H2) : Kp S H H2 := ⟨fun c o n h => b.x c o n (a.x c o n h), fun c o h => b.t c o (a.t c o h)⟩
theorem Kp.mono {S S' : List Addr} {H H1 : Hp} (a : Kp S H H1) (h : ∀ b ∈ S, b ∈ S') : Kp S' H H1 := ⟨fun c o n e => a.x c o (fun m => n (h c m)) e, a.t⟩
theorem Kp.same {S : List Addr} {H H1 : Hp} (s : Same H H1) : Kp S H H1 := ⟨fun c o _ e => s _ _ e, fun c o e => s _ _ e⟩
theorem Kp.new {S : List Addr} {H H1 : Hp} {p : Addr} {o : HO} (a : Kp S H H1) (h : H1 p = none) : Kp S H (upd H1 p o) := a.trans (.same (same_new h))
theorem Kp.set {S : List Addr} {H H1 : Hp} {p : Addr} {l : List V} {o : HO} (a : Kp S H H1) (m : p ∈ S) (h : H1 p = some (.lst l)) : Kp S H (upd H1 p o) :=
  a.trans ⟨fun c x n e => by rw [upd_ne (fun (k : c = p) => n (k ▸ m))]; exact e, fun c x e => by rw [upd_ne (ne_of e h (by intro z; cases z))]; exact e⟩
theorem Kp.free {S : List Addr} {H H1 : Hp} {p : Addr} (a : Kp S H H1) (n : p ∉ S) (h : H1 p = none) : H p = none := by
  cases e : H p with
  | none => rfl
  | some x =>
    have := a.x _ _ n e
    rw [h] at this
    cases this
/-- a list that was made behind H -/
theorem Kp.mut {S : List Addr} {H H1 : Hp} {p : Addr} {l : List V} {o : HO} (a : Kp S H H1) (h0 : H p = none) (h : H1 p = some (.lst l)) : Kp S H (upd H1 p o) :=
  ⟨fun c x n e => by rw [upd_ne (ne_of_none e h0)]; exact a.x _ _ n e, fun c x e => by rw [upd_ne (ne_of (a.t _ _ e) h (by intro z; cases z))]; exact a.t _ _ e⟩
theorem Kp.seq {S : List Addr} {K : PySem.W.Frag} {H H1 : Hp} {p : Addr} {l : List V} (a : Kp S H H1) (n : p ∉ S) (h : SqL K H p l) : SqL K H1 p l := by
  rcases h with (h | ⟨o, h⟩) | h
  · exact .inl (.inl (a.x _ _ n h))
  · exact .inl (.inr ⟨o, a.x _ _ n h⟩)
  · exact .inr h
theorem Kp.drw {H : Hp} {d c : Addr} {zs : List V} {S : List Addr} (D : Drw H d c) (m : d ∈ S) : Kp S H (upd H d (.lst zs)) := by
  obtain ⟨l, h⟩ := D.get
  exact (Kp.refl S H).set m h
/-- what is no reference -/
def Atom : V → Prop
  | .non => True
  | .bl _ => True
  | .int _ => True
  | .str s => okB s = true
  | _ => False
/-- a tree of tuples, at most n deep -/
def Tree : Nat → Hp → V → Prop
  | 0, _, v => Atom v
  | n + 1, H, v => Atom v ∨ ∃ p xs, v = .ref p ∧ H p = some (.tup xs) ∧ ∀ x ∈ xs, Tree n H x
theorem Tree.atom {v : V} {H : Hp} (h : Atom v) : ∀ n, Tree n H v
  | 0 => h
  | _ + 1 => .inl h
theorem Tree.up : ∀ {n : Nat} {H : Hp} {v : V}, Tree n H v → Tree (n + 1) H v
  | 0, _, _, h => .inl h
  | _ + 1, _, _, h => by
    rcases h with h | ⟨p, xs, e, hp, hx⟩
    · exact .inl h
    · exact .inr ⟨p, xs, e, hp, fun x m => (hx x m).up⟩
theorem Tree.le {n m : Nat} {H : Hp} {v : V} (h : Tree n H v) (hm : n ≤ m) : Tree m H v := by
  induction hm with
  | refl => exact h
  | step _ ih => exact ih.up
theorem Tree.kp : ∀ {n : Nat} {S : List Addr} {H H' : Hp} {v : V}, Tree n H v → Kp S H H' → Tree n H' v
  | 0, _, _, _, _, h, _ => h
  | _ + 1, _, _, _, _, h, k => by
    rcases h with h | ⟨p, xs, e, hp, hx⟩
    · exact .inl h
    · exact .inr ⟨p, xs, e, k.t _ _ hp, fun x m => (hx x m).kp k⟩
theorem Tree.mk {n : Nat} {H : Hp} {p : Addr} {xs : List V} (hp : H p = some (.tup xs)) (h : ∀ x ∈ xs, Tree n H x) : Tree (n + 1) H (.ref p) := .inr ⟨p, xs, rfl, hp, h⟩
theorem Tree.tup {n : Nat} {H : Hp} {p : Addr} {xs : List V} (hp : H p = none) (h : ∀ x ∈ xs, Tree n H x) : Tree (n + 1) (upd H p (.tup xs)) (.ref p) :=
  .mk upd_same fun x m => (h x m).kp (.same (S := []) (same_new hp))
theorem Tree.str {s : Str} {H : Hp} {n : Nat} (h : okB s = true) : Tree n H (.str s) := .atom (v := .str s) h n
theorem Tree.int {i : Int} {H : Hp} {n : Nat} : Tree n H (.int i) := .atom (v := .int i) trivial n
theorem Tree.non {H : Hp} {n : Nat} : Tree n H .non := .atom (v := .non) trivial n
theorem all_cons {α : Type} {P : α → Prop} {x : α} {xs : List α} (h : P x) (hs : ∀ y ∈ xs, P y) : ∀ y ∈ x :: xs, P y := fun y m => by
  rcases List.mem_cons.mp m with rfl | m
  · exact h
  · exact hs y m
theorem all_nil {α : Type} {P : α → Prop} : ∀ y ∈ ([] : List α), P y := fun _ m => by cases m
/-- the tree as a value -/
theorem Tree.dp {K : PySem.W.Frag} : ∀ {n : Nat} {H : Hp} {v : V}, Tree n H v → ∃ D : PyData, Dp K H v D ∧ D.canLay0 = true ∧ D.depth ≤ n := by
  have at_ : ∀ {v : V} {H : Hp}, Atom v → ∃ D : PyData, Dp K H v D ∧ D.canLay0 = true ∧ D.depth ≤ 0 := fun {v H} h => by
    cases v with
    | non => exact ⟨.none, .non, rfl, by simp [PyData.depth]⟩
    | bl b => exact ⟨.bool b, .bl b, rfl, by simp [PyData.depth]⟩
    | int i => exact ⟨.int i, .int i, rfl, by simp [PyData.depth]⟩
    | str s => exact ⟨.str s, .str s, by simp [PyData.canLay0, strOk_of h], by simp [PyData.depth]⟩
    | _ => exact h.elim
  intro n
  induction n with
  | zero => exact fun h => at_ h
  | succ n ih =>
    intro H v h
    rcases h with h | ⟨p, xs, rfl, hp, hx⟩
    · obtain ⟨D, h1, h2, h3⟩ := at_ (H := H) h
      exact ⟨D, h1, h2, by omega⟩
    · have : ∃ ds : List PyData, DpAll K H xs ds ∧ PyData.canLayAll0 ds = true ∧ PyData.depthAll ds ≤ n := by
        clear hp
        induction xs with
        | nil => exact ⟨[], .nil, by simp [PyData.canLayAll0], by simp [PyData.depthAll]⟩
        | cons x xs ihx =>
          obtain ⟨ds, h1, h2, h3⟩ := ihx fun y m => hx y (List.mem_cons_of_mem _ m)
          obtain ⟨e, g1, g2, g3⟩ := ih (hx x List.mem_cons_self)
          exact ⟨e :: ds, .cons g1 h1, by simp [PyData.canLayAll0, g2, h2], by simp only [PyData.depthAll]; omega⟩
      obtain ⟨ds, h1, h2, h3⟩ := this
      exact ⟨.tuple ds, .tup (.inl (.inl hp)) h1, by simp [PyData.canLay0, h2], by simp only [PyData.depth]; omega⟩
end Zn
/-! more rules: any of ints, zip of tuples -/
namespace Zn
open PySem PySem.Spec PyProof.Rows L2 TL
section
variable {X : Cx}
def rAnyI (K : PySem.W.Frag) : List V → Hp → VK → Prop := fun vs H Q => ∃ (a : Addr) (ns : List Int), vs = [V.ref a] ∧ SqL K H a (ns.map V.int) ∧ Q (.bl (ns.any (· != 0))) H
theorem truth_ints {prog : Program} {w : World} {A : Around} {ns : List Int} {its : List Value} (e : IntsAre its ns) :
    TruthOf prog w A (fun i v => its.toArray[i]? = some v) (fun i => ns.getD i 0 != 0) := fun i v s Q E hv hq => by
  have hv' : its[i]? = some v := by simpa using hv
  have hi : i < ns.length := by
    have h1 := (vals_of_ints e).length
    rw [List.length_map] at h1
    rw [h1]
    exact (List.getElem?_eq_some_iff.mp hv').1
  obtain ⟨t, ht⟩ := e.get i ns[i] (List.getElem?_eq_getElem hi)
  rw [ht] at hv'
  cases hv'
  have hg : ns.getD i 0 = ns[i] := by rw [List.getD_eq_getElem?_getD, List.getElem?_eq_getElem hi] <;> rfl
  have hq' : Q (ns.getD i 0 != 0) s := hq
  rw [hg] at hq'
  exact PyProof.Rows.truthy_int hq'
theorem any_rangeI : ∀ ns : List Int, (List.range ns.length).any (fun i => ns.getD i 0 != 0) = ns.any (· != 0)
  | [] => rfl
  | b :: bs => by
    rw [List.length_cons, List.range_succ_eq_map, List.any_cons, List.any_map, List.any_cons, ← any_rangeI bs]
    all_goals rfl
theorem cr_anyI (hc : X.calm = true) : CallR X (.builtin "any") (rAnyI X.K) := by
  intro pins s σ H vs us Q I r h
  obtain ⟨a, ns, rfl, hs, q⟩ := h
  obtain ⟨its, rv, hl, _⟩ := I.list hs
  rw [Vals.ref1 r]
  have hb := rv.ints
  have hlen : its.length = ns.length := by
    have h1 := rv.length
    rw [List.length_map] at h1
    exact h1.symm
  refine call_any_walk (iter_any hl.isList fun s₂ e2 st hne => ?_)
  subst e2
  refine ⟨_, _, _, _, _, _, _, rfl, Walks.list (A := X.A.in1) (I.ok.hd hc) _ a hne its.toArray, st, truth_ints hb, fun h' tk hk => ?_⟩
  refine ⟨.bl _, H, I.kept fun b o eo => hk b o (fun hmem => ?_) (Heap.get?_push_of_some _ eo), ?_, q⟩
  · rcases List.mem_cons.mp hmem with e1 | hmem
    · exact absurd (e1 ▸ Heap.lt_size eo) (Nat.lt_irrefl _)
    · cases hmem
  · show Value.bool _ = Value.bool _
    rw [← any_rangeI, List.size_toArray, hlen]
end
theorem walk_zipT {K : PySem.W.Frag} {a b : Addr} {xs ys : List V} {n : Nat} (hn : n = min xs.length ys.length) : Walk (RZ.ItzT K a b) n (fun H => SqT K H a xs ∧ SqT K H b ys) (YPair (fun i => xs[i]?) (fun i => ys[i]?)) := by
  subst hn
  refine ⟨fun i _ hi q => ?_, fun _ q => ⟨xs, ys, q.1, q.2, by omega⟩, fun i H v H' _ q y => ?_⟩
  · have h1 : i < xs.length := by omega
    have h2 : i < ys.length := by omega
    exact ⟨xs, ys, xs[i], ys[i], q.1, q.2, by simp [h1], by simp [h2]⟩
  · obtain ⟨T, x, z, h1, h2, h3, h4, h5⟩ := y
    exact ⟨T, x, z, h1, h2, h3, h4 xs q.1, h5 ys q.2⟩
/-- tuples stand still -/
def Tp (H H' : Hp) : Prop := ∀ b xs, H b = some (.tup xs) → H' b = some (.tup xs)
theorem Same.tp {H H' : Hp} (s : Same H H') : Tp H H' := fun b xs h => s _ _ h
theorem Kp.tp {S : List Addr} {H H' : Hp} (s : Kp S H H') : Tp H H' := s.t
theorem Tp.refl (H : Hp) : Tp H H := fun _ _ h => h
theorem Tp.trans {H H1 H2 : Hp} (a : Tp H H1) (b : Tp H1 H2) : Tp H H2 := fun c x h => b c x (a c x h)
theorem Tp.set {H : Hp} {p : Addr} {l : List V} {o : HO} (h : H p = some (.lst l)) : Tp H (upd H p o) := fun c x e => by
  rw [upd_ne (ne_of e h (by intro z; cases z))]
  exact e
theorem getL {α : Type} {xs : List α} {i : Nat} {x : α} (h : xs[i]? = some x) : i < xs.length := (List.getElem?_eq_some_iff.mp h).1
theorem get_map {α β : Type} {f : α → β} {xs : List α} {i : Nat} {y : β} (h : (xs.map f)[i]? = some y) : ∃ x, xs[i]? = some x ∧ f x = y := by
  rw [List.getElem?_map] at h
  cases e : xs[i]? with
  | none => rw [e] at h; cases h
  | some u => rw [e] at h; exact ⟨u, rfl, Option.some.inj h⟩
theorem take_snoc {α : Type} {xs : List α} {i : Nat} {x : α} (h : xs[i]? = some x) : xs.take (i + 1) = xs.take i ++ [x] := by
  rw [List.take_add_one, h]
  rfl
theorem lt_line {n : Nat} (h : n < 100000) : n < sizeLine := Nat.lt_of_lt_of_le h (by decide)
/-- a comprehension whose list is known ahead: only new things are made in its turns -/
theorem lcM {J : It} {n : Nat} {G : Hp → Prop} {Y : Nat → Hp → V → Hp → Prop} (w : Walk J n G Y) (out : List V) {g : TG} {tt : TT} {te : TE} {vs : List Nat} {σ : L2.St} {H1 : Hp} {C : Addr} {Qd : Hp → Prop}
    (hn : out.length = n) (hz : n < 100000) (hC : H1 C = none) (hG : ∀ H', Same H1 H' → G H')
    (hs : ∀ i x H' H'', i < n → Same H1 H' → Y i H' x H'' → (∀ y H4, out[i]? = some y → Same H' H4 → ∃ acc, H4 C = some (.lst acc) ∧ acc.length < sizeLine ∧ (Same H1 (upd H4 C (.lst (acc ++ [y]))) ∧ upd H4 C (.lst (acc ++ [y])) C = some (.lst (out.take (i + 1))))) →
      g x (wipe σ vs) H'' fun σ2 H2 => wipe σ2 vs = wipe σ vs ∧ tt σ2 H2 fun b H3 =>
      if b = true then te σ2 H3 fun y H4 => ∃ acc, H4 C = some (.lst acc) ∧ acc.length < sizeLine ∧ (Same H1 (upd H4 C (.lst (acc ++ [y]))) ∧ upd H4 C (.lst (acc ++ [y])) C = some (.lst (out.take (i + 1)))) else (Same H1 H3 ∧ H3 C = some (.lst (out.take (i + 1)))))
    (hd : ∀ H', Same H1 H' → H' C = some (.lst out) → Qd H') :
    ∃ W : Nat → Nat → Hp → Prop, (∃ m, W 0 m (upd H1 C (.lst []))) ∧ ∀ i m H, W i m H →
      (J.stop i H ∧ Qd H) ∨ (J.go i H ∧ ∃ Nx : Hp → Prop, (∀ H', Nx H' → ∃ m', m' < m ∧ W (i + 1) m' H') ∧ ∀ x H', J.yld i H x H' → g x (wipe σ vs) H' fun σ2 H2 => wipe σ2 vs = wipe σ vs ∧ tt σ2 H2 fun b H3 =>
        if b = true then te σ2 H3 fun y H4 => ∃ acc, H4 C = some (.lst acc) ∧ acc.length < sizeLine ∧ Nx (upd H4 C (.lst (acc ++ [y]))) else Nx H3) := by
  refine lc_it w (fun i H' => Same H1 H' ∧ H' C = some (.lst (out.take i))) ⟨same_new hC, upd_same⟩ (fun i H' _ h => hG H' h.1) (fun i x H' H'' hi h hy => ?_) (fun H' h => hd H' h.1 ?_)
  · refine hs i x H' H'' hi h.1 hy fun y H4 e s => ⟨out.take i, s _ _ h.2, ?_, Zn.Same.mut (h.1.trans s) hC, ?_⟩
    · rw [List.length_take]
      exact lt_line (by omega)
    · rw [upd_same, take_snoc e]
  · rw [h.2, List.take_of_length_le (by omega)]
theorem r_zip {K : PySem.W.Frag} {ta : TA} {σ : L2.St} {H : Hp} {R : It → Hp → Prop} (q : ta σ H fun vs H1 => ∃ a b xs ys, vs = [.ref a, .ref b] ∧ ((SqL K H1 a xs ∧ SqL K H1 b ys ∧ R (Itz K a b) H1) ∨ (SqT K H1 a xs ∧ SqT K H1 b ys ∧ R (RZ.ItzT K a b) H1))) : RZ.iZipA K ta σ H R := q
theorem r_zip2 {K : PySem.W.Frag} {H1 : Hp} {a b : Addr} {xs ys : List V} {R1 R2 : Addr → Addr → Prop} (h1 : SqT K H1 a xs) (h2 : SqT K H1 b ys) (q : R2 a b) :
    ∃ a' b' xs ys, [V.ref a, V.ref b] = [.ref a', .ref b'] ∧ ((SqL K H1 a' xs ∧ SqL K H1 b' ys ∧ R1 a' b') ∨ (SqT K H1 a' xs ∧ SqT K H1 b' ys ∧ R2 a' b')) := ⟨a, b, xs, ys, rfl, .inr ⟨h1, h2, q⟩⟩
theorem r_all {K : PySem.W.Frag} {H : Hp} {Q : VK} {a : Addr} {bs : List Bool} (h : SqL K H a (bs.map V.bl)) (q : Q (.bl (bs.all id)) H) : rAll K [.ref a] H Q := ⟨a, bs, rfl, h, q⟩
theorem r_any {K : PySem.W.Frag} {H : Hp} {Q : VK} {a : Addr} {bs : List Bool} (h : SqL K H a (bs.map V.bl)) (q : Q (.bl (bs.any id)) H) : rAny K [.ref a] H Q := ⟨a, bs, rfl, h, q⟩
theorem r_anyI {K : PySem.W.Frag} {H : Hp} {Q : VK} {a : Addr} {ns : List Int} (h : SqL K H a (ns.map V.int)) (q : Q (.bl (ns.any (· != 0))) H) : rAnyI K [.ref a] H Q := ⟨a, ns, rfl, h, q⟩
theorem r_sum {K : PySem.W.Frag} {H : Hp} {Q : VK} {a : Addr} {ns : List Int} (h : SqL K H a (ns.map V.int)) (q : Q (.int ns.sum) H) : rSum K [.ref a] H Q := ⟨a, ns, rfl, h, q⟩
end Zn
namespace Zn
open PySem PySem.Spec PyProof.Rows L2 TL
theorem r_rep {H : Hp} {Q : VK} {p : Addr} {k : Int} {xs : List V} (h : H p = some (.lst xs)) (h0 : -(2 ^ 63) ≤ k) (h1 : k < 2 ^ 63) (h2 : xs.length * k.toNat ≤ sizeLine) (q : ∀ c, H c = none → Q (.ref c) (upd H c (.lst (List.replicate k.toNat xs).flatten))) : rRep (.ref p) (.int k) H Q := ⟨p, k, xs, rfl, rfl, h, h0, h1, h2, q⟩
theorem rep_one {v : V} (n : Nat) : (List.replicate n [v]).flatten = List.replicate n v := by
  induction n with
  | zero => rfl
  | succ n ih => rw [List.replicate_succ, List.flatten_cons, ih]; rfl
theorem cutV_to {xs : List V} (n : Nat) : cutV xs none (some (n : Int)) = xs.take n := by
  unfold cutV
  rw [HT.sIx_nat]
  show (xs.drop 0).take (min n xs.length - 0) = _
  rw [List.drop_zero, Nat.sub_zero]
  by_cases h : n ≤ xs.length
  · rw [Nat.min_eq_left h]
  · rw [Nat.min_eq_right (by omega), List.take_of_length_le (Nat.le_refl _), List.take_of_length_le (by omega)]
theorem cutV_from {xs : List V} (n : Nat) : cutV xs (some (n : Int)) none = xs.drop n := by
  unfold cutV
  rw [HT.sIx_nat]
  show (xs.drop (min n xs.length)).take (xs.length - min n xs.length) = _
  by_cases h : n ≤ xs.length
  · rw [Nat.min_eq_left h, List.take_of_length_le (by rw [List.length_drop]; omega)]
  · rw [Nat.min_eq_right (by omega), List.drop_of_length_le (Nat.le_refl _), List.drop_of_length_le (by omega), List.take_nil]
theorem ints_at {ns : List Int} {i : Int} {j : Nat} {u : Int} (e : i = (j : Int)) (h : ns[j]? = some u) : atI (ns.map V.int) i = some (.int u) := atI_lt e (by rw [List.getElem?_map, h]; rfl)
theorem getD_at {ns : List Int} {j : Nat} (h : j < ns.length) : ns[j]? = some (ns.getD j 0) := by
  rw [List.getD_eq_getElem?_getD, List.getElem?_eq_getElem h]
  rfl
end Zn
namespace Zn
open PySem PySem.Spec PyProof.Rows L2 TL
/-- a comprehension that draws: R tells of what is made so far -/
theorem lcK {J : It} {n : Nat} {G : Hp → Prop} {Y : Nat → Hp → V → Hp → Prop} (w : Walk J n G Y) (S : List Addr) (R : Hp → List V → Prop) {d c : Addr} {g : TG} {tt : TT} {te : TE} {vs : List Nat} {σ : L2.St} {H1 : Hp} {C : Addr} {Qd : Hp → Prop}
    (hz : n < 100000) (hC : H1 C = none) (hCS : C ∉ S) (hD : Drw H1 d c) (hG : ∀ H', Kp S H1 H' → G H')
    (stab : ∀ H H' xs, Kp (C :: S) H H' → R H xs → R H' xs) (h0 : R (upd H1 C (.lst [])) [])
    (hs : ∀ i x H' H'' xs, i < n → Kp S H1 H' → Drw H' d c → H' C = some (.lst xs) → xs.length = i → R H' xs → Y i H' x H'' → (∀ y H4, Kp S H' H4 → Drw H4 d c → R H4 (xs ++ [y]) → ∃ acc, H4 C = some (.lst acc) ∧ acc.length < sizeLine ∧ (∃ zs, Kp S H1 (upd H4 C (.lst (acc ++ [y]))) ∧ Drw (upd H4 C (.lst (acc ++ [y]))) d c ∧ upd H4 C (.lst (acc ++ [y])) C = some (.lst zs) ∧ zs.length = i + 1 ∧ R (upd H4 C (.lst (acc ++ [y]))) zs)) →
      g x (wipe σ vs) H'' fun σ2 H2 => wipe σ2 vs = wipe σ vs ∧ tt σ2 H2 fun b H3 =>
      if b = true then te σ2 H3 fun y H4 => ∃ acc, H4 C = some (.lst acc) ∧ acc.length < sizeLine ∧ (∃ zs, Kp S H1 (upd H4 C (.lst (acc ++ [y]))) ∧ Drw (upd H4 C (.lst (acc ++ [y]))) d c ∧ upd H4 C (.lst (acc ++ [y])) C = some (.lst zs) ∧ zs.length = i + 1 ∧ R (upd H4 C (.lst (acc ++ [y]))) zs)
      else (∃ zs, Kp S H1 H3 ∧ Drw H3 d c ∧ H3 C = some (.lst zs) ∧ zs.length = i + 1 ∧ R H3 zs))
    (hd : ∀ H' xs, Kp S H1 H' → Drw H' d c → H' C = some (.lst xs) → xs.length = n → R H' xs → Qd H') :
    ∃ W : Nat → Nat → Hp → Prop, (∃ m, W 0 m (upd H1 C (.lst []))) ∧ ∀ i m H, W i m H →
      (J.stop i H ∧ Qd H) ∨ (J.go i H ∧ ∃ Nx : Hp → Prop, (∀ H', Nx H' → ∃ m', m' < m ∧ W (i + 1) m' H') ∧ ∀ x H', J.yld i H x H' → g x (wipe σ vs) H' fun σ2 H2 => wipe σ2 vs = wipe σ vs ∧ tt σ2 H2 fun b H3 =>
        if b = true then te σ2 H3 fun y H4 => ∃ acc, H4 C = some (.lst acc) ∧ acc.length < sizeLine ∧ Nx (upd H4 C (.lst (acc ++ [y]))) else Nx H3) := by
  refine lc_it w (fun i H' => ∃ zs, Kp S H1 H' ∧ Drw H' d c ∧ H' C = some (.lst zs) ∧ zs.length = i ∧ R H' zs) ⟨[], (Kp.refl _ _).new hC, hD.same (same_new hC), upd_same, rfl, h0⟩ (fun i H' _ ⟨_, k, _⟩ => hG H' k) (fun i x H' H'' hi ⟨zs, k, D, hz', hl, r⟩ hy => ?_) (fun H' ⟨zs, k, D, hz', hl, r⟩ => hd H' zs k D hz' hl r)
  refine hs i x H' H'' zs hi k D hz' hl r hy fun y H4 k4 D4 r4 => ?_
  have h4 := k4.x _ _ hCS hz'
  refine ⟨zs, h4, lt_line (by omega), zs ++ [y], (k.trans k4).mut hC h4, D4.upd (hD.nd hC) (hD.nc hC), upd_same, by rw [List.length_append, hl]; rfl, ?_⟩
  exact stab H4 _ _ ((Kp.refl _ _).set List.mem_cons_self h4) r4
theorem notin1 {a d : Addr} (h : a ≠ d) : a ∉ [d] := by simpa using h
theorem notin2 {a d e : Addr} (h : a ≠ d) (k : a ≠ e) : a ∉ [d, e] := by simp [h, k]
theorem small0 {w : Int} (h1 : 0 ≤ w) (h8 : w ≤ 8) : 1 ≤ (2 : Int) ^ w.toNat ∧ (2 : Int) ^ w.toNat ≤ 256 := by
  have : w = 0 ∨ w = 1 ∨ w = 2 ∨ w = 3 ∨ w = 4 ∨ w = 5 ∨ w = 6 ∨ w = 7 ∨ w = 8 := by omega
  rcases this with h | h | h | h | h | h | h | h | h <;> subst h <;> decide
theorem ixN_at {n : Nat} {i : Int} (h0 : 0 ≤ i) (h1 : i < (n : Int)) : ixN n i = some i.toNat := by
  have h1' : i.toNat < n := by omega
  unfold ixN
  simp [h0, h1, h1']
theorem ints_ex {ns : List Int} {i : Int} (h0 : 0 ≤ i) (h1 : i < (ns.length : Int)) : atI (ns.map V.int) i = some (.int (ns.getD i.toNat 0)) := ints_at (j := i.toNat) (by omega) (getD_at (by omega))
theorem getD_mem {ns : List Int} {j : Nat} (h : j < ns.length) : ns.getD j 0 ∈ ns := List.mem_of_getElem? (getD_at h)
end Zn
/-! places within a def's own text, by numbers -/
namespace Zn
open PySem
def exK : Expr → List Expr
  | .BoolOp _ vs _ => vs
  | .BinOp l _ r _ => [l, r]
  | .UnaryOp _ o _ => [o]
  | .IfExp t b o _ => [t, b, o]
  | .ListComp e gs _ _ => e :: gs.flatMap fun g => g.iter :: g.ifs
  | .Compare l _ cs _ => l :: cs
  | .Call f as _ _ => f :: as
  | .Attribute v _ _ => [v]
  | .Subscript v s _ => [v, s]
  | .Starred v _ => [v]
  | .List es _ => es
  | .Tuple es _ _ => es
  | _ => []
def stK : Stmt → List Expr
  | .Return (some v) _ => [v]
  | .Assign ts v _ => v :: ts
  | .AugAssign t _ v _ => [v, t]
  | .For t i _ _ _ => [i, t]
  | .While t _ _ _ => [t]
  | .If t _ _ _ => [t]
  | .Expr v _ => [v]
  | _ => []
def blK : Stmt → List (List Stmt)
  | .For _ _ b _ _ => [b]
  | .While _ b _ _ => [b]
  | .If _ b o _ => [b, o]
  | _ => []
def p0 : Pos := ⟨0, 0, 0, 0⟩
def stA (ss : List Stmt) (i : Nat) : Stmt := ss.getD i (.Pass p0)
def blA (s : Stmt) (i : Nat) : List Stmt := (blK s).getD i []
def exA (s : Stmt) (i : Nat) : Expr := (stK s).getD i (.Name "" p0)
def exP (e : Expr) : List Nat → Expr
  | [] => e
  | i :: is => exP ((exK e).getD i (.Name "" p0)) is
def lcS (d : Scope) : Expr → Scope
  | .ListComp _ _ s _ => s
  | _ => d
end Zn
namespace Zn
open PySem PySem.Spec PyProof.Rows L2
theorem lookup_relabF {f : Str × NameKind → Str × NameKind} (hf : ∀ n k, f (n, k) = (n, .cell) ∨ f (n, k) = (n, k)) : ∀ {names : List (Str × NameKind)} {x : Str}, names.lookup x = some .cell ∨ names.lookup x = some .free → (names.map f).lookup x = some .cell ∨ (names.map f).lookup x = some .free
  | [], _, h => by simp at h
  | (n, k) :: names, x, h => by
    rw [List.map_cons]
    rw [List.lookup_cons] at h
    rcases hf n k with e | e <;> rw [e, List.lookup_cons] <;> cases hx : x == n <;> rw [hx] at h
    · exact lookup_relabF hf h
    · exact .inl rfl
    · exact lookup_relabF hf h
    · exact h
theorem lookup_relab {env : Env} {names : List (Str × NameKind)} {x : Str} (h : names.lookup x = some .cell ∨ names.lookup x = some .free) :
    (names.map fun (n, k) => if (k == NameKind.free && env.scope.kind == .function && env.kindOf n == some .cell) then (n, NameKind.cell) else (n, k)).lookup x = some .cell ∨ (names.map fun (n, k) => if (k == NameKind.free && env.scope.kind == .function && env.kindOf n == some .cell) then (n, NameKind.cell) else (n, k)).lookup x = some .free := by
  refine lookup_relabF (fun n k => ?_) h
  dsimp only
  split
  · exact .inl rfl
  · exact .inr rfl
theorem blk2 {N : List Str} {sc scope : Scope} {own : List (Str × Nat)} {env : Env} (h : BlkOk N sc scope own) : BlkOk N (relabel sc env) scope own :=
  ⟨h.kind, h.uniq, h.ix, fun y hy e => lookup_relab (h.free y hy e), h.own⟩
end Zn
namespace Zn
open PySem PySem.Spec PyProof.Rows L2 TL
theorem r_tupOfL {K : PySem.W.Frag} {H : Hp} {p : Addr} {ys : List V} {R : V → Hp → Prop} (h : SqL K H p ys) (q : ∀ l, H l = none → R (.ref l) (upd H l (.tup ys))) :
    ∃ p' ys', [V.ref p] = [V.ref p'] ∧ ((SqL K H p' ys' ∧ ∀ l, H l = none → R (.ref l) (upd H l (.tup ys'))) ∨ (SqT K H p' ys' ∧ R (.ref p') H)) := ⟨p, ys, rfl, .inl ⟨h, q⟩⟩
theorem r_tupOfT {K : PySem.W.Frag} {H : Hp} {p : Addr} {ys : List V} {R : V → Hp → Prop} (h : SqT K H p ys) (q : R (.ref p) H) :
    ∃ p' ys', [V.ref p] = [V.ref p'] ∧ ((SqL K H p' ys' ∧ ∀ l, H l = none → R (.ref l) (upd H l (.tup ys'))) ∨ (SqT K H p' ys' ∧ R (.ref p') H)) := ⟨p, ys, rfl, .inr ⟨h, q⟩⟩
theorem r_lst1 {K : PySem.W.Frag} {H : Hp} {p : Addr} {ys : List V} {R : V → Hp → Prop} (h : SqL K H p ys ∨ SqT K H p ys) (q : ∀ l, H l = none → R (.ref l) (upd H l (.lst ys))) :
    ∃ p' ys', [V.ref p] = [V.ref p'] ∧ (SqL K H p' ys' ∨ SqT K H p' ys') ∧ ∀ l, H l = none → R (.ref l) (upd H l (.lst ys')) := ⟨p, ys, rfl, h, q⟩
theorem cutV_most {xs : List V} : cutV xs none (some (-1)) = xs.take (xs.length - 1) := by
  unfold cutV
  have e : HT.sIx xs.length xs.length (some (-1)) = xs.length - 1 := by
    show (if (-1 : Int) < 0 then ((-1 : Int) + (xs.length : Int)).toNat else min (-1 : Int).toNat xs.length) = _
    rw [if_pos (by decide)]
    omega
  rw [e]
  show (xs.drop 0).take (xs.length - 1 - 0) = _
  rw [List.drop_zero, Nat.sub_zero]
theorem atI_end {α : Type} {xs : List α} {v : α} (h : xs[xs.length - 1]? = some v) : atI xs (-1) = some v := by
  have hl : xs.length - 1 < xs.length := (List.getElem?_eq_some_iff.mp h).1
  have e : ixN xs.length (-1) = some (xs.length - 1) := by
    unfold ixN
    rw [if_neg (by decide), if_pos (by omega)]
    congr 1
    omega
  unfold atI
  rw [e]
  exact h
theorem map_cutV {ns : List Int} {lo hi : Option Int} : ∃ ms : List Int, cutV (ns.map V.int) lo hi = ms.map V.int ∧ ms.length ≤ ns.length := by
  unfold cutV
  rw [← List.map_drop, ← List.map_take]
  refine ⟨_, rfl, ?_⟩
  rw [List.length_take, List.length_drop]
  omega
end Zn
namespace Zn
open PySem PySem.Spec PyProof.Rows L2 TL
abbrev rTupOf (K : PySem.W.Frag) : List V → Hp → VK → Prop := fun xs H Q => ∃ p ys, xs = [.ref p] ∧ ((SqL K H p ys ∧ ∀ l, H l = none → Q (.ref l) (upd H l (.tup ys))) ∨ (SqT K H p ys ∧ Q (.ref p) H))
abbrev rLstOf (K : PySem.W.Frag) : List V → Hp → VK → Prop := fun xs H Q => ∃ p ys, xs = [.ref p] ∧ (SqL K H p ys ∨ SqT K H p ys) ∧ ∀ l, H l = none → Q (.ref l) (upd H l (.lst ys))
abbrev rLenS (K : PySem.W.Frag) : List V → Hp → VK → Prop := fun xs H Q => ∃ p ys, xs = [.ref p] ∧ (SqL K H p ys ∨ SqT K H p ys) ∧ Q (.int ys.length) H
end Zn
namespace Zn
open PySem PySem.Spec PyProof.Rows L2 TL
theorem r_tpL {K : PySem.W.Frag} {H : Hp} {p : Addr} {ys : List V} {Q : VK} (h : SqL K H p ys) (q : ∀ l, H l = none → Q (.ref l) (upd H l (.tup ys))) : rTupOf K [.ref p] H Q := ⟨p, ys, rfl, .inl ⟨h, q⟩⟩
theorem r_tpT {K : PySem.W.Frag} {H : Hp} {p : Addr} {ys : List V} {Q : VK} (h : SqT K H p ys) (q : Q (.ref p) H) : rTupOf K [.ref p] H Q := ⟨p, ys, rfl, .inr ⟨h, q⟩⟩
theorem r_lsO {K : PySem.W.Frag} {H : Hp} {p : Addr} {ys : List V} {Q : VK} (h : SqL K H p ys ∨ SqT K H p ys) (q : ∀ l, H l = none → Q (.ref l) (upd H l (.lst ys))) : rLstOf K [.ref p] H Q := ⟨p, ys, rfl, h, q⟩
theorem r_lnS {K : PySem.W.Frag} {H : Hp} {p : Addr} {ys : List V} {Q : VK} (h : SqL K H p ys ∨ SqT K H p ys) (q : Q (.int ys.length) H) : rLenS K [.ref p] H Q := ⟨p, ys, rfl, h, q⟩
theorem cat_ints {a b : List Int} : a.map V.int ++ b.map V.int = (a ++ b).map V.int := List.map_append.symm
theorem cat_int1 {a : List Int} {u : Int} : a.map V.int ++ [V.int u] = (a ++ [u]).map V.int := by rw [List.map_append]; rfl
end Zn
local macro_rules | `(tactic| walk_at "rs1") => `(tactic| first
  | (with_reducible refine Zn.r_ss ?_)
  | (with_reducible refine Zn.r_chain ?_)
  | (with_reducible refine Zn.r_M1 ?_)
  | (with_reducible refine Zn.r_truI ?_)
  | ((with_reducible refine' Zn.r_truL ?h ?_); (case h => walk_at "fd"))
  | ((with_reducible refine' Zn.r_truT ?h ?_); (case h => walk_at "fd"))
  | (with_reducible refine Zn.r_exS ?_)
  | (with_reducible refine Zn.r_s1 ?_)
  | (with_reducible refine Zn.r_sign ?_)
  | ((with_reducible refine Zn.r_slS ?h ?_); (case h => first | assumption | omega))
  | (with_reducible refine Zn.r_lenS ?_)
  | (with_reducible refine Zn.r_istr ?_)
  | (with_reducible refine Zn.r_1s ?_)
  | ((with_reducible refine Zn.r_62 ?h1 ?h2 ?_); (case h1 => first | omega | decide); (case h2 => first | omega | decide))
  | ((with_reducible refine' Zn.r_inY ?h ?e1 ?e2 ?_); (case h => first | exact .inr (Zn.st_of (by walk_at "fd")) | exact .inl (Zn.sl_of (by walk_at "fd")) | exact .inl (by assumption) | exact .inr (by assumption)); (case e1 => rfl); (case e2 => rfl))
  | ((with_reducible refine' Zn.r_inN ?h ?e1 ?e2 ?_); (case h => first | exact .inr (Zn.st_of (by walk_at "fd")) | exact .inl (Zn.sl_of (by walk_at "fd")) | exact .inl (by assumption) | exact .inr (by assumption)); (case e1 => rfl); (case e2 => rfl))
  | (with_reducible refine Zn.r_while ?_)
  | (with_reducible refine Zn.r_zip ?_)
  | (walk_at "rd1")
  | ((with_reducible refine' Zn.r_ixT ?h ?e ?_); (case h => first | exact Zn.st_of (by walk_at "fd") | assumption); (case e => first | exact Zn.at1 | exact Zn.at2 | exact Zn.at3 | exact Zn.at0 | exact Zn.at4))
  | ((with_reducible refine Zn.r_lz ?h ?_); (case h => first | assumption | omega)))
local macro_rules | `(tactic| walk_at "rs") => `(tactic| ((try dsimp only); (repeat ((walk_at "rs1"); (try dsimp only)))))
local macro_rules | `(tactic| walk_at "rt") => `(tactic| ((try dsimp only); (repeat ((fail_if_success (with_reducible refine Zn.r_seq ?_)); (walk_at "rs1"); (try dsimp only)))))
namespace Zn
open PySem PySem.Spec PyProof.Rows L2 TL
abbrev s_judge_multipliers : Stmt := topS 1
theorem sc_judge_multipliers : FnScope ["width", "many", "rows", "multipliers", "top", "one", "at", "factors", "_", "constant"] ["width", "many", "rows", "multipliers"] (defScope s_judge_multipliers) := ⟨rfl, rfl, rfl, by decide +kernel, rfl, by decide +kernel, by decide +kernel⟩

abbrev s__law_rare : Stmt := topS 5
theorem sc__law_rare : FnScope ["_law_d", "_law_many"] ["_law_d", "_law_many"] (defScope s__law_rare) := ⟨rfl, rfl, rfl, by decide +kernel, rfl, by decide +kernel, by decide +kernel⟩

abbrev s__law_bar : Stmt := topS 6
theorem sc__law_bar : FnScope ["_law_width", "_law_many", "_law_rows", "_law_times", "_law_full", "_law_number", "_law_total", "_law_k", "_law_row", "_law_n"] ["_law_width", "_law_many", "_law_rows", "_law_times"] (defScope s__law_bar) := ⟨rfl, rfl, rfl, by decide +kernel, rfl, by decide +kernel, by decide +kernel⟩

abbrev s__law_lot : Stmt := topS 7
theorem sc__law_lot : FnScope ["_law_d", "_law_width", "_law_many", "_law_times", "_law_power", "_law_full", "_law_rows", "_law_n", "_law_k", "_law_at", "_law_back", "_law_word", "_law_rest"] ["_law_d", "_law_width", "_law_many", "_law_times", "_law_power"] (defScope s__law_lot) := ⟨rfl, rfl, rfl, by decide +kernel, rfl, by decide +kernel, by decide +kernel⟩

abbrev s__law_other_times : Stmt := topS 8
theorem sc__law_other_times : FnScope ["_law_d", "_law_width", "_law_times", "_law_full", "_law_odd", "_law_found", "_law_number", "_law_k", "_law_j", "_law_turned"] ["_law_d", "_law_width", "_law_times"] (defScope s__law_other_times) := ⟨rfl, rfl, rfl, by decide +kernel, rfl, by decide +kernel, by decide +kernel⟩

abbrev s__law_handed : Stmt := topS 9
theorem sc__law_handed : FnScope ["_law_rows", "_law_row"] ["_law_rows"] (defScope s__law_handed) := ⟨rfl, rfl, rfl, by decide +kernel, rfl, by decide +kernel, by decide +kernel⟩

abbrev s_law : Stmt := topS 10
theorem sc_law : FnScope ["_law_script", "_law_d", "_law_width", "_law_full", "_law_many", "_law_power", "_law_times", "_law_k", "_law_rows", "_law_number", "_law_asked", "_law_other", "_law_changed", "_law_row", "_law_at", "_law_n", "_law_pair", "_law_told"] ["_law_script"] (defScope s_law) := ⟨rfl, rfl, rfl, by decide +kernel, rfl, by decide +kernel, by decide +kernel⟩

structure Tx (mg : Str → Option Value) : Prop extends TDraw mg where
  z_all : mg "all" = none
  z_any : mg "any" = none
  z_isinstance : mg "isinstance" = none
  z_bool : mg "bool" = none
  z_list : mg "list" = none
  z_range : mg "range" = none
  z_sum : mg "sum" = none
  z_tuple : mg "tuple" = none
  z_zip : mg "zip" = none
abbrev RowI := List Int × Int
def IsRow (H : Hp) (v : V) (r : RowI) : Prop := ∃ t f, v = .ref t ∧ H t = some (.tup [.ref f, .int r.2]) ∧ H f = some (.tup (r.1.map V.int))
def IsRows (H : Hp) (R : Addr) (rows : List RowI) : Prop := ∃ rs : List V, H R = some (.tup rs) ∧ rs.length = rows.length ∧ ∀ (i : Nat) (v : V) (r : RowI), rs[i]? = some v → rows[i]? = some r → IsRow H v r
theorem IsRow.tp {H H' : Hp} {v : V} {r : RowI} (h : IsRow H v r) (k : Tp H H') : IsRow H' v r := by
  obtain ⟨t, f, e, h1, h2⟩ := h
  exact ⟨t, f, e, k _ _ h1, k _ _ h2⟩
theorem IsRows.tp {H H' : Hp} {R : Addr} {rows : List RowI} (h : IsRows H R rows) (k : Tp H H') : IsRows H' R rows := by
  obtain ⟨rs, h1, h2, h3⟩ := h
  exact ⟨rs, k _ _ h1, h2, fun i v r a b => (h3 i v r a b).tp k⟩
def full (w : Int) : Int := 1 * 2 ^ w.toNat - 1
def col (n : Nat) (rows : List RowI) : List Int := rows.map fun r => r.1.getD n 0
def dot (ts xs : List Int) : Int := (List.zipWith (· * ·) ts xs).sum
def inTop (w t : Int) : Bool := decide (0 ≤ t) && decide (t ≤ full w)
def okT (w : Int) (rows : List RowI) (ts : List Int) : Bool := decide (ts.length = rows.length) && ts.all (inTop w)
def barred (w : Int) (m : Nat) (rows : List RowI) (ts : List Int) : Bool :=
  okT w rows ts && ((List.range m).all (fun n => decide (Builtin.bitAnd (dot ts (col n rows)) (full w) = 0)) && !decide (Builtin.bitAnd (dot ts (rows.map (·.2))) (full w) = 0))
/-- both told the same way -/
def spBar (K : PySem.W.Frag) : Sp := fun vs H Q _ => ∃ (w : Int) (m : Nat) (R T : Addr) (rows : List RowI) (ts : List Int), vs = [.int w, .int m, .ref R, .ref T] ∧ 1 ≤ w ∧ w ≤ 8 ∧ m ≤ 6 ∧
  IsRows H R rows ∧ (∀ r ∈ rows, r.1.length = m) ∧ rows.length ≤ 100 ∧ H T = some (.tup (ts.map V.int)) ∧ ts.length ≤ 300 ∧ ∀ H', Same H H' → Q (.bl (barred w m rows ts)) H'
theorem full_le {w : Int} (h1 : 1 ≤ w) (h8 : w ≤ 8) : full w ≤ 255 := by
  have := small h1 h8
  unfold full
  omega
theorem inTop_iff {w t : Int} : inTop w t = true ↔ 0 ≤ t ∧ t ≤ full w := by
  unfold inTop
  simp
section
variable {P : Program} {w : World} {K : PySem.W.Frag} {mg : Str → Option Value} {base : Heap}
theorem lens_ne {a b : Nat} : (!decide (V.int (a : Int) = V.int (b : Int))) = !decide (a = b) := by
  congr 1
  rw [decide_eq_decide]
  exact ⟨fun h => by cases h; rfl, fun h => by rw [h]⟩
theorem ok_judge {f : Addr} {fd : FuncData} (F : Fun K "judge_multipliers" "judge_multipliers" s_judge_multipliers f fd) (T : Tx mg) : FnOk P w K mg base CX0 1 f fd ["width", "many", "rows", "multipliers"] (spBar K) := by
  refine F.ok sc_judge_multipliers (fun vs H Q E h => ?_) (fun cdv A outer s H vs Q E hr h => ?_)
  · obtain ⟨w, m, R, T, rows, ts, rfl, _⟩ := h
    rfl
  · obtain ⟨w, m, R, Ta, rows, ts, rfl, w1, w8, m6, hR, hm, hrl, hT, htl, q⟩ := h
    refine ⟨_, 
      (pss_cons (ps_set (i := 4) sc_judge_multipliers.nd rfl (Or.inr rfl) (pe_op op_sub (pe_op op_shl pe_int (pv 0)) pe_int))
      (pss_cons (ps_if (PW.pt (pw_or (pt_cmpR op_ne (pe_callB call_len_seq (by rfl) T.z_len (by decide +kernel) (pa_cons (pv 3) pa_nil)) (pe_callB call_len_seq (by rfl) T.z_len (by decide +kernel) (pa_cons (pv 2) pa_nil)) (nomark _)) (pw_or1 (pt_not (pt_val (pe_callB (cr_all rfl) (by rfl) T.z_all (by decide +kernel) (pa_cons (pe_lc (own := [("one", 5)]) rfl sc_judge_multipliers.nd (pi_tup (pv 3)) (blkOk_by (N := ["width", "many", "rows", "multipliers", "top", "one", "at", "factors", "_", "constant"]) (sc := defScope s_judge_multipliers) (by decide +kernel)) (fun _ _ _ _ _ => (pg_name (i := 5) sc_judge_multipliers.nd rfl (Or.inl rfl))) (fun _ _ _ _ _ => pts_nil) (fun _ _ _ _ _ => (pe_chain op_le op_le pe_int (pv 5) (pv 4)))) pa_nil))))))) 
       (pss_one (ps_ret pe_bl)) pss_nil)
      (pss_cons (ps_for PassesOwn.never rfl (pi_range1 (by rfl) T.z_range (pa_cons (pv 1) pa_nil)) (pg_name (i := 6) sc_judge_multipliers.nd rfl (Or.inr rfl)) 
       (pss_one (ps_if (pt_cmpR op_ne (pe_op op_and (pe_callB (cr_sum rfl) (by rfl) T.z_sum (by decide +kernel) (pa_cons (pe_lc (own := [("one", 5), ("factors", 7), ("_", 8)]) (g := gTup K 2 (gCons (gName 5) (gCons (gTup K 2 (gCons (gName 7) (gCons (gName 8) gNil))) gNil))) rfl sc_judge_multipliers.nd (RZ.pi_zipA (by rfl) T.z_zip (pa_cons (pv 3) (pa_cons (pv 2) pa_nil))) (blkOk_by (N := ["width", "many", "rows", "multipliers", "top", "one", "at", "factors", "_", "constant"]) (sc := defScope s_judge_multipliers) (by decide +kernel)) (fun _ _ _ _ _ => (pg_tup (by rfl) (pgs_cons (pg_name (i := 5) sc_judge_multipliers.nd rfl (Or.inl rfl)) (pgs_cons (pg_tup (by rfl) (pgs_cons (pg_name (i := 7) sc_judge_multipliers.nd rfl (Or.inl rfl)) (pgs_cons (pg_name (i := 8) sc_judge_multipliers.nd rfl (Or.inl rfl)) pgs_nil))) pgs_nil)))) (fun _ _ _ _ _ => pts_nil) (fun _ _ _ _ _ => (pe_op op_mul (pv 5) (pe_ix (r := rIxT K) ix_tup (pv 7) (pv 6) (fun _ _ => rfl))))) pa_nil)) (pv 4)) pe_int (nomark _)) 
        (pss_one (ps_ret pe_bl)) pss_nil)))
      (pss_one (ps_ret (pe_cmpR op_ne (pe_op op_and (pe_callB (cr_sum rfl) (by rfl) T.z_sum (by decide +kernel) (pa_cons (pe_lc (own := [("one", 5), ("_", 8), ("constant", 9)]) (g := gTup K 2 (gCons (gName 5) (gCons (gTup K 2 (gCons (gName 8) (gCons (gName 9) gNil))) gNil))) rfl sc_judge_multipliers.nd (RZ.pi_zipA (by rfl) T.z_zip (pa_cons (pv 3) (pa_cons (pv 2) pa_nil))) (blkOk_by (N := ["width", "many", "rows", "multipliers", "top", "one", "at", "factors", "_", "constant"]) (sc := defScope s_judge_multipliers) (by decide +kernel)) (fun _ _ _ _ _ => (pg_tup (by rfl) (pgs_cons (pg_name (i := 5) sc_judge_multipliers.nd rfl (Or.inl rfl)) (pgs_cons (pg_tup (by rfl) (pgs_cons (pg_name (i := 8) sc_judge_multipliers.nd rfl (Or.inl rfl)) (pgs_cons (pg_name (i := 9) sc_judge_multipliers.nd rfl (Or.inl rfl)) pgs_nil))) pgs_nil)))) (fun _ _ _ _ _ => pts_nil) (fun _ _ _ _ _ => (pe_op op_mul (pv 5) (pv 9)))) pa_nil)) (pv 4)) pe_int (nomark _))))))), ?_⟩
    have hf := full_le w1 w8
    obtain ⟨rs, hRs, hlen, hrow⟩ := hR
    walk_at "rs"
    have eL : (ts.map V.int).length = ts.length := List.length_map ..
    refine ite2 (fun h => ?_) (fun h => ?_)
    · walk_at "rs"
      have e : barred w m rows ts = false := by
        unfold barred okT
        rw [eL, lens_ne] at h
        have h' : ¬ ts.length = rows.length := by
          rw [← hlen]
          simpa using h
        rw [decide_eq_false h']
        rfl
      rw [← e]
      exact q _ (Same.refl _)
    · have hl : ts.length = rs.length := by
        rw [eL, lens_ne] at h
        simpa using h
      walk_at "rs"
      refine r_ref ⟨_, st_of hT⟩ fun C hC => ?_
      refine lcM walk_tup (((ts.map (inTop w))).map V.bl) (by rw [List.length_map, List.length_map, List.length_map]) (by omega) hC (fun H' k => st_of (k _ _ hT)) (fun i x H' H'' hi k hy put => ?_) (fun H1 s1 h1 => ?_)
      · obtain ⟨rfl, hx⟩ := hy
        obtain ⟨u, rfl, hu⟩ := map_get hx
        have put' : ∀ b, inTop w u = b → _ := fun b e => put (.bl b) H'' (by rw [List.getElem?_map, List.getElem?_map, hu]; exact congrArg (fun z => some (V.bl z)) e) (Same.refl _)
        walk_at "rs"
        refine ⟨rfl, ?_⟩
        walk_at "rs"
        refine ite2 (fun h2 => ?_) (fun h2 => ?_)
        · walk_at "rs"
          exact put' _ (by unfold inTop full; rw [h2]; rfl)
        · walk_at "rs"
          refine put' _ ?_
          have h2 : ¬ 0 ≤ u := fun z => h2 (decide_eq_true z)
          unfold inTop
          rw [decide_eq_false h2]
          rfl
      · walk_at "rs"
        refine r_all (sl_of h1) ?_
        walk_at "rs"
        refine ite2 (fun h => ?_) (fun h => ?_)
        · walk_at "rs"
          have e : barred w m rows ts = false := by
            unfold barred okT
            rw [List.all_map] at h
            have : ts.all (inTop w) = false := by simpa using h
            rw [this, Bool.and_false]
            rfl
          rw [← e]
          exact q _ s1
        · have hin : ts.all (inTop w) = true := by
            rw [List.all_map] at h
            simpa using h
          have hok : okT w rows ts = true := by
            unfold okT
            rw [decide_eq_true (hl.trans hlen), hin]
            rfl
          have hb : ∀ t ∈ ts, 0 ≤ t ∧ t ≤ 255 := fun t ht => by
            have := inTop_iff.mp (List.all_eq_true.mp hin t ht)
            omega
          have hmin : ts.length = min (ts.map V.int).length rs.length := by rw [eL]; omega
          walk_at "rs"
          refine fr (fun i σ H' => ∃ v5 v6 v7 v8 v9, σ = [some (.int w), some (.int (m : Int)), some (.ref R), some (.ref Ta), some (.int (full w)), v5, v6, v7, v8, v9] ∧ Same H H' ∧ (List.range i).all (fun n => decide (Builtin.bitAnd (dot ts (col n rows)) (full w) = 0)) = true) ⟨_, _, _, _, _, rfl, s1, rfl⟩ ?_ ?_
          · rintro i σ H2 hi ⟨v5, v6, v7, v8, v9, rfl, s2, hall⟩
            have hi : i < m := by omega
            walk_at "rs"
            refine r_zip2 (K := K) (st_of (s2 _ _ hT)) (st_of (s2 _ _ hRs)) fun C2 hC2 => ?_
            refine lcM (walk_zipT hmin) ((List.zipWith (· * ·) ts (col i rows)).map V.int) (by rw [List.length_map, List.length_zipWith, col, List.length_map]; omega) (by omega) hC2 (fun H' k => ⟨st_of (k _ _ (s2 _ _ hT)), st_of (k _ _ (s2 _ _ hRs))⟩) (fun j x H3 H4 hj k hy put => ?_) (fun H3 s3 h3 => ?_)
            · obtain ⟨Tq, x, y, rfl, hTq, rfl, hx, hy⟩ := hy
              obtain ⟨u, rfl, hu⟩ := map_get hx
              have hjr : j < rows.length := by omega
              obtain ⟨t, fa, rfl, ht, hfa⟩ := hrow j y rows[j] hy (List.getElem?_eq_getElem hjr)
              have ht := k _ _ (s2 _ _ ht)
              have hfa := k _ _ (s2 _ _ hfa)
              have hbu := hb u (List.mem_of_getElem? hu)
              have hrl := hm rows[j] (List.getElem_mem _)
              walk_at "rs"
              refine ⟨rfl, ?_⟩
              walk_at "rs"
              refine r_ixT (v := .int (rows[j].1.getD i 0)) (st_of (by walk_at "fd")) (atI_lt (j := i) (by omega) (by rw [List.getElem?_map, List.getElem?_eq_getElem (by omega), List.getD_eq_getElem?_getD, List.getElem?_eq_getElem (by omega)]; rfl)) ?_
              walk_at "rs"
              refine put _ _ ?_ (same_new hTq)
              rw [List.getElem?_map, List.getElem?_zipWith, hu, col, List.getElem?_map, List.getElem?_eq_getElem hjr]
              rfl
            · walk_at "rs"
              refine r_sum (sl_of h3) ?_
              walk_at "rs"
              have hd : (List.zipWith (· * ·) ts (col i rows)).sum = dot ts (col i rows) := rfl
              rw [hd]
              refine ite2 (fun h => ?_) (fun h => ?_)
              · walk_at "rs"
                have hne : ¬ Builtin.bitAnd (dot ts (col i rows)) (full w) = 0 := by
                  intro z
                  rw [z, decide_eq_true rfl] at h
                  cases h
                have e : barred w m rows ts = false := by
                  unfold barred
                  have : (List.range m).all (fun n => decide (Builtin.bitAnd (dot ts (col n rows)) (full w) = 0)) = false := by
                    rw [List.all_eq_false]
                    exact ⟨i, List.mem_range.mpr hi, by simpa using hne⟩
                  rw [this, Bool.false_and, Bool.and_false]
                rw [← e]
                exact q _ (s2.trans s3)
              · have h0 : Builtin.bitAnd (dot ts (col i rows)) (full w) = 0 := by
                  have h' : decide (V.int (Builtin.bitAnd (dot ts (col i rows)) (full w)) = V.int 0) = true := by simpa using h
                  exact V.int.inj (of_decide_eq_true h')
                walk_at "rs"
                refine ⟨_, _, _, _, _, rfl, s2.trans s3, ?_⟩
                rw [List.range_succ, List.all_append, hall, Bool.true_and, List.all_cons, h0]
                rfl
          · rintro σ H2 ⟨v5, v6, v7, v8, v9, rfl, s2, hall⟩
            walk_at "rs"
            refine r_zip2 (K := K) (st_of (s2 _ _ hT)) (st_of (s2 _ _ hRs)) fun C2 hC2 => ?_
            refine lcM (walk_zipT hmin) ((List.zipWith (· * ·) ts (rows.map (·.2))).map V.int) (by rw [List.length_map, List.length_zipWith, List.length_map]; omega) (by omega) hC2 (fun H' k => ⟨st_of (k _ _ (s2 _ _ hT)), st_of (k _ _ (s2 _ _ hRs))⟩) (fun j x H3 H4 hj k hy put => ?_) (fun H3 s3 h3 => ?_)
            · obtain ⟨Tq, x, y, rfl, hTq, rfl, hx, hy⟩ := hy
              obtain ⟨u, rfl, hu⟩ := map_get hx
              have hjr : j < rows.length := by omega
              obtain ⟨t, fa, rfl, ht, hfa⟩ := hrow j y rows[j] hy (List.getElem?_eq_getElem hjr)
              have ht := k _ _ (s2 _ _ ht)
              have hbu := hb u (List.mem_of_getElem? hu)
              walk_at "rs"
              refine ⟨rfl, ?_⟩
              walk_at "rs"
              refine put _ _ ?_ (same_new hTq)
              rw [List.getElem?_map, List.getElem?_zipWith, hu, List.getElem?_map, List.getElem?_eq_getElem hjr]
              rfl
            · walk_at "rs"
              refine r_sum (sl_of h3) ?_
              walk_at "rs"
              have e : barred w m rows ts = !decide (V.int (Builtin.bitAnd (dot ts (rows.map (·.2))) (full w)) = V.int 0) := by
                unfold barred
                rw [hok, show (m : Int).toNat = m from rfl] at *
                rw [hall, Bool.true_and, Bool.true_and]
                congr 1
                rw [decide_eq_decide]
                exact ⟨fun h => by rw [h], fun h => V.int.inj h⟩
              have := q H3 (s2.trans s3)
              rw [e] at this
              exact this
end
end Zn
namespace Zn
open PySem PySem.Spec PyProof.Rows L2 TL
def ext (r : RowI) : List Int := r.1 ++ [r.2]
def colx (n : Nat) (rows : List RowI) : List Int := rows.map fun r => (ext r).getD n 0
/-- what is added up for place n by the first k rows -/
def accx (ts : List Int) (rows : List RowI) (k n : Nat) : Int := dot (ts.take k) ((colx n rows).take k)
def totx (m : Nat) (ts : List Int) (rows : List RowI) (k : Nat) : List Int := (List.range (m + 1)).map (accx ts rows k)
theorem totx_len {m : Nat} {ts : List Int} {rows : List RowI} {k : Nat} : (totx m ts rows k).length = m + 1 := by
  unfold totx
  rw [List.length_map, List.length_range]
theorem totx_at {m : Nat} {ts : List Int} {rows : List RowI} {k n : Nat} (h : n ≤ m) : (totx m ts rows k)[n]? = some (accx ts rows k n) := by
  unfold totx
  rw [List.getElem?_map, List.getElem?_range (by omega)]
  rfl
theorem zipWith_snoc {a b : List Int} {x y : Int} (h : a.length = b.length) : List.zipWith (· * ·) (a ++ [x]) (b ++ [y]) = List.zipWith (· * ·) a b ++ [x * y] := by
  rw [List.zipWith_append h]
  rfl
theorem accx_snoc {ts : List Int} {rows : List RowI} {k n : Nat} {t : Int} {r : RowI} (ht : ts[k]? = some t) (hr : rows[k]? = some r) : accx ts rows (k + 1) n = accx ts rows k n + t * (ext r).getD n 0 := by
  have h1 := getL ht
  have h2 := getL hr
  unfold accx dot
  rw [take_snoc ht, take_snoc (x := (ext r).getD n 0) (by rw [colx, List.getElem?_map, hr]; rfl), zipWith_snoc (by rw [List.length_take, List.length_take, colx, List.length_map]; omega), List.sum_append]
  simp
theorem accx_full {ts : List Int} {rows : List RowI} {n : Nat} (h : ts.length = rows.length) : accx ts rows rows.length n = dot ts (colx n rows) := by
  unfold accx
  rw [List.take_of_length_le (by omega), List.take_of_length_le (by rw [colx, List.length_map]; omega)]
theorem colx_col {rows : List RowI} {m n : Nat} (hm : ∀ r ∈ rows, r.1.length = m) (h : n < m) : colx n rows = col n rows := by
  unfold colx col
  refine List.map_congr_left fun r hr => ?_
  have := hm r hr
  unfold ext
  rw [List.getD_eq_getElem?_getD, List.getElem?_append_left (by omega), List.getD_eq_getElem?_getD]
theorem colx_last {rows : List RowI} {m : Nat} (hm : ∀ r ∈ rows, r.1.length = m) : colx m rows = rows.map (·.2) := by
  unfold colx
  refine List.map_congr_left fun r hr => ?_
  have := hm r hr
  unfold ext
  rw [List.getD_eq_getElem?_getD, List.getElem?_append_right (by omega), this, Nat.sub_self]
  rfl
theorem any_all {f g : Nat → Bool} {m : Nat} (h : ∀ n, n < m → f n = !g n) : (List.range m).all f = !(List.range m).any g := by
  rw [List.not_any_eq_all_not, Bool.eq_iff_iff, List.all_eq_true, List.all_eq_true]
  exact ⟨fun k n hn => by rw [← h n (List.mem_range.mp hn)]; exact k n hn, fun k n hn => by rw [h n (List.mem_range.mp hn)]; exact k n hn⟩
section
variable {P : Program} {w : World} {K : PySem.W.Frag} {mg : Str → Option Value} {base : Heap}
theorem ok_bar {f : Addr} {fd : FuncData} (F : Fun K "_law_bar" "_law_bar" s__law_bar f fd) (T : Tx mg) : FnOk P w K mg base CX0 1 f fd ["_law_width", "_law_many", "_law_rows", "_law_times"] (spBar K) := by
  refine F.ok sc__law_bar (fun vs H Q E h => ?_) (fun cdv A outer s H vs Q E hr h => ?_)
  · obtain ⟨w, m, R, T, rows, ts, rfl, _⟩ := h
    rfl
  · obtain ⟨w, m, R, Ta, rows, ts, rfl, w1, w8, m6, hR, hm, hrl, hT, htl, q⟩ := h
    refine ⟨_, 
      (pss_cons (ps_set (i := 4) sc__law_bar.nd rfl (Or.inr rfl) (pe_op op_sub (pe_op op_shl pe_int (pv 0)) pe_int))
      (pss_cons (ps_if (PW.pt (pw_or (pt_cmpR op_ne (pe_callB call_len_seq (by rfl) T.z_len (by decide +kernel) (pa_cons (pv 3) pa_nil)) (pe_callB call_len_seq (by rfl) T.z_len (by decide +kernel) (pa_cons (pv 2) pa_nil)) (nomark _)) (pw_or1 (pt_not (pt_val (pe_callB (cr_all rfl) (by rfl) T.z_all (by decide +kernel) (pa_cons (pe_lc (own := [("_law_number", 5)]) rfl sc__law_bar.nd (pi_tup (pv 3)) (blkOk_by (N := ["_law_width", "_law_many", "_law_rows", "_law_times", "_law_full", "_law_number", "_law_total", "_law_k", "_law_row", "_law_n"]) (sc := defScope s__law_bar) (by decide +kernel)) (fun _ _ _ _ _ => (pg_name (i := 5) sc__law_bar.nd rfl (Or.inl rfl))) (fun _ _ _ _ _ => pts_nil) (fun _ _ _ _ _ => (pe_chain op_le op_le pe_int (pv 5) (pv 4)))) pa_nil))))))) 
       (pss_one (ps_ret pe_bl)) pss_nil)
      (pss_cons (ps_set (i := 6) sc__law_bar.nd rfl (Or.inr rfl) (pe_op op_rep (pe_lst (pa_cons pe_int pa_nil)) (pe_op op_add (pv 1) pe_int)))
      (pss_cons (ps_for PassesOwn.never rfl (pi_range1 (by rfl) T.z_range (pa_cons (pe_callB call_len_seq (by rfl) T.z_len (by decide +kernel) (pa_cons (pv 2) pa_nil)) pa_nil)) (pg_name (i := 7) sc__law_bar.nd rfl (Or.inr rfl)) 
       (pss_cons (ps_set (i := 8) sc__law_bar.nd rfl (Or.inr rfl) (pe_op op_cat (pe_callTy call_list_of (by rfl) T.z_list (by decide +kernel) (pa_cons (pe_ix (r := rIxT K) ix_tup (pe_ix (r := rIxT K) ix_tup (pv 2) (pv 7) (fun _ _ => rfl)) pe_int (fun _ _ => rfl)) pa_nil)) (pe_lst (pa_cons (pe_ix (r := rIxT K) ix_tup (pe_ix (r := rIxT K) ix_tup (pv 2) (pv 7) (fun _ _ => rfl)) pe_int (fun _ _ => rfl)) pa_nil))))
       (pss_one (ps_set (i := 6) sc__law_bar.nd rfl (Or.inr rfl) (pe_lc (own := [("_law_n", 9)]) rfl sc__law_bar.nd (pi_range1 (by rfl) T.z_range (pa_cons (pe_op op_add (pv 1) pe_int) pa_nil)) (blkOk_by (N := ["_law_width", "_law_many", "_law_rows", "_law_times", "_law_full", "_law_number", "_law_total", "_law_k", "_law_row", "_law_n"]) (sc := defScope s__law_bar) (by decide +kernel)) (fun _ _ _ _ _ => (pg_name (i := 9) sc__law_bar.nd rfl (Or.inl rfl))) (fun _ _ _ _ _ => pts_nil) (fun _ _ _ _ _ => (pe_op op_add (pe_ix (r := rIxL K) ix_list (pv 6) (pv 9) (fun _ _ => rfl)) (pe_op op_mul (pe_ix (r := rIxT K) ix_tup (pv 3) (pv 7) (fun _ _ => rfl)) (pe_ix (r := rIxL K) ix_list (pv 8) (pv 9) (fun _ _ => rfl))))))))))
      (pss_one (ps_ret (pe_and (pe_cmpR op_ne (pe_op op_and (pe_ix (r := rIxL K) ix_list (pv 6) (pv 1) (fun _ _ => rfl)) (pv 4)) pe_int (nomark _)) (pe_one (pe_not (pe_callB (Zn.cr_anyI rfl) (by rfl) T.z_any (by decide +kernel) (pa_cons (pe_lc (own := [("_law_number", 5)]) rfl sc__law_bar.nd (pi_list (pe_slice (r := rSlL K) sl_list (pv 6) po_none (po_some (pv 1)))) (blkOk_by (N := ["_law_width", "_law_many", "_law_rows", "_law_times", "_law_full", "_law_number", "_law_total", "_law_k", "_law_row", "_law_n"]) (sc := defScope s__law_bar) (by decide +kernel)) (fun _ _ _ _ _ => (pg_name (i := 5) sc__law_bar.nd rfl (Or.inl rfl))) (fun _ _ _ _ _ => pts_nil) (fun _ _ _ _ _ => (pe_op op_and (pv 5) (pv 4)))) pa_nil))))))))))), ?_⟩
    have hf := full_le w1 w8
    obtain ⟨rs, hRs, hlen, hrow⟩ := hR
    walk_at "rs"
    have eL : (ts.map V.int).length = ts.length := List.length_map ..
    refine ite2 (fun h => ?_) (fun h => ?_)
    · walk_at "rs"
      have e : barred w m rows ts = false := by
        unfold barred okT
        rw [eL, lens_ne] at h
        have h' : ¬ ts.length = rows.length := by
          rw [← hlen]
          simpa using h
        rw [decide_eq_false h']
        rfl
      rw [← e]
      exact q _ (Same.refl _)
    · have hl : ts.length = rs.length := by
        rw [eL, lens_ne] at h
        simpa using h
      walk_at "rs"
      refine r_ref ⟨_, st_of hT⟩ fun C hC => ?_
      refine lcM walk_tup (((ts.map (inTop w))).map V.bl) (by rw [List.length_map, List.length_map, List.length_map]) (by omega) hC (fun H' k => st_of (k _ _ hT)) (fun i x H' H'' hi k hy put => ?_) (fun H1 s1 h1 => ?_)
      · obtain ⟨rfl, hx⟩ := hy
        obtain ⟨u, rfl, hu⟩ := map_get hx
        have put' : ∀ b, inTop w u = b → _ := fun b e => put (.bl b) H'' (by rw [List.getElem?_map, List.getElem?_map, hu]; exact congrArg (fun z => some (V.bl z)) e) (Same.refl _)
        walk_at "rs"
        refine ⟨rfl, ?_⟩
        walk_at "rs"
        refine ite2 (fun h2 => ?_) (fun h2 => ?_)
        · walk_at "rs"
          exact put' _ (by unfold inTop full; rw [h2]; rfl)
        · walk_at "rs"
          refine put' _ ?_
          have h2 : ¬ 0 ≤ u := fun z => h2 (decide_eq_true z)
          unfold inTop
          rw [decide_eq_false h2]
          rfl
      · walk_at "rs"
        refine r_all (sl_of h1) ?_
        walk_at "rs"
        refine ite2 (fun h => ?_) (fun h => ?_)
        · walk_at "rs"
          have e : barred w m rows ts = false := by
            unfold barred okT
            rw [List.all_map] at h
            have : ts.all (inTop w) = false := by simpa using h
            rw [this, Bool.and_false]
            rfl
          rw [← e]
          exact q _ s1
        · have hin : ts.all (inTop w) = true := by
            rw [List.all_map] at h
            simpa using h
          have hok : okT w rows ts = true := by
            unfold okT
            rw [decide_eq_true (hl.trans hlen), hin]
            rfl
          have hb : ∀ t ∈ ts, 0 ≤ t ∧ t ≤ 255 := fun t ht => by
            have := inTop_iff.mp (List.all_eq_true.mp hin t ht)
            omega
          walk_at "rs"
          rename_i p hp
          refine r_rep upd_same (by omega) (by omega) (len_ok (by show 1 * _ ≤ _; omega)) fun p0 hp0 => ?_
          have hRs1 := s1 _ _ hRs
          have s2 : Same H (upd (upd H1 p (.lst [.int 0])) p0 (.lst (List.replicate ((m : Int) + 1).toNat [V.int 0]).flatten)) := (s1.trans (same_new hp)).trans (same_new hp0)
          walk_at "rs"
          refine r_len (.inr (st_of (s2 _ _ hRs))) ?_
          walk_at "rs"
          have eq0 : (List.replicate ((m : Int) + 1).toNat [V.int 0]).flatten = (totx m ts rows 0).map V.int := by
            rw [rep_one, show ((m : Int) + 1).toNat = m + 1 by omega]
            unfold totx accx
            rw [List.map_map]
            apply List.ext_getElem
            · simp
            · intro i h1 h2
              simp [dot]
          refine fr (fun i σ H' => ∃ v5 v7 v8 v9 tp, σ = [some (.int w), some (.int (m : Int)), some (.ref R), some (.ref Ta), some (.int (full w)), v5, some (.ref tp), v7, v8, v9] ∧ Same H H' ∧ H' tp = some (.lst ((totx m ts rows i).map V.int))) ⟨_, _, _, _, _, rfl, s2, by rw [upd_same, eq0]⟩ ?_ ?_
          · rintro i σ H2 hi ⟨v5, v7, v8, v9, tp, rfl, s3, htp⟩
            have hi : i < rs.length := by omega
            have hir : i < rows.length := by omega
            have hit : i < ts.length := by omega
            obtain ⟨t, fa, ee, ht, hfa⟩ := hrow i rs[i] rows[i] (List.getElem?_eq_getElem hi) (List.getElem?_eq_getElem hir)
            have ht := s3 _ _ ht
            have hfa := s3 _ _ hfa
            have hml := hm rows[i] (List.getElem_mem _)
            have hbu := hb ts[i] (List.getElem_mem _)
            have eix : (rs : List V)[i]? = some (.ref t) := by rw [List.getElem?_eq_getElem hi, ee]
            walk_at "rs"
            refine r_ixT (v := .ref t) (st_of (s3 _ _ hRs)) (atI_lt (j := i) (by omega) eix) ?_
            walk_at "rs"
            intro l hl'
            have s4 := s3.trans (same_new (o := .lst (rows[i].1.map V.int)) hl')
            walk_at "rs"
            refine r_ixT (v := .ref t) (st_of (s4 _ _ hRs)) (atI_lt (j := i) (by omega) eix) ?_
            walk_at "rs"
            rename_i p2 hp2
            refine r_cat (by rw [upd_ne (ne_of_none upd_same hp2), upd_same]) upd_same (len_ok (by rw [List.length_map]; show _ + 1 ≤ _; omega)) fun c hc => ?_
            have s5 := (s4.trans (same_new (o := .lst [.int rows[i].2]) hp2)).trans (same_new (o := .lst (rows[i].1.map V.int ++ [.int rows[i].2])) hc)
            have ec : rows[i].1.map V.int ++ [.int rows[i].2] = (ext rows[i]).map V.int := by unfold ext; rw [List.map_append]; rfl
            rw [ec] at s5
            have hcc : upd (upd (upd H2 l (.lst (rows[i].1.map V.int))) p2 (.lst [.int rows[i].2])) c (.lst ((ext rows[i]).map V.int)) c = some (.lst ((ext rows[i]).map V.int)) := upd_same
            have htq : upd (upd (upd H2 l (.lst (rows[i].1.map V.int))) p2 (.lst [.int rows[i].2])) c (.lst ((ext rows[i]).map V.int)) tp = some (.lst ((totx m ts rows i).map V.int)) := by walk_at "fd"
            rw [ec]
            generalize upd (upd (upd H2 l (.lst (rows[i].1.map V.int))) p2 (.lst [.int rows[i].2])) c (.lst ((ext rows[i]).map V.int)) = H5 at s5 hcc htq ⊢
            walk_at "rs"
            intro C2 hC2
            refine lcM walk_range ((totx m ts rows (i + 1)).map V.int) (by rw [List.length_map, totx_len]; omega) (by omega) hC2 (fun _ _ => trivial) (fun j x H6 H7 hj k hy put => ?_) (fun H6 s6 h6 => ?_)
            · obtain ⟨rfl, rfl⟩ := hy
              have hj : j ≤ m := by omega
              walk_at "rs"
              refine ⟨rfl, ?_⟩
              walk_at "rs"
              refine r_ixL (sl_of (k _ _ htq)) (ints_at (j := j) (by omega) (totx_at hj)) ?_
              walk_at "rs"
              refine r_ixT (st_of (k _ _ (s5 _ _ hT))) (ints_at (j := i) (by omega) (List.getElem?_eq_getElem hit)) ?_
              walk_at "rs"
              refine r_ixL (sl_of (k _ _ hcc)) (ints_at (j := j) (by omega) (getD_at (by unfold ext; rw [List.length_append]; show j < _ + 1; omega))) ?_
              walk_at "rs"
              refine put _ _ ?_ (Same.refl _)
              rw [List.getElem?_map, totx_at hj, accx_snoc (List.getElem?_eq_getElem hit) (List.getElem?_eq_getElem hir)]
              rfl
            · walk_at "rs"
              exact ⟨_, _, _, _, _, rfl, s5.trans s6, h6⟩
          · rintro σ H2 ⟨v5, v7, v8, v9, tp, rfl, s3, htp⟩
            have ek : (rs.length : Int).toNat = rows.length := by omega
            rw [ek] at htp
            walk_at "rs"
            refine r_ixL (sl_of htp) (ints_at (j := m) rfl (totx_at (Nat.le_refl m))) ?_
            walk_at "rs"
            have ea : accx ts rows rows.length m = dot ts (rows.map (·.2)) := by rw [accx_full (hl.trans hlen), colx_last hm]
            rw [ea]
            refine ite2 (fun h => ?_) (fun h => ?_)
            · have hne : ¬ Builtin.bitAnd (dot ts (rows.map (·.2))) (full w) = 0 := by
                intro z
                rw [z, decide_eq_true rfl] at h
                cases h
              walk_at "rs"
              refine r_slL (sl_of htp) fun p3 hp3 => ?_
              rw [cutV_to, ← List.map_take]
              have et : (totx m ts rows rows.length).take m = (List.range m).map fun n => dot ts (colx n rows) := by
                unfold totx
                rw [← List.map_take, List.take_range, Nat.min_eq_left (by omega)]
                exact List.map_congr_left fun n _ => accx_full (hl.trans hlen)
              rw [et]
              walk_at "rs"
              refine r_ref ⟨_, sl_of upd_same⟩ fun C2 hC2 => ?_
              refine lcM walk_list ((((List.range m).map fun n => dot ts (colx n rows)).map fun x => Builtin.bitAnd x (full w)).map V.int) (by simp) (by simp; omega) hC2 (fun H' k => sl_of (k _ _ upd_same)) (fun j x H6 H7 hj k hy put => ?_) (fun H6 s6 h6 => ?_)
              · obtain ⟨rfl, hx⟩ := hy
                obtain ⟨u, rfl, hu⟩ := map_get hx
                walk_at "rs"
                refine ⟨rfl, ?_⟩
                walk_at "rs"
                refine put _ _ ?_ (Same.refl _)
                rw [List.getElem?_map, List.getElem?_map, hu]
                rfl
              · walk_at "rs"
                refine r_anyI (sl_of h6) ?_
                walk_at "rs"
                have e : barred w m rows ts = !((((List.range m).map fun n => dot ts (colx n rows)).map fun x => Builtin.bitAnd x (full w)).any (· != 0)) := by
                  unfold barred
                  rw [hok, decide_eq_false hne, Bool.true_and, Bool.not_false, Bool.and_true, List.any_map, List.any_map]
                  refine any_all fun n hn => ?_
                  rw [← colx_col hm hn]
                  simp [bne]
                  rfl
                rw [← e]
                exact q _ ((s3.trans (same_new hp3)).trans s6)
            · have h0 : Builtin.bitAnd (dot ts (rows.map (·.2))) (full w) = 0 := by
                have h' : decide (V.int (Builtin.bitAnd (dot ts (rows.map (·.2))) (full w)) = V.int 0) = true := by simpa using h
                exact V.int.inj (of_decide_eq_true h')
              have e : barred w m rows ts = false := by
                unfold barred
                rw [decide_eq_true h0, Bool.not_true, Bool.and_false, Bool.and_false]
              rw [← e]
              exact q _ s3
end
end Zn
namespace Zn
open PySem PySem.Spec PyProof.Rows L2 TL
/-- an odd word has another one that makes 1 of it -/
def invAll : Bool := (List.range 9).all fun w => (List.range (2 ^ w)).all fun t => t % 2 == 0 || (List.range (2 ^ w)).any fun j => decide (Builtin.bitAnd ((j : Int) * (t : Int)) (1 * 2 ^ w - 1) = 1)
theorem invAll_ok : invAll = true := by decide +kernel
theorem inv_ex {w t : Int} (h1 : 1 ≤ w) (h8 : w ≤ 8) (h0 : 0 ≤ t) (ht : t < 2 ^ w.toNat) (ho : t % 2 = 1) : ∃ j : Nat, j < 2 ^ w.toNat ∧ Builtin.bitAnd ((j : Int) * t) (full w) = 1 := by
  have h := invAll_ok
  unfold invAll at h
  obtain ⟨t, rfl⟩ := Int.eq_ofNat_of_zero_le h0
  have e2 : ((2 ^ w.toNat : Nat) : Int) = (2 : Int) ^ w.toNat := by simp
  have h := List.all_eq_true.mp h w.toNat (List.mem_range.mpr (by omega))
  have h := List.all_eq_true.mp h t (List.mem_range.mpr (by omega))
  rcases (Bool.or_eq_true _ _).mp h with h | h
  · simp at h
    omega
  · obtain ⟨j, hj, hb⟩ := List.any_eq_true.mp h
    exact ⟨j, List.mem_range.mp hj, by simpa [full] using hb⟩
/-- t | 1 of a word -/
def orAll : Bool := (List.range 256).all fun t => decide (Builtin.bitOr (t : Int) 1 = (t / 2 * 2 + 1 : Nat))
theorem orAll_ok : orAll = true := by decide +kernel
theorem or_one {t : Int} (h0 : 0 ≤ t) (h1 : t < 256) : Builtin.bitOr t 1 = t / 2 * 2 + 1 := by
  have h := orAll_ok
  unfold orAll at h
  obtain ⟨t, rfl⟩ := Int.eq_ofNat_of_zero_le h0
  have := of_decide_eq_true (List.all_eq_true.mp h t (List.mem_range.mpr (by omega)))
  rw [this]
  omega
theorem or_lt {w t : Int} (h1 : 1 ≤ w) (h0 : 0 ≤ t) (ht : t < 2 ^ w.toNat) : t / 2 * 2 + 1 < 2 ^ w.toNat := by
  obtain ⟨n, rfl⟩ := Int.eq_ofNat_of_zero_le (show 0 ≤ w by omega)
  cases n with
  | zero => omega
  | succ n =>
    rw [Int.toNat_natCast, Int.pow_succ] at ht ⊢
    omega
/-- rows of m + 1 ints at p's that are F -/
def IsMat (F : Addr → Prop) (H : Hp) (a : Addr) (k m : Nat) : Prop := ∃ rs : List V, H a = some (.lst rs) ∧ rs.length = k ∧ ∀ v ∈ rs, ∃ (p : Addr) (ns : List Int), v = .ref p ∧ F p ∧ H p = some (.lst (ns.map V.int)) ∧ ns.length = m + 1
theorem IsMat.mono {F G : Addr → Prop} {H : Hp} {a : Addr} {k m : Nat} (h : IsMat F H a k m) (g : ∀ p, F p → G p) : IsMat G H a k m := by
  obtain ⟨rs, h1, h2, h3⟩ := h
  exact ⟨rs, h1, h2, fun v hv => by obtain ⟨p, ns, e, f, x⟩ := h3 v hv; exact ⟨p, ns, e, g p f, x⟩⟩
theorem IsMat.kp {F : Addr → Prop} {S : List Addr} {H H' : Hp} {a : Addr} {k m : Nat} (h : IsMat F H a k m) (ha : a ∉ S) (hF : ∀ p, F p → p ∉ S) (s : Kp S H H') : IsMat F H' a k m := by
  obtain ⟨rs, h1, h2, h3⟩ := h
  exact ⟨rs, s.x _ _ ha h1, h2, fun v hv => by obtain ⟨p, ns, e, f, x, l⟩ := h3 v hv; exact ⟨p, ns, e, f, s.x _ _ (hF p f) x, l⟩⟩
theorem IsMat.same {F : Addr → Prop} {H H' : Hp} {a : Addr} {k m : Nat} (h : IsMat F H a k m) (s : Same H H') : IsMat F H' a k m := h.kp (S := []) (by simp) (fun _ _ => by simp) (.same s)
theorem IsMat.row {F : Addr → Prop} {H : Hp} {a : Addr} {k m : Nat} (h : IsMat F H a k m) {i : Int} (h0 : 0 ≤ i) (h1 : i < (k : Int)) : ∃ (rs : List V) (p : Addr) (ns : List Int), H a = some (.lst rs) ∧ rs.length = k ∧ atI rs i = some (.ref p) ∧ F p ∧ H p = some (.lst (ns.map V.int)) ∧ ns.length = m + 1 := by
  obtain ⟨rs, h2, h3, h4⟩ := h
  have hi : i.toNat < rs.length := by omega
  obtain ⟨p, ns, e, f, x, l⟩ := h4 rs[i.toNat] (List.getElem_mem _)
  exact ⟨rs, p, ns, h2, h3, atI_lt (j := i.toNat) (by omega) (by rw [List.getElem?_eq_getElem hi, e]), f, x, l⟩
theorem IsMat.set {F : Addr → Prop} {H : Hp} {a : Addr} {k m : Nat} (h : IsMat F H a k m) {p : Addr} {ns ns' : List Int} (hp : H p = some (.lst (ns.map V.int))) (hl : ns.length = m + 1) (hl' : ns'.length = m + 1) : IsMat F (upd H p (.lst (ns'.map V.int))) a k m := by
  obtain ⟨rs, h2, h3, h4⟩ := h
  have hap : a ≠ p := by
    rintro rfl
    rw [hp] at h2
    have h2 : ns.map V.int = rs := by injection h2 with h2; injection h2
    cases ns with
    | nil => cases hl
    | cons n ns =>
      rw [← h2] at h4
      obtain ⟨_, _, e, _⟩ := h4 (.int n) List.mem_cons_self
      cases e
  refine ⟨rs, by rw [upd_ne hap]; exact h2, h3, fun v hv => ?_⟩
  obtain ⟨q, ks, e, f, x, l⟩ := h4 v hv
  by_cases hq : q = p
  · subst hq
    exact ⟨q, ns', e, f, upd_same, hl'⟩
  · exact ⟨q, ks, e, f, by rw [upd_ne hq]; exact x, l⟩
def spRare : Sp := fun vs H Q _ => ∃ (d c : Addr) (m : Int), vs = [.ref d, .int m] ∧ Drw H d c ∧ 1 ≤ m ∧ m < 1073741824 ∧ ∀ (b : Bool) (zs : List V), Drw (upd H d (.lst zs)) d c → Q (.bl b) (upd H d (.lst zs))
/-- rows for times; times can change at one place -/
def spLot : Sp := fun vs H Q _ => ∃ (d c T : Addr) (w power : Int) (m : Nat) (ts : List Int), vs = [.ref d, .int w, .int m, .ref T, .int power] ∧ Drw H d c ∧ T ≠ d ∧ c ≠ T ∧ 1 ≤ w ∧ w ≤ 8 ∧ m ≤ 6 ∧ 0 ≤ power ∧ power < w ∧
  H T = some (.lst (ts.map V.int)) ∧ ts.length ≤ 100 ∧ (∀ t ∈ ts, 0 ≤ t ∧ t < 2 ^ w.toNat) ∧
  ∀ (H' : Hp) (a : Addr) (ts' : List Int), Kp [d, T] H H' → Drw H' d c → H a = none → IsMat (fun p => H p = none) H' a ts.length m → H' T = some (.lst (ts'.map V.int)) → ts'.length = ts.length → (∀ t ∈ ts', 0 ≤ t ∧ t < 2 ^ w.toNat) → Q (.ref a) H'
section
variable {P : Program} {w : World} {K : PySem.W.Frag} {mg : Str → Option Value} {base : Heap}
theorem ok_rare {f : Addr} {fd : FuncData} (F : Fun K "_law_rare" "_law_rare" s__law_rare f fd) (c__law_draw : Cal P w K mg base "_law_draw" 1 spDraw) (T : Tx mg) : FnOk P w K mg base CX0 2 f fd ["_law_d", "_law_many"] spRare := by
  refine F.ok sc__law_rare (fun vs H Q E h => ?_) (fun cdv A outer s H vs Q E hr h => ?_)
  · obtain ⟨d, c, r, rfl, _⟩ := h
    rfl
  · obtain ⟨d, c, m, rfl, hD, m0, m1, q⟩ := h
    refine ⟨_, 
      (pss_one (ps_ret (pe_cmpR op_eq (Zn.pe_cal c__law_draw (hr.mono (by decide)) (by rfl) (pa_cons (pv 0) (pa_cons (pv 1) pa_nil))) (pe_op op_fdiv (pv 1) pe_int) (nomark _)))), ?_⟩
    walk_at "rs"
    refine ⟨d, c, _, rfl, hD, m0, m1, fun n zs n0 n1 D1 => ?_⟩
    walk_at "rs"
    exact q _ _ D1
theorem ok_lot {f : Addr} {fd : FuncData} (F : Fun K "_law_lot" "_law_lot" s__law_lot f fd) (c__law_draw : Cal P w K mg base "_law_draw" 1 spDraw) (c__law_rare : Cal P w K mg base "_law_rare" 2 spRare) (T : Tx mg) : FnOk P w K mg base CX0 3 f fd ["_law_d", "_law_width", "_law_many", "_law_times", "_law_power"] spLot := by
  refine F.ok sc__law_lot (fun vs H Q E h => ?_) (fun cdv A outer s H vs Q E hr h => ?_)
  · obtain ⟨d, c, T, w, p, m, ts, rfl, _⟩ := h
    rfl
  · obtain ⟨d, c, Ta, w, pw, m, ts, rfl, hD, nTd, ncT, w1, w8, m6, p0, pw1, hT, htl, htb, q⟩ := h
    have hf := full_le w1 w8
    have hw2 := small w1 w8
    have hw0 := (small0 (show 0 ≤ w by omega) w8).1
    have hp2 := small0 p0 (show pw ≤ 8 by omega)
    have eL : (ts.map V.int).length = ts.length := List.length_map ..
    refine ⟨_, 
      (pss_cons (ps_set (i := 5) sc__law_lot.nd rfl (Or.inr rfl) (pe_op op_sub (pe_op op_shl pe_int (pv 1)) pe_int))
      (pss_cons (ps_set (i := 6) sc__law_lot.nd rfl (Or.inr rfl) (pe_lc (own := [("_law_k", 8)]) rfl sc__law_lot.nd (pi_range1 (by rfl) T.z_range (pa_cons (pe_callB call_len_seq (by rfl) T.z_len (by decide +kernel) (pa_cons (pv 3) pa_nil)) pa_nil)) (blkOk_by (N := ["_law_d", "_law_width", "_law_many", "_law_times", "_law_power", "_law_full", "_law_rows", "_law_n", "_law_k", "_law_at", "_law_back", "_law_word", "_law_rest"]) (sc := defScope s__law_lot) (by decide +kernel)) (fun _ _ _ _ _ => (pg_name (i := 8) sc__law_lot.nd rfl (Or.inl rfl))) (fun _ _ _ _ _ => pts_nil) (fun _ _ _ _ _ => (pe_lc (own := [("_law_n", 7)]) rfl sc__law_lot.nd (pi_range1 (by rfl) T.z_range (pa_cons (pe_op op_add (pv 2) pe_int) pa_nil)) (Zn.blk2 (blkOk_by (N := ["_law_d", "_law_width", "_law_many", "_law_times", "_law_power", "_law_full", "_law_rows", "_law_n", "_law_k", "_law_at", "_law_back", "_law_word", "_law_rest"]) (sc := (Zn.lcS (defScope s__law_lot) (Zn.exP (Zn.exA (Zn.stA (defBody s__law_lot) 1) 0) []))) (by decide +kernel))) (fun _ _ _ _ _ => (pg_name (i := 7) sc__law_lot.nd rfl (Or.inl rfl))) (fun _ _ _ _ _ => pts_nil) (fun _ _ _ _ _ => (Zn.pe_cal c__law_draw (hr.mono (by decide)) (by rfl) (pa_cons (pv 0) (pa_cons (pe_op op_shl pe_int (pv 1)) pa_nil))))))))
      (pss_cons (ps_if (PW.pt (pw_or (pt_cmpR op_eq (pe_callB call_len_seq (by rfl) T.z_len (by decide +kernel) (pa_cons (pv 6) pa_nil)) pe_int (nomark _)) (pw_or1 (pt_val (Zn.pe_cal c__law_rare (hr.mono (by decide)) (by rfl) (pa_cons (pv 0) (pa_cons pe_int pa_nil))))))) 
       (pss_one (ps_ret (pv 6))) pss_nil)
      (pss_cons (ps_set (i := 9) sc__law_lot.nd rfl (Or.inr rfl) (Zn.pe_cal c__law_draw (hr.mono (by decide)) (by rfl) (pa_cons (pv 0) (pa_cons (pe_callB call_len_seq (by rfl) T.z_len (by decide +kernel) (pa_cons (pv 6) pa_nil)) pa_nil))))
      (pss_cons (ps_asg (pe_op op_or (pe_ix (r := rIxL K) ix_list (pv 3) (pv 9) (fun _ _ => rfl)) pe_int) (pg_sub (pv 3) (pv 9) set_list))
      (pss_cons (ps_set (i := 10) sc__law_lot.nd rfl (Or.inl rfl) (pe_ix (r := rIxL K) ix_list (pe_lc (own := [("_law_word", 11)]) rfl sc__law_lot.nd (pi_range1 (by rfl) T.z_range (pa_cons (pe_op op_add (pv 5) pe_int) pa_nil)) (blkOk_by (N := ["_law_d", "_law_width", "_law_many", "_law_times", "_law_power", "_law_full", "_law_rows", "_law_n", "_law_k", "_law_at", "_law_back", "_law_word", "_law_rest"]) (sc := defScope s__law_lot) (by decide +kernel)) (fun _ _ _ _ _ => (pg_name (i := 11) sc__law_lot.nd rfl (Or.inl rfl))) (fun _ _ _ _ _ => (pts_one (pt_cmpR op_eq (pe_op op_and (pe_op op_mul (pv 11) (pe_ix (r := rIxL K) ix_list (pv 3) (pv 9) (fun _ _ => rfl))) (pv 5)) pe_int (nomark _)))) (fun _ _ _ _ _ => (pv 11))) pe_int (fun _ _ => rfl)))
      (pss_cons (ps_for PassesOwn.never rfl (pi_range1 (by rfl) T.z_range (pa_cons (pe_op op_add (pv 2) (pe_callTy call_int1 (by rfl) T.z_int (by decide +kernel) (pa_cons (pe_cmpR op_eq (Zn.pe_cal c__law_draw (hr.mono (by decide)) (by rfl) (pa_cons (pv 0) (pa_cons pe_int pa_nil))) pe_int (nomark _)) pa_nil))) pa_nil)) (pg_name (i := 7) sc__law_lot.nd rfl (Or.inr rfl)) 
       (pss_cons (ps_set (i := 12) sc__law_lot.nd rfl (Or.inl rfl) (pe_callB (cr_sum rfl) (by rfl) T.z_sum (by decide +kernel) (pa_cons (pe_lc (own := [("_law_k", 8)]) rfl sc__law_lot.nd (pi_range1 (by rfl) T.z_range (pa_cons (pe_callB call_len_seq (by rfl) T.z_len (by decide +kernel) (pa_cons (pv 6) pa_nil)) pa_nil)) (blkOk_by (N := ["_law_d", "_law_width", "_law_many", "_law_times", "_law_power", "_law_full", "_law_rows", "_law_n", "_law_k", "_law_at", "_law_back", "_law_word", "_law_rest"]) (sc := defScope s__law_lot) (by decide +kernel)) (fun _ _ _ _ _ => (pg_name (i := 8) sc__law_lot.nd rfl (Or.inl rfl))) (fun _ _ _ _ _ => (pts_one (pt_cmpR op_ne (pv 8) (pv 9) (nomark _)))) (fun _ _ _ _ _ => (pe_op op_mul (pe_ix (r := rIxL K) ix_list (pv 3) (pv 8) (fun _ _ => rfl)) (pe_ix (r := rIxL K) ix_list (pe_ix (r := rIxL K) ix_list (pv 6) (pv 8) (fun _ _ => rfl)) (pv 7) (fun _ _ => rfl))))) pa_nil)))
       (pss_one (ps_asg (pe_op op_and (pe_op op_add (pe_op op_mul (pe_un un_neg (pv 12)) (pv 10)) (pe_op op_shl (Zn.pe_cal c__law_draw (hr.mono (by decide)) (by rfl) (pa_cons (pv 0) (pa_cons (pe_op op_shl pe_int (pv 4)) pa_nil))) (pe_op op_sub (pv 1) (pv 4)))) (pv 5)) (pg_sub (pe_ix (r := rIxL K) ix_list (pv 6) (pv 9) (fun _ _ => rfl)) (pv 7) set_list)))))
      (pss_one (ps_ret (pv 6)))))))))), ?_⟩
    walk_at "rs"
    intro C hC
    have nCd : C ≠ d := (hD.nd hC).symm
    refine lcK walk_range [d] (fun H' xs => ∀ v ∈ xs, ∃ (p : Addr) (ns : List Int), v = .ref p ∧ H p = none ∧ p ≠ C ∧ p ≠ d ∧ H' p = some (.lst (ns.map V.int)) ∧ ns.length = m + 1) (by omega) hC (notin1 nCd) hD (fun _ _ => trivial)
      (fun H' H'' xs k h v hv => ?_) all_nil (fun i x H1 H1' xs hi k1 D1 hx hl r1 hy put => ?_) (fun H1 rs k1 D1 hC1 hl1 r1 => ?_)
    · obtain ⟨p, ns, e, f1, f2, f3, x, l⟩ := h v hv
      exact ⟨p, ns, e, f1, f2, f3, k.x _ _ (notin2 f2 f3) x, l⟩
    · obtain ⟨rfl, rfl⟩ := hy
      walk_at "rs"
      refine ⟨rfl, ?_⟩
      walk_at "rs"
      intro C2 hC2
      have hC2H : H C2 = none := k1.free (notin1 (D1.nd hC2).symm) hC2
      have n2C : C2 ≠ C := (ne_of_none hx hC2).symm
      refine lcK walk_range [d] (fun H' xs => ∃ ns : List Int, xs = ns.map V.int) (by omega) hC2 (notin1 (D1.nd hC2).symm) D1 (fun _ _ => trivial) (fun _ _ _ _ h => h) ⟨[], rfl⟩ (fun j x H3 H3' ys hj k3 D3 hy3 hl3 r3 hy put2 => ?_) (fun H3 ys k3 D3 hC3 hl3 r3 => ?_)
      · obtain ⟨rfl, rfl⟩ := hy
        obtain ⟨ns, rfl⟩ := r3
        walk_at "rs"
        refine ⟨rfl, ?_⟩
        walk_at "rs"
        refine ⟨d, c, _, rfl, D3, by omega, by omega, fun n zs n0 n1 D4 => ?_⟩
        exact put2 _ _ (Kp.drw D3 (by simp)) D4 ⟨ns ++ [n], by rw [List.map_append]; rfl⟩
      · obtain ⟨ns, rfl⟩ := r3
        walk_at "rs"
        refine put _ _ k3 D3 fun v hv => ?_
        rcases List.mem_append.mp hv with hv | hv
        · obtain ⟨p, ms, e, f1, f2, f3, x, l⟩ := r1 v hv
          exact ⟨p, ms, e, f1, f2, f3, k3.x _ _ (notin1 f3) x, l⟩
        · rw [List.mem_singleton] at hv
          exact ⟨C2, ns, hv, hC2H, n2C, (D1.nd hC2).symm, hC3, by rw [List.length_map] at hl3; omega⟩
    · have hlr : rs.length = ts.length := by omega
      have hF : ∀ p, H p = none → p ∉ [d] := fun p hp => notin1 (hD.nd hp).symm
      have hF2 : ∀ p, H p = none → p ∉ [d, Ta] := fun p hp => notin2 (hD.nd hp).symm (ne_of_none hT hp).symm
      have M1 : IsMat (fun p => H p = none) H1 C ts.length m := ⟨rs, hC1, hlr, fun v hv => by obtain ⟨p, ns, e, f1, f2, f3, x, l⟩ := r1 v hv; exact ⟨p, ns, e, f1, x, l⟩⟩
      have hT1 := k1.x _ _ (notin1 nTd) hT
      have k1' : Kp [d, Ta] H H1 := k1.mono (by simp)
      walk_at "rs"
      refine ite2 (fun h => ?_) (fun h => ?_)
      · walk_at "rs"
        exact q _ _ ts k1' D1 hC M1 hT1 rfl htb
      · have hn0 : 0 < ts.length := by
          cases hts : ts.length with
          | zero => rw [hlr, hts] at h; exact absurd (decide_eq_true rfl) h
          | succ n => omega
        walk_at "rs"
        refine ⟨d, c, _, rfl, D1, by decide, by decide, fun b zs D2 => ?_⟩
        have k2 : Kp [d] H1 (upd H1 d (.lst zs)) := .drw D1 (by simp)
        have M2 := M1.kp (notin1 nCd) hF k2
        have hT2 := k2.x _ _ (notin1 nTd) hT1
        have hC2 := k2.x _ _ (notin1 nCd) hC1
        have k2' : Kp [d, Ta] H (upd H1 d (.lst zs)) := k1'.trans (k2.mono (by simp))
        generalize upd H1 d (.lst zs) = H2 at D2 k2 M2 hT2 hC2 k2' ⊢
        walk_at "rs"
        refine ite2 (fun h => ?_) (fun h => ?_)
        · walk_at "rs"
          exact q _ _ ts k2' D2 hC M2 hT2 rfl htb
        · walk_at "rs"
          refine ⟨d, c, _, rfl, D2, by omega, by omega, fun at_ zs a0 a1 D3 => ?_⟩
          have k3 : Kp [d] H2 (upd H2 d (.lst zs)) := .drw D2 (by simp)
          have M3 := M2.kp (notin1 nCd) hF k3
          have hT3 := k3.x _ _ (notin1 nTd) hT2
          have k3' : Kp [d, Ta] H (upd H2 d (.lst zs)) := k2'.trans (k3.mono (by simp))
          generalize upd H2 d (.lst zs) = H3 at D3 k3 M3 hT3 k3' ⊢
          have a1 : at_ < (ts.length : Int) := by omega
          have hmt := htb _ (getD_mem (ns := ts) (j := at_.toNat) (by omega))
          walk_at "rs"
          refine r_ixL (sl_of hT3) (ints_ex a0 a1) ?_
          walk_at "rs"
          refine r_setL hT3 (ixN_at a0 (by rw [eL]; exact a1)) ?_
          rw [or_one hmt.1 (by omega)]
          have e4 : (ts.map V.int).set at_.toNat (.int (ts.getD at_.toNat 0 / 2 * 2 + 1)) = (ts.set at_.toNat (ts.getD at_.toNat 0 / 2 * 2 + 1)).map V.int := by rw [List.map_set]
          rw [e4]
          have hodd := or_lt w1 hmt.1 hmt.2
          have hts4 : ∀ t ∈ ts.set at_.toNat (ts.getD at_.toNat 0 / 2 * 2 + 1), 0 ≤ t ∧ t < 2 ^ w.toNat := fun t ht => by
            rcases List.mem_or_eq_of_mem_set ht with ht | rfl
            · exact htb t ht
            · exact ⟨by omega, hodd⟩
          have hl4 : (ts.set at_.toNat (ts.getD at_.toNat 0 / 2 * 2 + 1)).length = ts.length := List.length_set ..
          have hg4 : (ts.set at_.toNat (ts.getD at_.toNat 0 / 2 * 2 + 1)).getD at_.toNat 0 = ts.getD at_.toNat 0 / 2 * 2 + 1 := by
            rw [List.getD_eq_getElem?_getD, List.getElem?_set_self (by omega)]
            rfl
          have nTC : Ta ≠ C := ne_of_none hT hC
          have M4 : IsMat (fun p => H p = none) (upd H3 Ta (.lst ((ts.set at_.toNat (ts.getD at_.toNat 0 / 2 * 2 + 1)).map V.int))) C ts.length m := M3.kp (S := [Ta]) (notin1 nTC.symm) (fun p hp => notin1 (ne_of_none hT hp).symm) ((Kp.refl _ _).set (by simp) hT3)
          have D4 : Drw (upd H3 Ta (.lst ((ts.set at_.toNat (ts.getD at_.toNat 0 / 2 * 2 + 1)).map V.int))) d c := D3.upd nTd.symm ncT
          have hT4 : (upd H3 Ta (.lst ((ts.set at_.toNat (ts.getD at_.toNat 0 / 2 * 2 + 1)).map V.int))) Ta = _ := upd_same
          have k4' : Kp [d, Ta] H (upd H3 Ta (.lst ((ts.set at_.toNat (ts.getD at_.toNat 0 / 2 * 2 + 1)).map V.int))) := k3'.set (by simp) hT3
          generalize upd H3 Ta (.lst ((ts.set at_.toNat (ts.getD at_.toNat 0 / 2 * 2 + 1)).map V.int)) = H4 at D4 M4 hT4 k4' ⊢
          obtain ⟨j0, hj0, hj1⟩ := inv_ex w1 w8 (t := ts.getD at_.toNat 0 / 2 * 2 + 1) (by omega) hodd (by omega)
          generalize ts.set at_.toNat (ts.getD at_.toNat 0 / 2 * 2 + 1) = ts4 at hts4 hl4 hg4 hT4
          generalize ts.getD at_.toNat 0 / 2 * 2 + 1 = t4 at hg4 hj1 hodd
          have hTl : (ts4.length : Int) = (ts.length : Int) := by omega
          walk_at "rs"
          intro C5 hC5
          refine lc_range (fun i H' => ∃ ns : List Int, Same H4 H' ∧ H' C5 = some (.lst (ns.map V.int)) ∧ ns.length ≤ i ∧ (∀ u ∈ ns, 0 ≤ u ∧ u ≤ 255) ∧ (∀ j : Nat, j < i → Builtin.bitAnd ((j : Int) * t4) (full w) = 1 → ns ≠ [])) ⟨[], same_new hC5, upd_same, Nat.le_refl _, all_nil, fun j hj => by omega⟩ (fun i H5 hi ⟨ns, s5, h5, l5, b5, e5⟩ => ?_) (fun H5 ⟨ns, s5, h5, l5, b5, e5⟩ => ?_)
          · have hib : (i : Int) < 256 := by omega
            walk_at "rs"
            refine ⟨rfl, ?_⟩
            walk_at "rs"
            refine r_ixL (sl_of (s5 _ _ hT4)) (ints_ex a0 (by omega)) ?_
            rw [hg4]
            walk_at "rs"
            refine ite2 (fun h => ?_) (fun h => ?_)
            · walk_at "rs"
              refine ⟨_, h5, lt_line (by rw [List.length_map]; omega), ns ++ [0 + (i : Int)], Zn.Same.mut s5 hC5, by rw [upd_same, List.map_append]; rfl, by rw [List.length_append]; exact Nat.succ_le_succ l5, fun u hu => ?_, fun _ _ _ e => by simp at e⟩
              rcases List.mem_append.mp hu with hu | hu
              · exact b5 u hu
              · rw [List.mem_singleton] at hu
                omega
            · refine ⟨ns, s5, h5, by omega, b5, fun j hj hb => ?_⟩
              by_cases hji : j < i
              · exact e5 j hji hb
              · have : j = i := by omega
                subst this
                refine absurd (decide_eq_true ?_) h
                rw [Int.zero_add]
                exact congrArg V.int hb
          · have e2 : ((2 ^ w.toNat : Nat) : Int) = (2 : Int) ^ w.toNat := by simp
            have hj0' : (j0 : Int) < (2 : Int) ^ w.toNat := by rw [← e2]; exact Int.ofNat_lt.mpr hj0
            have hne : ns ≠ [] := e5 j0 (by omega) hj1
            obtain ⟨u, us, rfl⟩ : ∃ u us, ns = u :: us := by
              cases ns with
              | nil => exact absurd rfl hne
              | cons u us => exact ⟨u, us, rfl⟩
            have hub := b5 u List.mem_cons_self
            have D5 := D4.same s5
            have M5 := M4.same s5
            have hT5 := s5 _ _ hT4
            have k5' := k4'.trans (.same s5)
            walk_at "rs"
            refine r_ixL (sl_of h5) at0 ?_
            walk_at "rs"
            refine ⟨d, c, _, rfl, D5, by decide, by decide, fun n4 zs n40 n41 D6 => ?_⟩
            have k6 : Kp [d] H5 (upd H5 d (.lst zs)) := .drw D5 (by simp)
            have M6 := M5.kp (notin1 nCd) hF k6
            have hT6 := k6.x _ _ (notin1 nTd) hT5
            have k6' : Kp [d, Ta] H (upd H5 d (.lst zs)) := k5'.trans (k6.mono (by simp))
            generalize upd H5 d (.lst zs) = H6 at D6 k6 M6 hT6 k6' ⊢
            walk_at "rs"
            have hz : 0 ≤ (if decide (V.int n4 = V.int 0) = true then (1 : Int) else 0) ∧ (if decide (V.int n4 = V.int 0) = true then (1 : Int) else 0) ≤ 1 := by split <;> omega
            generalize (if decide (V.int n4 = V.int 0) = true then (1 : Int) else 0) = z at hz ⊢
            walk_at "rs"
            refine fr (fun i σ H' => ∃ v7 v8 v11 v12, σ = [some (.ref d), some (.int w), some (.int (m : Int)), some (.ref Ta), some (.int pw), some (.int (full w)), some (.ref C), v7, v8, some (.int at_), some (.int u), v11, v12] ∧ Kp [d, Ta] H H' ∧ Drw H' d c ∧ IsMat (fun p => H p = none) H' C ts.length m ∧ H' Ta = some (.lst (ts4.map V.int))) ⟨_, _, _, _, rfl, k6', D6, M6, hT6⟩ ?_ ?_
            · rintro i σ H7 hi ⟨v7, v8, v11, v12, rfl, k7, D7, M7, hT7⟩
              have him : (i : Int) ≤ m := by omega
              obtain ⟨rs7, hC7, hl7, hv7⟩ := id M7
              walk_at "rs"
              intro C8 hC8
              refine lc_range (fun j H' => ∃ ns : List Int, Same H7 H' ∧ H' C8 = some (.lst (ns.map V.int)) ∧ ns.length ≤ j) ⟨[], same_new hC8, upd_same, Nat.le_refl _⟩ (fun j H8 hj ⟨ns, s8, h8, l8⟩ => ?_) (fun H8 ⟨ns, s8, h8, l8⟩ => ?_)
              · walk_at "rs"
                refine ⟨rfl, ?_⟩
                walk_at "rs"
                refine ite2 (fun h => ?_) (fun h => ?_)
                · walk_at "rs"
                  have hj4 : 0 + (j : Int) < (ts4.length : Int) := by omega
                  refine r_ixL (sl_of (s8 _ _ hT7)) (ints_ex (by omega) hj4) ?_
                  have hb4 := hts4 _ (getD_mem (ns := ts4) (j := (0 + (j : Int)).toNat) (by omega))
                  generalize ts4.getD (0 + (j : Int)).toNat 0 = x4 at hb4 ⊢
                  obtain ⟨rs8, p8, ns8, h1, h2, h3, h4, h5, h6⟩ := (M7.same s8).row (i := 0 + (j : Int)) (by omega) (by omega)
                  walk_at "rs"
                  refine r_ixL (sl_of h1) h3 ?_
                  walk_at "rs"
                  refine r_ixL (sl_of h5) (ints_ex (by omega) (by omega)) ?_
                  walk_at "rs"
                  refine ⟨_, h8, lt_line (by rw [List.length_map]; omega), ns ++ [x4 * ns8.getD (0 + (i : Int)).toNat 0], Zn.Same.mut s8 hC8, by rw [upd_same, List.map_append]; rfl, by rw [List.length_append]; exact Nat.succ_le_succ l8⟩
                · exact ⟨ns, s8, h8, by omega⟩
              · walk_at "rs"
                refine r_sum (sl_of h8) ?_
                generalize ns.sum = rest
                walk_at "rs"
                refine ⟨d, c, _, rfl, D7.same s8, by omega, by omega, fun n9 zs n90 n91 D9 => ?_⟩
                have k9 : Kp [d] H8 (upd H8 d (.lst zs)) := .drw (D7.same s8) (by simp)
                have M9 := (M7.same s8).kp (notin1 nCd) hF k9
                have hT9 := k9.x _ _ (notin1 nTd) (s8 _ _ hT7)
                have k9' : Kp [d, Ta] H (upd H8 d (.lst zs)) := (k7.trans (.same s8)).trans (k9.mono (by simp))
                generalize upd H8 d (.lst zs) = H9 at D9 k9 M9 hT9 k9' ⊢
                obtain ⟨rs9, p9, ns9, h1, h2, h3, h4, h5, h6⟩ := M9.row a0 a1
                walk_at "rs"
                refine r_ixL (sl_of h1) h3 ?_
                walk_at "rs"
                refine r_setL h5 (ixN_at (by omega) (by rw [List.length_map]; omega)) ?_
                rw [← List.map_set]
                refine ⟨_, _, _, _, rfl, k9'.mut h4 h5, D9.upd (hD.nd h4) (hD.nc h4), M9.set h5 h6 (by rw [List.length_set, h6]), ?_⟩
                rw [upd_ne (ne_of_none hT h4)]
                exact hT9
            · rintro σ H7 ⟨v7, v8, v11, v12, rfl, k7, D7, M7, hT7⟩
              walk_at "rs"
              exact q _ _ ts4 k7 D7 hC M7 hT7 hl4 hts4
end
end Zn
namespace Zn
open PySem PySem.Spec PyProof.Rows L2 TL
/-- lists of ints at p's that are N -/
def Ls (N : Addr → Prop) (H : Hp) (fs : List V) : Prop := ∀ v ∈ fs, ∃ (p : Addr) (ns : List Int), v = .ref p ∧ N p ∧ H p = some (.lst (ns.map V.int)) ∧ ns.length ≤ 300
theorem Ls.kp {N : Addr → Prop} {S : List Addr} {H H' : Hp} {fs : List V} (h : Ls N H fs) (hn : ∀ p, N p → p ∉ S) (k : Kp S H H') : Ls N H' fs := fun v hv => by
  obtain ⟨p, ns, e, n, x, l⟩ := h v hv
  exact ⟨p, ns, e, n, k.x _ _ (hn p n) x, l⟩
theorem Ls.same {N : Addr → Prop} {H H' : Hp} {fs : List V} (h : Ls N H fs) (k : Same H H') : Ls N H' fs := h.kp (S := []) (fun _ _ => by simp) (.same k)
theorem Ls.mono {N M : Addr → Prop} {H : Hp} {fs : List V} (h : Ls N H fs) (g : ∀ p, N p → M p) : Ls M H fs := fun v hv => by
  obtain ⟨p, ns, e, n, x, l⟩ := h v hv
  exact ⟨p, ns, e, g p n, x, l⟩
theorem Ls.one {N : Addr → Prop} {H : Hp} {p : Addr} {xs : List V} {ns : List Int} (n : N p) (h : H p = some (.lst xs)) (e : xs = ns.map V.int) (l : ns.length ≤ 300) : Ls N H [.ref p] := fun v hv => by
  rw [List.mem_singleton] at hv
  subst e
  exact ⟨p, ns, hv, n, h, l⟩
theorem Ls.app {N : Addr → Prop} {H : Hp} {fs gs : List V} (h : Ls N H fs) (g : Ls N H gs) : Ls N H (fs ++ gs) := fun v hv => by
  rcases List.mem_append.mp hv with hv | hv
  · exact h v hv
  · exact g v hv
theorem Ls.ne {N : Addr → Prop} {H : Hp} {fs : List V} {F : Addr} (h : Ls N H fs) (hF : H F = none) : Ls (fun p => N p ∧ p ≠ F) H fs := fun v hv => by
  obtain ⟨p, ns, e, n, x, l⟩ := h v hv
  exact ⟨p, ns, e, ⟨n, ne_of_none x hF⟩, x, l⟩
/-- other times -/
def spOther : Sp := fun vs H Q _ => ∃ (d c T : Addr) (w : Int) (ts : List Int), vs = [.ref d, .int w, .ref T] ∧ Drw H d c ∧ T ≠ d ∧ 1 ≤ w ∧ w ≤ 8 ∧ H T = some (.lst (ts.map V.int)) ∧ ts.length ≤ 100 ∧
  ∀ (H' : Hp) (a : Addr) (fs : List V), Kp [d] H H' → Drw H' d c → H a = none → H' a = some (.lst fs) → fs.length ≤ 100 → Ls (fun p => H p = none) H' fs → Q (.ref a) H'
/-- a matrix as rows for the judge -/
def spHanded (K : PySem.W.Frag) : Sp := fun vs H Q _ => ∃ (a : Addr) (F : Addr → Prop) (k m : Nat), vs = [.ref a] ∧ IsMat F H a k m ∧ k ≤ 100 ∧ m ≤ 6 ∧
  ∀ (H' : Hp) (R : Addr) (rows : List RowI), Same H H' → IsRows H' R rows → rows.length = k → (∀ r ∈ rows, r.1.length = m) → Q (.ref R) H'
section
variable {P : Program} {w : World} {K : PySem.W.Frag} {mg : Str → Option Value} {base : Heap}
theorem ok_handed {f : Addr} {fd : FuncData} (F : Fun K "_law_handed" "_law_handed" s__law_handed f fd) (T : Tx mg) : FnOk P w K mg base CX0 1 f fd ["_law_rows"] (spHanded K) := by
  refine F.ok sc__law_handed (fun vs H Q E h => ?_) (fun cdv A outer s H vs Q E hr h => ?_)
  · obtain ⟨a, F, k, m, rfl, _⟩ := h
    rfl
  · obtain ⟨a, Fp, k, m, rfl, M, hk, hm6, q⟩ := h
    obtain ⟨rs, ha, hl, hrow⟩ := id M
    refine ⟨_, 
      (pss_one (ps_ret (pe_callTy call_tuple_of (by rfl) T.z_tuple (by decide +kernel) (pa_cons (pe_lc (own := [("_law_row", 1)]) rfl sc__law_handed.nd (pi_list (pv 0)) (blkOk_by (N := ["_law_rows", "_law_row"]) (sc := defScope s__law_handed) (by decide +kernel)) (fun _ _ _ _ _ => (pg_name (i := 1) sc__law_handed.nd rfl (Or.inl rfl))) (fun _ _ _ _ _ => pts_nil) (fun _ _ _ _ _ => (pe_tup (pa_cons (pe_callTy (r := Zn.rTupOf K) call_tuple_of (by rfl) T.z_tuple (by decide +kernel) (pa_cons (pe_slice (r := rSlL K) sl_list (pv 1) po_none (po_some (pe_un un_neg pe_int))) pa_nil)) (pa_cons (pe_ix (r := rIxL K) ix_list (pv 1) (pe_un un_neg pe_int) (fun _ _ => rfl)) pa_nil))))) pa_nil)))), ?_⟩
    walk_at "rs"
    refine r_ref ⟨_, sl_of ha⟩ fun C hC => ?_
    refine lc_list (K := K) (a := a) (xs := rs) (fun i H' => ∃ (xs : List V) (rows : List RowI), Same H H' ∧ H' C = some (.lst xs) ∧ xs.length = i ∧ rows.length = i ∧ (∀ (j : Nat) (v : V) (r : RowI), xs[j]? = some v → rows[j]? = some r → IsRow H' v r) ∧ ∀ r ∈ rows, r.1.length = m)
      ⟨[], [], same_new hC, upd_same, rfl, rfl, fun j v r h => by simp at h, all_nil⟩ (fun i H' _ ⟨_, _, s, _⟩ => sl_of (s _ _ ha)) (fun i x H' hi ⟨xs, rows, s, hc, l1, l2, hr, hm⟩ => ?_) (fun H' ⟨xs, rows, s, hc, l1, l2, hr, hm⟩ => ?_)
    · have hi' : i < rs.length := getL hi
      obtain ⟨p, ns, rfl, _, hp, hnl⟩ := hrow x (List.mem_of_getElem? hi)
      have hp' := s _ _ hp
      walk_at "rs"
      refine ⟨rfl, ?_⟩
      walk_at "rs"
      refine r_slL (sl_of hp') fun p2 hp2 => ?_
      have ecut : cutV (ns.map V.int) none (some (-1)) = (ns.take m).map V.int := by
        rw [cutV_most, List.length_map, hnl, ← List.map_take]
        rfl
      rw [ecut]
      walk_at "rs"
      refine r_tpL (sl_of upd_same) fun p3 hp3 => ?_
      have s3 : Same H' (upd (upd H' p2 (.lst ((ns.take m).map V.int))) p3 (.tup ((ns.take m).map V.int))) := (same_new hp2).trans (same_new hp3)
      walk_at "rs"
      refine r_ixL (sl_of (s3 _ _ hp')) (atI_end (v := .int (ns.getD m 0)) (by rw [List.length_map, hnl, List.getElem?_map, show m + 1 - 1 = m from rfl, getD_at (show m < ns.length by omega)]; rfl)) ?_
      walk_at "rs"
      rename_i p4 hp4
      have s4 := s3.trans (same_new (o := .tup [.ref p3, .int (ns.getD m 0)]) hp4)
      have h3 : (upd (upd (upd H' p2 (.lst ((ns.take m).map V.int))) p3 (.tup ((ns.take m).map V.int))) p4 (.tup [.ref p3, .int (ns.getD m 0)])) p3 = some (.tup ((ns.take m).map V.int)) := at_new hp4 upd_same
      have h4 : (upd (upd (upd H' p2 (.lst ((ns.take m).map V.int))) p3 (.tup ((ns.take m).map V.int))) p4 (.tup [.ref p3, .int (ns.getD m 0)])) p4 = some (.tup [.ref p3, .int (ns.getD m 0)]) := upd_same
      generalize upd (upd (upd H' p2 (.lst ((ns.take m).map V.int))) p3 (.tup ((ns.take m).map V.int))) p4 (.tup [.ref p3, .int (ns.getD m 0)]) = H4 at s4 h3 h4 ⊢
      refine ⟨xs, s4 _ _ hc, lt_line (by omega), xs ++ [.ref p4], rows ++ [(ns.take m, ns.getD m 0)], Zn.Same.mut (s.trans s4) hC, upd_same, by rw [List.length_append, l1]; rfl, by rw [List.length_append, l2]; rfl, fun j v r hj hr' => ?_, fun r hr' => ?_⟩
      · have tp : Tp H4 (upd H4 C (.lst (xs ++ [.ref p4]))) := Tp.set (s4 _ _ hc)
        have hjl := getL hj
        rw [List.length_append] at hjl
        have hjl : j < xs.length + 1 := hjl
        by_cases hlt : j < xs.length
        · rw [List.getElem?_append_left hlt] at hj
          rw [List.getElem?_append_left (by omega)] at hr'
          exact ((hr j v r hj hr').tp (Same.tp s4)).tp tp
        · have : j = xs.length := by omega
          subst this
          rw [List.getElem?_concat_length] at hj
          rw [show xs.length = rows.length by omega, List.getElem?_concat_length] at hr'
          cases hj
          cases hr'
          exact IsRow.tp ⟨p4, p3, rfl, h4, h3⟩ tp
      · rcases List.mem_append.mp hr' with hr' | hr'
        · exact hm r hr'
        · rw [List.mem_singleton] at hr'
          subst hr'
          rw [List.length_take]
          omega
    · walk_at "rs"
      refine r_tupOfL (sl_of hc) fun R hR => ?_
      walk_at "rs"
      exact q _ R rows (s.trans (same_new hR)) ⟨xs, upd_same, by omega, fun j v r hj hr' => (hr j v r hj hr').tp (Same.tp (same_new hR))⟩ (by omega) hm
theorem ok_other {f : Addr} {fd : FuncData} (F : Fun K "_law_other_times" "_law_other_times" s__law_other_times f fd) (c__law_draw : Cal P w K mg base "_law_draw" 1 spDraw) (T : Tx mg) : FnOk P w K mg base CX0 2 f fd ["_law_d", "_law_width", "_law_times"] spOther := by
  refine F.ok sc__law_other_times (fun vs H Q E h => ?_) (fun cdv A outer s H vs Q E hr h => ?_)
  · obtain ⟨d, c, T, w, ts, rfl, _⟩ := h
    rfl
  · obtain ⟨d, c, Ta, w, ts, rfl, hD, nTd, w1, w8, hT, htl, q⟩ := h
    have hf := full_le w1 w8
    have hw2 := small0 (show 0 ≤ w - 1 by omega) (show w - 1 ≤ 8 by omega)
    have eL : (ts.map V.int).length = ts.length := List.length_map ..
    refine ⟨_, 
      (pss_cons (ps_set (i := 3) sc__law_other_times.nd rfl (Or.inr rfl) (pe_op op_sub (pe_op op_shl pe_int (pv 1)) pe_int))
      (pss_cons (ps_set (i := 4) sc__law_other_times.nd rfl (Or.inr rfl) (pe_op op_add (pe_op op_mul pe_int (Zn.pe_cal c__law_draw (hr.mono (by decide)) (by rfl) (pa_cons (pv 0) (pa_cons (pe_op op_shl pe_int (pe_op op_sub (pv 1) pe_int)) pa_nil)))) pe_int))
      (pss_cons (ps_set (i := 5) sc__law_other_times.nd rfl (Or.inl rfl) (pe_lst (pa_cons (pe_lc (own := [("_law_number", 6)]) rfl sc__law_other_times.nd (pi_list (pv 2)) (blkOk_by (N := ["_law_d", "_law_width", "_law_times", "_law_full", "_law_odd", "_law_found", "_law_number", "_law_k", "_law_j", "_law_turned"]) (sc := defScope s__law_other_times) (by decide +kernel)) (fun _ _ _ _ _ => (pg_name (i := 6) sc__law_other_times.nd rfl (Or.inl rfl))) (fun _ _ _ _ _ => pts_nil) (fun _ _ _ _ _ => (pe_op op_and (pe_op op_mul (pv 4) (pv 6)) (pv 3)))) (pa_cons (pe_lc (own := [("_law_number", 6)]) rfl sc__law_other_times.nd (pi_list (pv 2)) (blkOk_by (N := ["_law_d", "_law_width", "_law_times", "_law_full", "_law_odd", "_law_found", "_law_number", "_law_k", "_law_j", "_law_turned"]) (sc := defScope s__law_other_times) (by decide +kernel)) (fun _ _ _ _ _ => (pg_name (i := 6) sc__law_other_times.nd rfl (Or.inl rfl))) (fun _ _ _ _ _ => pts_nil) (fun _ _ _ _ _ => (pe_op op_and (pe_op op_mul pe_int (pv 6)) (pv 3)))) (pa_cons (pe_op op_rep (pe_lst (pa_cons pe_int pa_nil)) (pe_callB call_len_seq (by rfl) T.z_len (by decide +kernel) (pa_cons (pv 2) pa_nil))) pa_nil)))))
      (pss_cons (ps_expr (pe_bm PySem.F.plainAttrs_list PySem.F.slot_list_extend PySem.F.type_list_extend mt_extend (pv 5) (pa_cons (pe_lst (pa_cons (pe_op op_cat (pv 2) (pe_lst (pa_cons pe_int pa_nil))) (pa_cons (pe_op op_cat (pv 2) (pe_lst (pa_cons pe_int pa_nil))) (pa_cons (pe_slice (r := rSlL K) sl_list (pv 2) (po_some pe_int) po_none) pa_nil)))) pa_nil)))
      (pss_cons (ps_if (pt_cmpR op_gt (pe_callB call_len_seq (by rfl) T.z_len (by decide +kernel) (pa_cons (pv 2) pa_nil)) pe_int (nomark _)) 
       (pss_cons (ps_set (i := 7) sc__law_other_times.nd rfl (Or.inl rfl) (Zn.pe_cal c__law_draw (hr.mono (by decide)) (by rfl) (pa_cons (pv 0) (pa_cons (pe_callB call_len_seq (by rfl) T.z_len (by decide +kernel) (pa_cons (pv 2) pa_nil)) pa_nil))))
       (pss_cons (ps_set (i := 8) sc__law_other_times.nd rfl (Or.inl rfl) (Zn.pe_cal c__law_draw (hr.mono (by decide)) (by rfl) (pa_cons (pv 0) (pa_cons (pe_callB call_len_seq (by rfl) T.z_len (by decide +kernel) (pa_cons (pv 2) pa_nil)) pa_nil))))
       (pss_cons (ps_for PassesOwn.never rfl (pi_list (pe_lst (pa_cons (pe_op op_and (pe_op op_add (pe_ix (r := rIxL K) ix_list (pv 2) (pv 7) (fun _ _ => rfl)) pe_int) (pv 3)) (pa_cons (pe_op op_add (pe_op op_add (pe_ix (r := rIxL K) ix_list (pv 2) (pv 7) (fun _ _ => rfl)) (pv 3)) pe_int) (pa_cons (pe_op op_sub (pe_op op_sub (pe_ix (r := rIxL K) ix_list (pv 2) (pv 7) (fun _ _ => rfl)) (pv 3)) pe_int) (pa_cons (pe_op op_and (pe_op op_mul pe_int (pe_ix (r := rIxL K) ix_list (pv 2) (pv 7) (fun _ _ => rfl))) (pv 3)) (pa_cons (pe_un un_neg pe_int) pa_nil))))))) (pg_name (i := 6) sc__law_other_times.nd rfl (Or.inl rfl)) 
        (pss_one (ps_expr (pe_bm PySem.F.plainAttrs_list PySem.F.slot_list_append PySem.F.type_list_append mt_append (pv 5) (pa_cons (pe_op op_cat (pe_op op_cat (pe_slice (r := rSlL K) sl_list (pv 2) po_none (po_some (pv 7))) (pe_lst (pa_cons (pv 6) pa_nil))) (pe_slice (r := rSlL K) sl_list (pv 2) (po_some (pe_op op_add (pv 7) pe_int)) po_none)) pa_nil)))))
       (pss_cons (ps_set (i := 9) sc__law_other_times.nd rfl (Or.inl rfl) (pe_callTy call_list_of (by rfl) T.z_list (by decide +kernel) (pa_cons (pv 2) pa_nil)))
       (pss_cons (ps_asg (pe_ix (r := rIxL K) ix_list (pv 2) (pv 8) (fun _ _ => rfl)) (pg_sub (pv 9) (pv 7) set_list))
       (pss_cons (ps_asg (pe_ix (r := rIxL K) ix_list (pv 2) (pv 7) (fun _ _ => rfl)) (pg_sub (pv 9) (pv 8) set_list))
       (pss_one (ps_expr (pe_bm PySem.F.plainAttrs_list PySem.F.slot_list_append PySem.F.type_list_append mt_append (pv 5) (pa_cons (pv 9) pa_nil)))))))))) pss_nil)
      (pss_one (ps_ret (pv 5)))))))), ?_⟩
    walk_at "rs"
    refine ⟨d, c, _, rfl, hD, by omega, by omega, fun n1 zs n10 n11 D1 => ?_⟩
    have k1 : Kp [d] H (upd H d (.lst zs)) := .drw hD (by simp)
    have hT1 := k1.x _ _ (notin1 nTd) hT
    generalize upd H d (.lst zs) = H1 at D1 k1 hT1 ⊢
    walk_at "rs"
    refine r_ref ⟨_, sl_of hT1⟩ fun C1 hC1 => ?_
    refine lcM walk_list ((ts.map fun x => Builtin.bitAnd ((2 * n1 + 1) * x) (full w)).map V.int) (by simp) (by omega) hC1 (fun H' k => sl_of (k _ _ hT1)) (fun i x H' H'' hi k hy put => ?_) (fun H2 s2 h2 => ?_)
    · obtain ⟨rfl, hx⟩ := hy
      obtain ⟨u, rfl, hu⟩ := map_get hx
      walk_at "rs"
      refine ⟨rfl, ?_⟩
      walk_at "rs"
      exact put _ _ (by rw [List.getElem?_map, List.getElem?_map, hu]; rfl) (Same.refl _)
    have hT2 := s2 _ _ hT1
    walk_at "rs"
    refine r_ref ⟨_, sl_of hT2⟩ fun C2 hC2 => ?_
    refine lcM walk_list ((ts.map fun x => Builtin.bitAnd (2 * x) (full w)).map V.int) (by simp) (by omega) hC2 (fun H' k => sl_of (k _ _ hT2)) (fun i x H' H'' hi k hy put => ?_) (fun H3 s3 h3 => ?_)
    · obtain ⟨rfl, hx⟩ := hy
      obtain ⟨u, rfl, hu⟩ := map_get hx
      walk_at "rs"
      refine ⟨rfl, ?_⟩
      walk_at "rs"
      exact put _ _ (by rw [List.getElem?_map, List.getElem?_map, hu]; rfl) (Same.refl _)
    have hT3 := s3 _ _ hT2
    walk_at "rs"
    rename_i p3 hp3
    have hT4 : (upd H3 p3 (.lst [.int 0])) Ta = some (.lst (ts.map V.int)) := at_new hp3 hT3
    refine r_len (.inl (sl_of hT4)) ?_
    walk_at "rs"
    refine r_rep upd_same (by omega) (by omega) (len_ok (by rw [eL]; show 1 * _ ≤ _; omega)) fun p4 hp4 => ?_
    have e4 : (List.replicate ((ts.map V.int).length : Int).toNat [V.int 0]).flatten = (List.replicate ts.length (0 : Int)).map V.int := by
      rw [rep_one, List.map_replicate, eL]
      rfl
    rw [e4]
    have s5 : Same H3 (upd (upd H3 p3 (.lst [.int 0])) p4 (.lst ((List.replicate ts.length (0 : Int)).map V.int))) := (same_new hp3).trans (same_new hp4)
    have h4 : (upd (upd H3 p3 (.lst [.int 0])) p4 (.lst ((List.replicate ts.length (0 : Int)).map V.int))) p4 = _ := upd_same
    have k5 : Kp [d] H (upd (upd H3 p3 (.lst [.int 0])) p4 (.lst ((List.replicate ts.length (0 : Int)).map V.int))) := ((k1.trans (.same s2)).trans (.same s3)).trans (.same s5)
    have f1 : H C1 = none := k1.free (notin1 (D1.nd hC1).symm) hC1
    have D5 := ((D1.same s2).same s3).same s5
    have hC2' : H1 C2 = none := s2.free hC2
    have f2 : H C2 = none := k1.free (notin1 (D1.nd hC2').symm) hC2'
    have hp4' : H1 p4 = none := s2.free (s3.free ((same_new hp3).free hp4))
    have f4 : H p4 = none := k1.free (notin1 (D1.nd hp4').symm) hp4'
    have L5 : Ls (fun p => H p = none) (upd (upd H3 p3 (.lst [.int 0])) p4 (.lst ((List.replicate ts.length (0 : Int)).map V.int))) ([.ref C1] ++ ([.ref C2] ++ [.ref p4])) :=
      (Ls.one f1 (s5 _ _ (s3 _ _ h2)) rfl (by rw [List.length_map]; omega)).app ((Ls.one f2 (s5 _ _ h3) rfl (by rw [List.length_map]; omega)).app (Ls.one f4 h4 rfl (by rw [List.length_replicate]; omega)))
    have hT5 := s5 _ _ hT3
    generalize upd (upd H3 p3 (.lst [.int 0])) p4 (.lst ((List.replicate ts.length (0 : Int)).map V.int)) = H5 at k5 D5 L5 hT5 ⊢
    walk_at "rs"
    rename_i F hF F0 hF0
    have fF : H F = none := k5.free (notin1 (D5.nd hF).symm) hF
    have L5 := L5.ne hF
    have hT6 : (upd (upd H5 F (.lst [.ref C1, .ref C2, .ref p4])) F0 (.lst [.int 0])) Ta = some (.lst (ts.map V.int)) := at_new hF0 (at_new hF hT5)
    have hF6 : (upd (upd H5 F (.lst [.ref C1, .ref C2, .ref p4])) F0 (.lst [.int 0])) F = some (.lst [.ref C1, .ref C2, .ref p4]) := at_new hF0 upd_same
    have s6 : Same H5 (upd (upd H5 F (.lst [.ref C1, .ref C2, .ref p4])) F0 (.lst [.int 0])) := (same_new hF).trans (same_new hF0)
    have h06 : (upd (upd H5 F (.lst [.ref C1, .ref C2, .ref p4])) F0 (.lst [.int 0])) F0 = some (.lst [.int 0]) := upd_same
    generalize upd (upd H5 F (.lst [.ref C1, .ref C2, .ref p4])) F0 (.lst [.int 0]) = H6 at hT6 hF6 s6 h06 ⊢
    refine r_cat hT6 h06 (len_ok (by rw [eL]; show _ + 1 ≤ _; omega)) fun g1 hg1 => ?_
    rw [cat_int1]
    have n1F : g1 ≠ F := (ne_of_none hF6 hg1).symm
    have fg1 : H g1 = none := k5.free (notin1 (D5.nd (s6.free hg1)).symm) (s6.free hg1)
    have s7 : Same H6 (upd H6 g1 (.lst ((ts ++ [0]).map V.int))) := same_new hg1
    have h17 : (upd H6 g1 (.lst ((ts ++ [0]).map V.int))) g1 = _ := upd_same
    generalize upd H6 g1 (.lst ((ts ++ [0]).map V.int)) = H7 at s7 h17 ⊢
    have hT7 := s7 _ _ hT6
    walk_at "rs"
    rename_i F1 hF1
    refine r_cat (at_new hF1 hT7) upd_same (len_ok (by rw [eL]; show _ + 1 ≤ _; omega)) fun g2 hg2 => ?_
    rw [cat_int1]
    have s8 : Same H7 (upd (upd H7 F1 (.lst [.int 1])) g2 (.lst ((ts ++ [1]).map V.int))) := (same_new hF1).trans (same_new hg2)
    have h28 : (upd (upd H7 F1 (.lst [.int 1])) g2 (.lst ((ts ++ [1]).map V.int))) g2 = _ := upd_same
    have hg2' : H7 g2 = none := (same_new hF1).free hg2
    have n2F : g2 ≠ F := (ne_of_none (s7 _ _ hF6) hg2').symm
    have fg2 : H g2 = none := k5.free (notin1 (D5.nd (s6.free (s7.free hg2'))).symm) (s6.free (s7.free hg2'))
    generalize upd (upd H7 F1 (.lst [.int 1])) g2 (.lst ((ts ++ [1]).map V.int)) = H8 at s8 h28 ⊢
    have hT8 := s8 _ _ hT7
    walk_at "rs"
    refine r_slL (sl_of hT8) fun g3 hg3 => ?_
    obtain ⟨ms, ems, lms⟩ := map_cutV (ns := ts) (lo := some 1) (hi := none)
    rw [ems]
    have hg3' : H7 g3 = none := s8.free hg3
    have n3F : g3 ≠ F := (ne_of_none (s7 _ _ hF6) hg3').symm
    have fg3 : H g3 = none := k5.free (notin1 (D5.nd (s6.free (s7.free hg3'))).symm) (s6.free (s7.free hg3'))
    have s9 : Same H8 (upd H8 g3 (.lst (ms.map V.int))) := same_new hg3
    have h39 : (upd H8 g3 (.lst (ms.map V.int))) g3 = _ := upd_same
    generalize upd H8 g3 (.lst (ms.map V.int)) = H9 at s9 h39 ⊢
    walk_at "rs"
    rename_i E0 hE0
    have s10 : Same H9 (upd H9 E0 (.lst [.ref g1, .ref g2, .ref g3])) := same_new hE0
    have hF10 := s10 _ _ (s9 _ _ (s8 _ _ (s7 _ _ hF6)))
    have hE10 : (upd H9 E0 (.lst [.ref g1, .ref g2, .ref g3])) E0 = _ := upd_same
    have L10 : Ls (fun p => H p = none ∧ p ≠ F) (upd H9 E0 (.lst [.ref g1, .ref g2, .ref g3])) (([.ref C1] ++ ([.ref C2] ++ [.ref p4])) ++ ([.ref g1] ++ ([.ref g2] ++ [.ref g3]))) :=
      (((((L5.same s6).same s7).same s8).same s9).same s10).app ((Ls.one ⟨fg1, n1F⟩ (s10 _ _ (s9 _ _ (s8 _ _ h17))) rfl (by rw [List.length_append]; show _ + 1 ≤ _; omega)).app ((Ls.one ⟨fg2, n2F⟩ (s10 _ _ (s9 _ _ h28)) rfl (by rw [List.length_append]; show _ + 1 ≤ _; omega)).app (Ls.one ⟨fg3, n3F⟩ (s10 _ _ h39) rfl (by omega))))
    have D10 := ((((D5.same s6).same s7).same s8).same s9).same s10
    have k10 : Kp [d] H (upd H9 E0 (.lst [.ref g1, .ref g2, .ref g3])) := ((((k5.trans (.same s6)).trans (.same s7)).trans (.same s8)).trans (.same s9)).trans (.same s10)
    have hT10 := s10 _ _ (s9 _ _ hT8)
    generalize upd H9 E0 (.lst [.ref g1, .ref g2, .ref g3]) = H10 at hF10 hE10 L10 D10 k10 hT10 ⊢
    refine r_extend hF10 hE10 (len_ok (by show 3 + 3 ≤ _; decide)) ?_
    have nFd : F ≠ d := (D5.nd hF).symm
    have ncF : c ≠ F := D5.nc hF
    have hM : ∀ p, (H p = none ∧ p ≠ F) → p ∉ [F] := fun p h => notin1 h.2
    have L11 : Ls (fun p => H p = none ∧ p ≠ F) (upd H10 F (.lst ([.ref C1, .ref C2, .ref p4] ++ [.ref g1, .ref g2, .ref g3]))) [.ref C1, .ref C2, .ref p4, .ref g1, .ref g2, .ref g3] := L10.kp (S := [F]) hM ((Kp.refl _ _).set (by simp) hF10)
    have D11 : Drw (upd H10 F (.lst ([.ref C1, .ref C2, .ref p4] ++ [.ref g1, .ref g2, .ref g3]))) d c := D10.upd nFd.symm ncF
    have k11 : Kp [d] H (upd H10 F (.lst ([.ref C1, .ref C2, .ref p4] ++ [.ref g1, .ref g2, .ref g3]))) := k10.mut fF hF10
    have hF11 : (upd H10 F (.lst ([.ref C1, .ref C2, .ref p4] ++ [.ref g1, .ref g2, .ref g3]))) F = some (.lst [.ref C1, .ref C2, .ref p4, .ref g1, .ref g2, .ref g3]) := upd_same
    have hT11 : (upd H10 F (.lst ([.ref C1, .ref C2, .ref p4] ++ [.ref g1, .ref g2, .ref g3]))) Ta = some (.lst (ts.map V.int)) := by
      rw [upd_ne (ne_of_none hT5 hF)]
      exact hT10
    generalize upd H10 F (.lst ([.ref C1, .ref C2, .ref p4] ++ [.ref g1, .ref g2, .ref g3])) = H11 at L11 D11 k11 hF11 hT11 ⊢
    walk_at "rs"
    have L11' : Ls (fun p => H p = none) H11 [.ref C1, .ref C2, .ref p4, .ref g1, .ref g2, .ref g3] := L11.mono fun p h => h.1
    refine ite2 (fun h => ?_) (fun h => ?_)
    · have hn : 0 < ts.length := by
        have := of_decide_eq_true h
        omega
      walk_at "rs"
      refine ⟨d, c, _, rfl, D11, by omega, by omega, fun kk zs kk0 kk1 D12 => ?_⟩
      have kd : Kp [d] H11 (upd H11 d (.lst zs)) := .drw D11 (by simp)
      have hMd : ∀ p, (H p = none ∧ p ≠ F) → p ∉ [d] := fun p h => notin1 (hD.nd h.1).symm
      have L12 := L11.kp hMd kd
      have hF12 := kd.x _ _ (notin1 nFd) hF11
      have hT12 := kd.x _ _ (notin1 nTd) hT11
      have k12 := k11.trans kd
      generalize upd H11 d (.lst zs) = H12 at D12 L12 hF12 hT12 k12 ⊢
      walk_at "rs"
      refine ⟨d, c, _, rfl, D12, by omega, by omega, fun jj zs jj0 jj1 D13 => ?_⟩
      have kd : Kp [d] H12 (upd H12 d (.lst zs)) := .drw D12 (by simp)
      have L13 := L12.kp hMd kd
      have hF13 := kd.x _ _ (notin1 nFd) hF12
      have hT13 := kd.x _ _ (notin1 nTd) hT12
      have k13 := k12.trans kd
      generalize upd H12 d (.lst zs) = H13 at D13 L13 hF13 hT13 k13 ⊢
      have kk1 : kk < (ts.length : Int) := by omega
      have jj1 : jj < (ts.length : Int) := by omega
      walk_at "rs"
      refine r_ixL (sl_of hT13) (ints_ex kk0 kk1) ?_
      generalize ts.getD kk.toNat 0 = tk
      walk_at "rs"
      refine r_ixL (sl_of hT13) (ints_ex kk0 kk1) ?_
      generalize ts.getD kk.toNat 0 = tk2
      walk_at "rs"
      refine r_ixL (sl_of hT13) (ints_ex kk0 kk1) ?_
      generalize ts.getD kk.toNat 0 = tk3
      walk_at "rs"
      refine r_ixL (sl_of hT13) (ints_ex kk0 kk1) ?_
      generalize ts.getD kk.toNat 0 = tk4
      walk_at "rs"
      rename_i P5 hP5
      have n5F : F ≠ P5 := ne_of_none hF13 hP5
      refine r_ref ⟨_, sl_of upd_same⟩ ?_
      have s14 := same_new (o := .lst [.int (Builtin.bitAnd (tk + 1) (1 * 2 ^ w.toNat - 1)), .int (tk2 + (1 * 2 ^ w.toNat - 1) + 1), .int (tk3 - (1 * 2 ^ w.toNat - 1) - 1), .int (Builtin.bitAnd (2 * tk4) (1 * 2 ^ w.toNat - 1)), .int (-1)]) hP5
      refine fl (K := K) (a := P5) (xs := [Builtin.bitAnd (tk + 1) (1 * 2 ^ w.toNat - 1), tk2 + (1 * 2 ^ w.toNat - 1) + 1, tk3 - (1 * 2 ^ w.toNat - 1) - 1, Builtin.bitAnd (2 * tk4) (1 * 2 ^ w.toNat - 1), -1].map V.int)
        (fun i σ H' => ∃ v6 v9 fs, σ = [some (.ref d), some (.int w), some (.ref Ta), some (.int (full w)), some (.int (2 * n1 + 1)), some (.ref F), v6, some (.int kk), some (.int jj), v9] ∧ Kp [d] H H' ∧ Drw H' d c ∧ H' F = some (.lst fs) ∧ fs.length ≤ 6 + i ∧ Ls (fun p => H p = none ∧ p ≠ F) H' fs ∧ H' Ta = some (.lst (ts.map V.int)) ∧
          H' P5 = some (.lst ([Builtin.bitAnd (tk + 1) (1 * 2 ^ w.toNat - 1), tk2 + (1 * 2 ^ w.toNat - 1) + 1, tk3 - (1 * 2 ^ w.toNat - 1) - 1, Builtin.bitAnd (2 * tk4) (1 * 2 ^ w.toNat - 1), -1].map V.int)))
        ⟨_, _, _, rfl, k13.trans (.same s14), D13.same s14, s14 _ _ hF13, Nat.le_refl 6, L13.same s14, s14 _ _ hT13, upd_same⟩ (fun i σ H' _ ⟨_, _, _, _, _, _, _, _, _, _, h⟩ => sl_of h) ?_ ?_
      · rintro i x σ H15 hi ⟨v6, v9, fs, rfl, k15, D15, hF15, hl15, L15, hT15, hP15⟩
        obtain ⟨u, rfl, hu⟩ := map_get hi
        have hi5 : i < 5 := getL hu
        walk_at "rs"
        refine r_slL (sl_of hT15) fun a1 ha1 => ?_
        obtain ⟨m1, e1, l1⟩ := map_cutV (ns := ts) (lo := none) (hi := some kk)
        rw [e1]
        walk_at "rs"
        rename_i a2 ha2
        refine r_cat (at_new ha2 upd_same) upd_same (len_ok (by rw [List.length_map]; show _ + 1 ≤ _; omega)) fun a3 ha3 => ?_
        rw [cat_int1]
        have sa : Same H15 (upd (upd (upd H15 a1 (.lst (m1.map V.int))) a2 (.lst [.int u])) a3 (.lst ((m1 ++ [u]).map V.int))) := ((same_new ha1).trans (same_new ha2)).trans (same_new ha3)
        have h3 : (upd (upd (upd H15 a1 (.lst (m1.map V.int))) a2 (.lst [.int u])) a3 (.lst ((m1 ++ [u]).map V.int))) a3 = _ := upd_same
        generalize upd (upd (upd H15 a1 (.lst (m1.map V.int))) a2 (.lst [.int u])) a3 (.lst ((m1 ++ [u]).map V.int)) = H16 at sa h3 ⊢
        walk_at "rs"
        refine r_slL (sl_of (sa _ _ hT15)) fun a4 ha4 => ?_
        obtain ⟨m2, e2, l2⟩ := map_cutV (ns := ts) (lo := some (kk + 1)) (hi := none)
        rw [e2]
        walk_at "rs"
        refine r_cat (at_new ha4 h3) upd_same (len_ok (by rw [List.length_map, List.length_map, List.length_append]; show _ + 1 + _ ≤ _; omega)) fun a5 ha5 => ?_
        rw [cat_ints]
        have sb : Same H16 (upd (upd H16 a4 (.lst (m2.map V.int))) a5 (.lst ((m1 ++ [u] ++ m2).map V.int))) := (same_new ha4).trans (same_new ha5)
        have h5 : (upd (upd H16 a4 (.lst (m2.map V.int))) a5 (.lst ((m1 ++ [u] ++ m2).map V.int))) a5 = _ := upd_same
        have fa5' : H15 a5 = none := sa.free ((same_new ha4).free ha5)
        have fa5 : H a5 = none := k15.free (notin1 (D15.nd fa5').symm) fa5'
        have n5 : a5 ≠ F := (ne_of_none hF15 fa5').symm
        have sab := sa.trans sb
        generalize upd (upd H16 a4 (.lst (m2.map V.int))) a5 (.lst ((m1 ++ [u] ++ m2).map V.int)) = H17 at sab h5 ⊢
        have hF17 := sab _ _ hF15
        walk_at "rs"
        refine r_append hF17 (lt_line (by omega)) ?_
        walk_at "rs"
        have L17 : Ls (fun p => H p = none ∧ p ≠ F) H17 (fs ++ [.ref a5]) := (L15.same sab).app (Ls.one ⟨fa5, n5⟩ h5 rfl (by rw [List.length_append, List.length_append]; show _ + 1 + _ ≤ _; omega))
        refine ⟨_, _, _, rfl, (k15.trans (.same sab)).mut fF hF17, (D15.same sab).upd nFd.symm ncF, upd_same, by rw [List.length_append]; exact Nat.succ_le_succ hl15, L17.kp (S := [F]) hM ((Kp.refl _ _).set (by simp) hF17), ?_, ?_⟩
        · rw [upd_ne (ne_of_none hT5 hF)]
          exact sab _ _ hT15
        · rw [upd_ne n5F.symm]
          exact sab _ _ hP15
      · rintro σ H15 ⟨v6, v9, fs, rfl, k15, D15, hF15, hl15, L15, hT15, hP15⟩
        have hl15 : fs.length ≤ 11 := hl15
        walk_at "rs"
        intro t0 ht0
        have nTt : Ta ≠ t0 := ne_of_none hT15 ht0
        walk_at "rs"
        refine r_ixL (sl_of (by rw [upd_ne nTt]; exact hT15)) (ints_ex jj0 jj1) ?_
        walk_at "rs"
        refine r_setL upd_same (ixN_at kk0 (by rw [List.length_map]; exact kk1)) ?_
        rw [← List.map_set, upd_upd]
        walk_at "rs"
        refine r_ixL (sl_of (by rw [upd_ne nTt]; exact hT15)) (ints_ex kk0 kk1) ?_
        walk_at "rs"
        refine r_setL upd_same (ixN_at jj0 (by rw [List.length_map, List.length_set]; exact jj1)) ?_
        rw [← List.map_set, upd_upd]
        have s16 : Same H15 (upd H15 t0 (.lst (((ts.set kk.toNat (ts.getD jj.toNat 0)).set jj.toNat (ts.getD kk.toNat 0)).map V.int))) := same_new ht0
        have h16 : (upd H15 t0 (.lst (((ts.set kk.toNat (ts.getD jj.toNat 0)).set jj.toNat (ts.getD kk.toNat 0)).map V.int))) t0 = _ := upd_same
        generalize upd H15 t0 (.lst (((ts.set kk.toNat (ts.getD jj.toNat 0)).set jj.toNat (ts.getD kk.toNat 0)).map V.int)) = H16 at s16 h16 ⊢
        have hF16 := s16 _ _ hF15
        have f0 : H t0 = none := k15.free (notin1 (D15.nd ht0).symm) ht0
        have n0 : t0 ≠ F := (ne_of_none hF15 ht0).symm
        walk_at "rs"
        refine r_append hF16 (lt_line (by omega)) ?_
        walk_at "rs"
        have L17 : Ls (fun p => H p = none ∧ p ≠ F) H16 (fs ++ [.ref t0]) := (L15.same s16).app (Ls.one ⟨f0, n0⟩ h16 rfl (by rw [List.length_set, List.length_set]; omega))
        exact q _ F _ ((k15.trans (.same s16)).mut fF hF16) ((D15.same s16).upd nFd.symm ncF) fF upd_same (by rw [List.length_append]; show _ + 1 ≤ _; omega) ((L17.kp (S := [F]) hM ((Kp.refl _ _).set (by simp) hF16)).mono fun p h => h.1)
    · walk_at "rs"
      exact q _ F _ k11 D11 fF hF11 (show 6 ≤ 100 by decide) L11'
end
end Zn
namespace Zn
open PySem PySem.Spec PyProof.Rows L2 TL
/-- a pair that the judge can be asked with -/
def Good (m : Nat) (H : Hp) (v : V) : Prop := ∃ (p R T : Addr) (rows : List RowI) (ts : List Int), v = .ref p ∧ H p = some (.tup [.ref R, .ref T]) ∧ IsRows H R rows ∧ (∀ r ∈ rows, r.1.length = m) ∧ rows.length ≤ 100 ∧ H T = some (.tup (ts.map V.int)) ∧ ts.length ≤ 300
theorem Good.tp {m : Nat} {H H' : Hp} {v : V} (h : Good m H v) (k : Tp H H') : Good m H' v := by
  obtain ⟨p, R, T, rows, ts, e, h1, h2, h3, h4, h5, h6⟩ := h
  exact ⟨p, R, T, rows, ts, e, k _ _ h1, h2.tp k, h3, h4, k _ _ h5, h6⟩
theorem Good.mk {m : Nat} {H : Hp} {p R T : Addr} {rows : List RowI} {ts : List Int} (hR : IsRows H R rows) (hm : ∀ r ∈ rows, r.1.length = m) (hl : rows.length ≤ 100) (hT : H T = some (.tup (ts.map V.int))) (tl : ts.length ≤ 300) (hp : H p = none) : Good m (upd H p (.tup [.ref R, .ref T])) (.ref p) :=
  ⟨p, R, T, rows, ts, rfl, upd_same, hR.tp (Same.tp (same_new hp)), hm, hl, same_new hp _ _ hT, tl⟩
def spLaw (K : PySem.W.Frag) : Sp := fun vs H Q _ => ∃ (a : Addr) (ns : List Int), vs = [.ref a] ∧ SqL K H a (ns.map V.int) ∧ ns.length ≤ 63 ∧ ∀ H', Q (.bl true) H'
theorem r_pw {b : Bool} {σ : L2.St} {H : Hp} {Q : VK} {d c : Addr} {w : Int} (h1 : σ[1]? = some (some (.ref d))) (h2 : σ[2]? = some (some (.int w))) (D : Drw H d c) (w1 : 1 ≤ w) (w8 : w ≤ 8)
    (q : ∀ p H', Drw H' d c → 0 ≤ p → p < w → Q (.int p) H') : if b = true then tCal spDraw (tCons (tVar 1) (tCons (tVar 2) tNil)) σ H Q else tC (.int 0) σ H Q := by
  cases b
  · exact q 0 H D (by decide) (by omega)
  · exact ⟨_, h1, _, h2, d, c, w, rfl, D, w1, by omega, fun n xs n0 n1 D1 => q n _ D1 n0 n1⟩
theorem r_30 {b : Bool} {σ : L2.St} {H : Hp} {Q : VK} (q : ∀ m : Int, (m = 3 ∧ b = true ∨ m = 0) → Q (.int m) H) : if b = true then tC (.int 3) σ H Q else tC (.int 0) σ H Q := by
  cases b
  · exact q 0 (.inr rfl)
  · exact q 3 (.inl ⟨rfl, rfl⟩)
theorem r_nk {b : Bool} {σ : L2.St} {H : Hp} {Q : VK} {d c : Addr} {m : Nat} (h1 : σ[1]? = some (some (.ref d))) (h2 : σ[4]? = some (some (.int (m : Int)))) (D : Drw H d c) (m6 : m ≤ 6)
    (q : ∀ n H', Kp [d] H H' → Drw H' d c → 0 ≤ n → n ≤ (m : Int) → Q (.int n) H') : if b = true then tVar 4 σ H Q else tCal spDraw (tCons (tVar 1) (tCons (tOp (rI0 fun i j => .int (i + j)) (tVar 4) (tC (.int 1))) tNil)) σ H Q := by
  cases b
  · refine ⟨_, h1, _, h2, _, _, rfl, rfl, d, c, _, rfl, D, by omega, by omega, fun n xs n0 n1 D1 => q n _ (Kp.drw D (by simp)) D1 n0 (by omega)⟩
  · exact ⟨_, h2, q _ H (Kp.refl _ _) D (by omega) (by omega)⟩
section
variable {P : Program} {w : World} {K : PySem.W.Frag} {mg : Str → Option Value} {base : Heap}
theorem ok_law {f : Addr} {fd : FuncData} (F : Fun K "law" "law" s_law f fd) (c_judge_multipliers : Cal P w K mg base "judge_multipliers" 1 (spBar K)) (c__law_begin : Cal P w K mg base "_law_begin" 1 (spBegin K)) (c__law_draw : Cal P w K mg base "_law_draw" 1 spDraw)
    (c__law_bar : Cal P w K mg base "_law_bar" 1 (spBar K)) (c__law_lot : Cal P w K mg base "_law_lot" 3 spLot) (c__law_other_times : Cal P w K mg base "_law_other_times" 2 spOther) (c__law_handed : Cal P w K mg base "_law_handed" 1 (spHanded K)) (T : Tx mg) :
    FnOk P w K mg base CX0 4 f fd ["_law_script"] (spLaw K) := by
  refine F.ok sc_law (fun vs H Q E h => ?_) (fun cdv A outer s H vs Q E hr h => ?_)
  · obtain ⟨a, ns, rfl, _⟩ := h
    rfl
  · obtain ⟨a, ns, rfl, hS, hl, q⟩ := h
    refine ⟨_, 
      (pss_cons (ps_set (i := 1) sc_law.nd rfl (Or.inr rfl) (Zn.pe_cal c__law_begin (hr.mono (by decide)) (by rfl) (pa_cons (pv 0) pa_nil)))
      (pss_cons (ps_set (i := 2) sc_law.nd rfl (Or.inr rfl) (pe_op op_add pe_int (Zn.pe_cal c__law_draw (hr.mono (by decide)) (by rfl) (pa_cons (pv 1) (pa_cons pe_int pa_nil)))))
      (pss_cons (ps_set (i := 3) sc_law.nd rfl (Or.inr rfl) (pe_op op_sub (pe_op op_shl pe_int (pv 2)) pe_int))
      (pss_cons (ps_set (i := 4) sc_law.nd rfl (Or.inl rfl) (Zn.pe_cal c__law_draw (hr.mono (by decide)) (by rfl) (pa_cons (pv 1) (pa_cons pe_int pa_nil))))
      (pss_cons (ps_set (i := 5) sc_law.nd rfl (Or.inr rfl) (pe_ifExp (pt_cmpR op_eq (Zn.pe_cal c__law_draw (hr.mono (by decide)) (by rfl) (pa_cons (pv 1) (pa_cons pe_int pa_nil))) pe_int (nomark _)) (Zn.pe_cal c__law_draw (hr.mono (by decide)) (by rfl) (pa_cons (pv 1) (pa_cons (pv 2) pa_nil))) pe_int))
      (pss_cons (ps_setLc (own := [("_law_k", 7)]) (i := 6) rfl sc_law.nd rfl rfl (sw_true rfl rfl rfl (by decide +kernel)) (pi_range1 (by rfl) T.z_range (pa_cons (Zn.pe_cal c__law_draw (hr.mono (by decide)) (by rfl) (pa_cons (pv 1) (pa_cons pe_int pa_nil))) pa_nil)) (blkOk_by (N := ["_law_script", "_law_d", "_law_width", "_law_full", "_law_many", "_law_power", "_law_times", "_law_k", "_law_rows", "_law_number", "_law_asked", "_law_other", "_law_changed", "_law_row", "_law_at", "_law_n", "_law_pair", "_law_told"]) (sc := defScope s_law) (by decide +kernel)) (fun _ _ _ _ _ => (pg_name (i := 7) sc_law.nd rfl (Or.inl rfl))) (fun _ _ _ _ _ => pts_nil) (fun _ _ _ _ _ => (Zn.pe_cal c__law_draw (hr.mono (by decide)) (by rfl) (pa_cons (pv 1) (pa_cons (pe_op op_shl pe_int (pv 2)) pa_nil)))))
      (pss_cons (ps_set (i := 8) sc_law.nd rfl (Or.inl rfl) (Zn.pe_cal c__law_lot (hr.mono (by decide)) (by rfl) (pa_cons (pv 1) (pa_cons (pv 2) (pa_cons (pv 4) (pa_cons (pv 6) (pa_cons (pv 5) pa_nil)))))))
      (pss_cons (ps_setLc (own := [("_law_number", 9)]) (i := 6) rfl sc_law.nd rfl rfl (sw_true rfl rfl rfl (by decide +kernel)) (pi_list (pv 6)) (blkOk_by (N := ["_law_script", "_law_d", "_law_width", "_law_full", "_law_many", "_law_power", "_law_times", "_law_k", "_law_rows", "_law_number", "_law_asked", "_law_other", "_law_changed", "_law_row", "_law_at", "_law_n", "_law_pair", "_law_told"]) (sc := defScope s_law) (by decide +kernel)) (fun _ _ _ _ _ => (pg_name (i := 9) sc_law.nd rfl (Or.inl rfl))) (fun _ _ _ _ _ => pts_nil) (fun _ _ _ _ _ => (pe_op op_and (pe_op op_shl (pv 9) (pv 5)) (pv 3))))
      (pss_cons (ps_set (i := 10) sc_law.nd rfl (Or.inl rfl) (pe_lst (pa_cons (pe_tup (pa_cons (Zn.pe_cal c__law_handed (hr.mono (by decide)) (by rfl) (pa_cons (pv 8) pa_nil)) (pa_cons (pe_callTy call_tuple_of (by rfl) T.z_tuple (by decide +kernel) (pa_cons (pv 6) pa_nil)) pa_nil))) pa_nil)))
      (pss_cons (ps_for PassesOwn.never rfl (pi_list (Zn.pe_cal c__law_other_times (hr.mono (by decide)) (by rfl) (pa_cons (pv 1) (pa_cons (pv 2) (pa_cons (pv 6) pa_nil))))) (pg_name (i := 11) sc_law.nd rfl (Or.inl rfl)) 
       (pss_one (ps_expr (pe_bm PySem.F.plainAttrs_list PySem.F.slot_list_append PySem.F.type_list_append mt_append (pv 10) (pa_cons (pe_tup (pa_cons (pe_ix (r := rIxT K) ix_tup (pe_ix (r := rIxL K) ix_list (pv 10) pe_int (fun _ _ => rfl)) pe_int (fun _ _ => rfl)) (pa_cons (pe_callTy call_tuple_of (by rfl) T.z_tuple (by decide +kernel) (pa_cons (pv 11) pa_nil)) pa_nil))) pa_nil)))))
      (pss_cons (ps_for PassesOwn.never rfl (pi_range1 (by rfl) T.z_range (pa_cons (pe_ifExp (pt_cmpR op_gt (pe_callB call_len_seq (by rfl) T.z_len (by decide +kernel) (pa_cons (pv 8) pa_nil)) pe_int (nomark _)) pe_int pe_int) pa_nil)) (pg_name (i := 7) sc_law.nd rfl (Or.inl rfl)) 
       (pss_cons (ps_setLc (own := [("_law_row", 13)]) (i := 12) rfl sc_law.nd rfl rfl (sw_true rfl rfl rfl (by decide +kernel)) (pi_list (pv 8)) (blkOk_by (N := ["_law_script", "_law_d", "_law_width", "_law_full", "_law_many", "_law_power", "_law_times", "_law_k", "_law_rows", "_law_number", "_law_asked", "_law_other", "_law_changed", "_law_row", "_law_at", "_law_n", "_law_pair", "_law_told"]) (sc := defScope s_law) (by decide +kernel)) (fun _ _ _ _ _ => (pg_name (i := 13) sc_law.nd rfl (Or.inl rfl))) (fun _ _ _ _ _ => pts_nil) (fun _ _ _ _ _ => (pe_callTy (r := Zn.rLstOf K) call_list_of (by rfl) T.z_list (by decide +kernel) (pa_cons (pv 13) pa_nil))))
       (pss_cons (ps_set (i := 14) sc_law.nd rfl (Or.inl rfl) (Zn.pe_cal c__law_draw (hr.mono (by decide)) (by rfl) (pa_cons (pv 1) (pa_cons (pe_callB call_len_seq (by rfl) T.z_len (by decide +kernel) (pa_cons (pv 8) pa_nil)) pa_nil))))
       (pss_cons (ps_set (i := 15) sc_law.nd rfl (Or.inl rfl) (pe_ifExp (pt_cmpR op_eq (pv 7) pe_int (nomark _)) (pv 4) (Zn.pe_cal c__law_draw (hr.mono (by decide)) (by rfl) (pa_cons (pv 1) (pa_cons (pe_op op_add (pv 4) pe_int) pa_nil)))))
       (pss_cons (ps_asg (pe_op op_and (pe_op op_add (pe_ix (r := rIxL K) ix_list (pe_ix (r := rIxL K) ix_list (pv 12) (pv 14) (fun _ _ => rfl)) (pv 15) (fun _ _ => rfl)) (pe_op op_shl pe_int (Zn.pe_cal c__law_draw (hr.mono (by decide)) (by rfl) (pa_cons (pv 1) (pa_cons (pv 2) pa_nil))))) (pv 3)) (pg_sub (pe_ix (r := rIxL K) ix_list (pv 12) (pv 14) (fun _ _ => rfl)) (pv 15) set_list))
       (pss_one (ps_expr (pe_bm PySem.F.plainAttrs_list PySem.F.slot_list_append PySem.F.type_list_append mt_append (pv 10) (pa_cons (pe_tup (pa_cons (Zn.pe_cal c__law_handed (hr.mono (by decide)) (by rfl) (pa_cons (pv 12) pa_nil)) (pa_cons (pe_callTy call_tuple_of (by rfl) T.z_tuple (by decide +kernel) (pa_cons (pv 6) pa_nil)) pa_nil))) pa_nil)))))))))
      (pss_cons (ps_for PassesOwn.never rfl (pi_list (pe_op op_cat (pv 10) (pe_slice (r := rSlL K) sl_list (pv 10) po_none (po_some pe_int)))) (pg_name (i := 16) sc_law.nd rfl (Or.inl rfl)) 
       (pss_cons (ps_set (i := 17) sc_law.nd rfl (Or.inl rfl) (Zn.pe_cal c_judge_multipliers (hr.mono (by decide)) (by rfl) (pa_cons (pv 2) (pa_cons (pv 4) (pa_cons (pe_ix (r := rIxT K) ix_tup (pv 16) pe_int (fun _ _ => rfl)) (pa_cons (pe_ix (r := rIxT K) ix_tup (pv 16) pe_int (fun _ _ => rfl)) pa_nil))))))
       (pss_one (ps_if (PW.pt (pw_or (pt_not (pt_val (pe_callB call_isi (by rfl) T.z_isinstance (by decide +kernel) (pa_cons (pv 17) (pa_cons (pe_bltn (v := .ty "bool") (by rfl) T.z_bool (by decide +kernel) rfl) pa_nil))))) (pw_or1 (pt_cmpR op_ne (pv 17) (Zn.pe_cal c__law_bar (hr.mono (by decide)) (by rfl) (pa_cons (pv 2) (pa_cons (pv 4) (pa_cons (pe_ix (r := rIxT K) ix_tup (pv 16) pe_int (fun _ _ => rfl)) (pa_cons (pe_ix (r := rIxT K) ix_tup (pv 16) pe_int (fun _ _ => rfl)) pa_nil))))) (nomark _))))) 
        (pss_one (ps_ret pe_bl)) pss_nil))))
      (pss_one (ps_ret pe_bl)))))))))))))), ?_⟩
    walk_at "rs"
    refine ⟨a, ns, rfl, hS, hl, fun H1 d c s1 hd D1 => ?_⟩
    walk_at "rs"
    refine ⟨d, c, _, rfl, D1, by decide, by decide, fun n2 zs n20 n21 D2 => ?_⟩
    generalize upd H1 d (.lst zs) = H2 at D2 ⊢
    have w1 : 1 ≤ 1 + n2 := by omega
    have w8 : 1 + n2 ≤ 8 := by omega
    generalize hw : 1 + n2 = w at w1 w8
    have hf := full_le w1 w8
    have hw2 := small0 (show 0 ≤ w by omega) w8
    walk_at "rs"
    rw [hw]
    refine ⟨d, c, _, rfl, D2, by decide, by decide, fun n3 zs n30 n31 D3 => ?_⟩
    generalize upd H2 d (.lst zs) = H3 at D3 ⊢
    obtain ⟨m, rfl⟩ := Int.eq_ofNat_of_zero_le n30
    have m6 : m ≤ 6 := by omega
    walk_at "rs"
    refine ⟨d, c, _, rfl, D3, by decide, by decide, fun n4 zs n40 n41 D4 => ?_⟩
    generalize upd H3 d (.lst zs) = H4 at D4 ⊢
    walk_at "rs"
    refine r_pw rfl rfl D4 w1 w8 fun pw H5 D5 p0 pw1 => ?_
    walk_at "rs"
    refine ⟨d, c, _, rfl, D5, by decide, by decide, fun n5 zs n50 n51 D6 => ?_⟩
    generalize upd H5 d (.lst zs) = H6 at D6 ⊢
    walk_at "rs"
    intro Ta hTa
    refine lcK walk_range [d] (fun H' xs => ∃ ns : List Int, xs = ns.map V.int ∧ ∀ u ∈ ns, 0 ≤ u ∧ u < 2 ^ w.toNat) (by omega) hTa (notin1 (D6.nd hTa).symm) D6 (fun _ _ => trivial) (fun _ _ _ _ h => h) ⟨[], rfl, all_nil⟩ (fun j x H3 H3' ys hj k3 D3 hy3 hl3 r3 hy put2 => ?_) (fun H7 ys k7 D7 hT7 hl7 r7 => ?_)
    · obtain ⟨rfl, rfl⟩ := hy
      obtain ⟨ns, rfl, hns⟩ := r3
      walk_at "rs"
      refine ⟨rfl, ?_⟩
      walk_at "rs"
      refine ⟨d, c, _, rfl, D3, by omega, by omega, fun n zs n0 n1 D4 => ?_⟩
      refine put2 _ _ (Kp.drw D3 (by simp)) D4 ⟨ns ++ [n], by rw [List.map_append]; rfl, fun u hu => ?_⟩
      rcases List.mem_append.mp hu with hu | hu
      · exact hns u hu
      · rw [List.mem_singleton] at hu
        omega
    obtain ⟨ts, rfl, hts⟩ := r7
    rw [List.length_map] at hl7
    walk_at "rs"
    refine ⟨d, c, Ta, w, pw, m, ts, rfl, D7, (D6.nd hTa).symm, D6.nc hTa, w1, w8, m6, p0, pw1, hT7, by omega, hts, fun H8 rw_ ts' k8 D8 fre M8 hT8 hl8 hb8 => ?_⟩
    have M8 := M8.mono (G := fun p => p ≠ d) fun p hp => (D7.nd hp).symm
    have nrd : rw_ ≠ d := (D7.nd fre).symm
    walk_at "rs"
    refine r_ref ⟨_, sl_of hT8⟩ fun T2 hT2 => ?_
    refine lcM walk_list ((ts'.map fun x => Builtin.bitAnd (x * 2 ^ pw.toNat) (full w)).map V.int) (by simp) (by rw [List.length_map]; omega) hT2 (fun H' k => sl_of (k _ _ hT8)) (fun i x H' H'' hi k hy put => ?_) (fun H9 s9 h9 => ?_)
    · obtain ⟨rfl, hx⟩ := hy
      obtain ⟨u, rfl, hu⟩ := map_get hx
      have hub := hb8 u (List.mem_of_getElem? hu)
      walk_at "rs"
      refine ⟨rfl, ?_⟩
      walk_at "rs"
      exact put _ _ (by rw [List.getElem?_map, List.getElem?_map, hu]; rfl) (Same.refl _)
    have hl9 : (ts'.map fun x => Builtin.bitAnd (x * 2 ^ pw.toNat) (full w)).length ≤ 100 := by rw [List.length_map]; omega
    generalize (ts'.map fun x => Builtin.bitAnd (x * 2 ^ pw.toNat) (full w)) = us at h9 hl9
    have n2d : T2 ≠ d := (D8.nd hT2).symm
    walk_at "rs"
    refine ⟨rw_, _, ts.length, m, rfl, M8.same s9, by omega, m6, fun H10 R0 rows0 s10 hR0 hlr hm0 => ?_⟩
    walk_at "rs"
    refine ⟨T2, _, rfl, .inl ⟨sl_of (s10 _ _ h9), fun T0 hT0 => ?_⟩⟩
    walk_at "rs"
    rename_i P0 hP0 A hA
    have s11 : Same H10 (upd H10 T0 (.tup (us.map V.int))) := same_new hT0
    have G0 : Good m (upd (upd H10 T0 (.tup (us.map V.int))) P0 (.tup [.ref R0, .ref T0])) (.ref P0) := Good.mk (hR0.tp (Same.tp s11)) hm0 (by omega) upd_same (by omega) hP0
    have s12 : Same H10 (upd (upd (upd H10 T0 (.tup (us.map V.int))) P0 (.tup [.ref R0, .ref T0])) A (.lst [.ref P0])) := (s11.trans (same_new hP0)).trans (same_new hA)
    have hA13 : (upd (upd (upd H10 T0 (.tup (us.map V.int))) P0 (.tup [.ref R0, .ref T0])) A (.lst [.ref P0])) A = some (.lst [.ref P0]) := upd_same
    have hP13 : (upd (upd (upd H10 T0 (.tup (us.map V.int))) P0 (.tup [.ref R0, .ref T0])) A (.lst [.ref P0])) P0 = some (.tup [.ref R0, .ref T0]) := at_new hA upd_same
    have G0 := G0.tp (Same.tp (same_new (o := .lst [.ref P0]) hA))
    have hA10 : H10 A = none := s11.free ((same_new hP0).free hA)
    have nrA : rw_ ≠ A := by
      obtain ⟨_, e, _⟩ := M8
      exact ne_of_none (s10 _ _ (s9 _ _ e)) hA10
    have M13 := ((M8.same s9).same s10).same s12
    have M13 : IsMat (fun p => p ≠ d ∧ p ≠ A) (upd (upd (upd H10 T0 (.tup (us.map V.int))) P0 (.tup [.ref R0, .ref T0])) A (.lst [.ref P0])) rw_ ts.length m := by
      obtain ⟨rs, e1, e2, e3⟩ := id M8
      refine ⟨rs, s12 _ _ (s10 _ _ (s9 _ _ e1)), e2, fun v hv => ?_⟩
      obtain ⟨p, ns, e, f, x, l⟩ := e3 v hv
      exact ⟨p, ns, e, ⟨f, ne_of_none (s10 _ _ (s9 _ _ x)) hA10⟩, s12 _ _ (s10 _ _ (s9 _ _ x)), l⟩
    have D13 := ((D8.same s9).same s10).same s12
    have h213 := s12 _ _ (s10 _ _ h9)
    have n2A : T2 ≠ A := ne_of_none (s10 _ _ h9) hA10
    have nAd : A ≠ d := (((D8.same s9).same s10).nd hA10).symm
    have ncA : c ≠ A := ((D8.same s9).same s10).nc hA10
    generalize upd (upd (upd H10 T0 (.tup (us.map V.int))) P0 (.tup [.ref R0, .ref T0])) A (.lst [.ref P0]) = H13 at D13 M13 G0 hP13 hA13 h213 ⊢
    walk_at "rs"
    refine ⟨d, c, T2, w, us, rfl, D13, n2d, w1, w8, h213, hl9, fun H14 F fs k14 D14 fF hF14 hfl L14 => ?_⟩
    have hA14 := k14.x _ _ (notin1 nAd) hA13
    have hP14 := k14.t _ _ hP13
    have G14 := G0.tp k14.t
    have nFA : F ≠ A := (ne_of_none hA13 fF).symm
    have L14 : Ls (fun p => p ≠ A) H14 fs := L14.mono fun p hp => (ne_of_none hA13 hp).symm
    have M14 : IsMat (fun p => p ≠ d ∧ p ≠ A) H14 rw_ ts.length m := M13.kp (notin1 nrd) (fun p hp => notin1 hp.1) k14
    have h214 := k14.x _ _ (notin1 n2d) h213
    walk_at "rs"
    refine r_ref ⟨_, sl_of hF14⟩ ?_
    refine fl (K := K) (a := F) (xs := fs) (fun i σ H' => ∃ v7 v9 v11 v12 v13 v14 v15 v16 v17 ps, σ = [some (.ref a), some (.ref d), some (.int w), some (.int (full w)), some (.int (m : Int)), some (.int pw), some (.ref T2), v7, some (.ref rw_), v9, some (.ref A), v11, v12, v13, v14, v15, v16, v17] ∧
      Drw H' d c ∧ H' A = some (.lst (.ref P0 :: ps)) ∧ ps.length ≤ i ∧ (∀ v ∈ .ref P0 :: ps, Good m H' v) ∧ H' P0 = some (.tup [.ref R0, .ref T0]) ∧ IsMat (fun p => p ≠ d ∧ p ≠ A) H' rw_ ts.length m ∧ H' T2 = some (.lst (us.map V.int)) ∧ H' F = some (.lst fs) ∧ Ls (fun p => p ≠ A) H' fs)
      ⟨_, _, _, _, _, _, _, _, _, [], rfl, D14, hA14, Nat.le_refl _, all_cons G14 all_nil, hP14, M14, h214, hF14, L14⟩ (fun i σ H' _ ⟨_, _, _, _, _, _, _, _, _, _, _, _, _, _, _, _, _, _, h, _⟩ => sl_of h) ?_ ?_
    · rintro i x σ H15 hi ⟨v7, v9, v11, v12, v13, v14, v15, v16, v17, ps, rfl, D15, hA15, hl15, G15, hP15, M15, h215, hF15, L15⟩
      obtain ⟨p, ns, rfl, npA, hp, hnl⟩ := L15 x (List.mem_of_getElem? hi)
      have hi' := getL hi
      obtain ⟨_, R, T', rows, tss, e1, e2, e3, e4, e5, e6, e7⟩ := G15 (.ref P0) List.mem_cons_self
      cases e1
      rw [hP15] at e2
      cases e2
      walk_at "rs"
      refine r_ixL (sl_of hA15) at0 ?_
      walk_at "rs"
      refine ⟨p, _, rfl, .inl ⟨sl_of hp, fun T1 hT1 => ?_⟩⟩
      walk_at "rs"
      rename_i P1 hP1
      have sa : Same H15 (upd H15 T1 (.tup (ns.map V.int))) := same_new hT1
      have Gn : Good m (upd (upd H15 T1 (.tup (ns.map V.int))) P1 (.tup [.ref R0, .ref T1])) (.ref P1) := Good.mk (e3.tp (Same.tp sa)) e4 e5 upd_same hnl hP1
      have sb := sa.trans (same_new (o := .tup [.ref R0, .ref T1]) hP1)
      generalize upd (upd H15 T1 (.tup (ns.map V.int))) P1 (.tup [.ref R0, .ref T1]) = H16 at Gn sb ⊢
      have hA16 := sb _ _ hA15
      refine r_append hA16 (lt_line (by show ps.length + 1 < _; omega)) ?_
      walk_at "rs"
      have tq : Tp H16 (upd H16 A (.lst (.ref P0 :: ps ++ [.ref P1]))) := Tp.set hA16
      have kq : Kp [A] H16 (upd H16 A (.lst (.ref P0 :: ps ++ [.ref P1]))) := (Kp.refl _ _).set (by simp) hA16
      refine ⟨_, _, _, _, _, _, _, _, _, ps ++ [.ref P1], rfl, (D15.same sb).upd nAd.symm ncA, upd_same, by rw [List.length_append]; exact Nat.succ_le_succ hl15, fun v hv => ?_, tq _ _ (sb _ _ hP15), (M15.same sb).kp (notin1 nrA) (fun p hp => notin1 hp.2) kq, kq.x _ _ (notin1 n2A) (sb _ _ h215), kq.x _ _ (notin1 nFA) (sb _ _ hF15), (L15.same sb).kp (fun p hp => notin1 hp) kq⟩
      rcases List.mem_append.mp (show v ∈ (.ref P0 :: ps) ++ [.ref P1] from hv) with hv | hv
      · exact ((G15 v hv).tp (Same.tp sb)).tp tq
      · rw [List.mem_singleton] at hv
        subst hv
        exact Gn.tp tq
    rintro σ H15 ⟨v7, v9, v11, v12, v13, v14, v15, v16, v17, ps, rfl, D15, hA15, hl15, G15, hP15, M15, h215, hF15, L15⟩
    obtain ⟨rs15, hr15, hrl15, _⟩ := id M15
    walk_at "rs"
    refine r_30 fun m3 hm3 => ?_
    have hm30 : 0 ≤ m3 ∧ m3 ≤ 3 := by rcases hm3 with ⟨h, _⟩ | h <;> omega
    walk_at "rs"
    refine fr (fun i σ H' => ∃ v7 v9 v11 v12 v13 v14 v15 v16 v17 ps, σ = [some (.ref a), some (.ref d), some (.int w), some (.int (full w)), some (.int (m : Int)), some (.int pw), some (.ref T2), v7, some (.ref rw_), v9, some (.ref A), v11, v12, v13, v14, v15, v16, v17] ∧
      Drw H' d c ∧ H' A = some (.lst ps) ∧ ps.length ≤ 200 + i ∧ (∀ v ∈ ps, Good m H' v) ∧ IsMat (fun p => p ≠ d ∧ p ≠ A) H' rw_ ts.length m ∧ H' T2 = some (.lst (us.map V.int)))
      ⟨_, _, _, _, _, _, _, _, _, _, rfl, D15, hA15, by show ps.length + 1 ≤ _; omega, G15, M15, h215⟩ ?_ ?_
    · rintro i σ H16 hi ⟨v7, v9, v11, v12, v13, v14, v15, v16, v17, ps, rfl, D16, hA16, hl16, G16, M16, h216⟩
      have hi3 : i < 3 := by omega
      have hb : 0 < ts.length := by
        rcases hm3 with ⟨_, h⟩ | h
        · have := of_decide_eq_true h
          omega
        · omega
      obtain ⟨rs, hr16, hrl, hrow⟩ := id M16
      walk_at "rs"
      refine r_ref ⟨_, sl_of hr16⟩ fun C hC => ?_
      refine lc_list (K := K) (a := rw_) (xs := rs) (fun i H' => ∃ xs : List V, Same H16 H' ∧ H' C = some (.lst xs) ∧ xs.length = i ∧ ∀ v ∈ xs, ∃ (p : Addr) (ns : List Int), v = .ref p ∧ H16 p = none ∧ p ≠ C ∧ H' p = some (.lst (ns.map V.int)) ∧ ns.length = m + 1)
        ⟨[], same_new hC, upd_same, rfl, all_nil⟩ (fun i H' _ ⟨_, s, _⟩ => sl_of (s _ _ hr16)) (fun j x H' hj ⟨xs, s, hc, l1, hx⟩ => ?_) (fun H17 ⟨xs, s17, hc17, l17, hx17⟩ => ?_)
      · have hj' := getL hj
        obtain ⟨p, ns, rfl, _, hp, hnl⟩ := hrow x (List.mem_of_getElem? hj)
        walk_at "rs"
        refine ⟨rfl, ?_⟩
        walk_at "rs"
        refine r_lsO (.inl (sl_of (s _ _ hp))) fun l hl' => ?_
        have sl := same_new (o := .lst (ns.map V.int)) hl'
        have fl : H16 l = none := s.free hl'
        refine ⟨xs, sl _ _ hc, lt_line (by omega), xs ++ [.ref l], Zn.Same.mut (s.trans sl) hC, upd_same, by rw [List.length_append, l1]; rfl, fun v hv => ?_⟩
        rcases List.mem_append.mp hv with hv | hv
        · obtain ⟨p', ns', e, f1, f2, x, l⟩ := hx v hv
          exact ⟨p', ns', e, f1, f2, by rw [upd_ne f2]; exact sl _ _ x, l⟩
        · rw [List.mem_singleton] at hv
          have nlC : l ≠ C := (ne_of_none hc hl').symm
          exact ⟨l, ns, hv, fl, nlC, by rw [upd_ne nlC]; exact upd_same, hnl⟩
      · have M17 : IsMat (fun p => H16 p = none) H17 C ts.length m := ⟨xs, hc17, by omega, fun v hv => by obtain ⟨p', ns', e, f1, f2, x, l⟩ := hx17 v hv; exact ⟨p', ns', e, f1, x, l⟩⟩
        have nCd : C ≠ d := (D16.nd hC).symm
        have D17 := D16.same s17
        have hr17 := s17 _ _ hr16
        walk_at "rs"
        refine ⟨d, c, _, rfl, D17, by omega, by omega, fun at_ zs a0 a1 D18 => ?_⟩
        have k18 : Kp [d] H17 (upd H17 d (.lst zs)) := .drw D17 (by simp)
        have k18' : Kp [d] H16 (upd H17 d (.lst zs)) := (Kp.same s17).trans k18
        have hF : ∀ p, H16 p = none → p ∉ [d] := fun p hp => notin1 (D16.nd hp).symm
        have M18 := M17.kp (notin1 nCd) hF k18
        generalize upd H17 d (.lst zs) = H18 at D18 k18 k18' M18 ⊢
        walk_at "rs"
        refine r_nk rfl rfl D18 m6 fun n H19 k19 D19 n0 n1 => ?_
        have M19 := M18.kp (notin1 nCd) hF k19
        have k19' := k18'.trans k19
        walk_at "rs"
        obtain ⟨rs9, p9, ns9, h1, h2, h3, h4, h5, h6⟩ := M19.row a0 (by omega)
        refine r_ixL (sl_of h1) h3 ?_
        walk_at "rs"
        refine r_ixL (sl_of h5) (ints_ex n0 (by omega)) ?_
        walk_at "rs"
        refine ⟨d, c, _, rfl, D19, w1, by omega, fun nn zs nn0 nn1 D20 => ?_⟩
        have k20 : Kp [d] H19 (upd H19 d (.lst zs)) := .drw D19 (by simp)
        have k20' : Kp [d] H16 (upd H19 d (.lst zs)) := k19'.trans k20
        have M20 := M19.kp (notin1 nCd) hF k20
        have h1 := k20.x _ _ (notin1 nCd) h1
        have h5 := k20.x _ _ (hF _ h4) h5
        generalize upd H19 d (.lst zs) = H20 at D20 k20' M20 h1 h5 ⊢
        walk_at "rs"
        refine r_ixL (sl_of h1) h3 ?_
        walk_at "rs"
        refine r_setL h5 (ixN_at n0 (by rw [List.length_map]; omega)) ?_
        rw [← List.map_set]
        generalize Builtin.bitAnd (ns9.getD n.toNat 0 + 1 * 2 ^ nn.toNat) (full w) = vv
        have M21 := M20.set h5 h6 (ns' := ns9.set n.toNat vv) (by rw [List.length_set, h6])
        have k21 := k20'.mut (o := .lst ((ns9.set n.toNat vv).map V.int)) h4 h5
        have D21 : Drw (upd H20 p9 (.lst ((ns9.set n.toNat vv).map V.int))) d c := D20.upd (D16.nd h4) (D16.nc h4)
        generalize upd H20 p9 (.lst ((ns9.set n.toNat vv).map V.int)) = H21 at M21 k21 D21 ⊢
        have hA21 := k21.x _ _ (notin1 nAd) hA16
        walk_at "rs"
        refine ⟨C, _, ts.length, m, rfl, M21, by omega, m6, fun H22 R1 rows1 s22 hR1 hlr1 hm1 => ?_⟩
        have k22 := k21.trans (.same s22)
        walk_at "rs"
        refine ⟨T2, _, rfl, .inl ⟨sl_of (k22.x _ _ (notin1 n2d) h216), fun T1 hT1 => ?_⟩⟩
        walk_at "rs"
        rename_i P1 hP1
        have sa : Same H22 (upd H22 T1 (.tup (us.map V.int))) := same_new hT1
        have Gn : Good m (upd (upd H22 T1 (.tup (us.map V.int))) P1 (.tup [.ref R1, .ref T1])) (.ref P1) := Good.mk (hR1.tp (Same.tp sa)) hm1 (by omega) upd_same (by omega) hP1
        have sb := sa.trans (same_new (o := .tup [.ref R1, .ref T1]) hP1)
        have D23 := (D21.same s22).same sb
        have k23 := k22.trans (.same sb)
        generalize upd (upd H22 T1 (.tup (us.map V.int))) P1 (.tup [.ref R1, .ref T1]) = H23 at Gn sb D23 k23 ⊢
        have hA23 := k23.x _ _ (notin1 nAd) hA16
        refine r_append hA23 (lt_line (by omega)) ?_
        walk_at "rs"
        have tq : Tp H23 (upd H23 A (.lst (ps ++ [.ref P1]))) := Tp.set hA23
        have kq : Kp [A] H23 (upd H23 A (.lst (ps ++ [.ref P1]))) := (Kp.refl _ _).set (by simp) hA23
        refine ⟨_, _, _, _, _, _, _, _, _, ps ++ [.ref P1], rfl, D23.upd nAd.symm ncA, upd_same, by rw [List.length_append]; exact Nat.succ_le_succ hl16, fun v hv => ?_, (M16.kp (notin1 nrd) (fun p hp => notin1 hp.1) k23).kp (notin1 nrA) (fun p hp => notin1 hp.2) kq, kq.x _ _ (notin1 n2A) (k23.x _ _ (notin1 n2d) h216)⟩
        rcases List.mem_append.mp hv with hv | hv
        · exact ((G16 v hv).tp k23.t).tp tq
        · rw [List.mem_singleton] at hv
          subst hv
          exact Gn.tp tq
    · rintro σ H16 ⟨v7, v9, v11, v12, v13, v14, v15, v16, v17, ps, rfl, D16, hA16, hl16, G16, M16, h216⟩
      have hl16 : ps.length ≤ 203 := by omega
      walk_at "rs"
      refine r_slL (sl_of hA16) fun p1 hp1 => ?_
      have ecut : cutV ps none (some 1) = ps.take 1 := cutV_to 1
      rw [ecut]
      refine r_cat (at_new hp1 hA16) upd_same (len_ok (by rw [List.length_take]; omega)) fun L hL => ?_
      have sL : Same H16 (upd (upd H16 p1 (.lst (ps.take 1))) L (.lst (ps ++ ps.take 1))) := (same_new hp1).trans (same_new hL)
      have hLL : (upd (upd H16 p1 (.lst (ps.take 1))) L (.lst (ps ++ ps.take 1))) L = _ := upd_same
      have GL : ∀ v ∈ ps ++ ps.take 1, Good m (upd (upd H16 p1 (.lst (ps.take 1))) L (.lst (ps ++ ps.take 1))) v := fun v hv => by
        rcases List.mem_append.mp hv with hv | hv
        · exact (G16 v hv).tp (Same.tp sL)
        · exact (G16 v (List.mem_of_mem_take hv)).tp (Same.tp sL)
      generalize upd (upd H16 p1 (.lst (ps.take 1))) L (.lst (ps ++ ps.take 1)) = H17 at hLL GL ⊢
      generalize ps ++ ps.take 1 = qs at hLL GL
      walk_at "rs"
      refine r_ref ⟨_, sl_of hLL⟩ ?_
      refine fl (K := K) (a := L) (xs := qs) (fun i σ H' => ∃ v16 v17, σ = [some (.ref a), some (.ref d), some (.int w), some (.int (full w)), some (.int (m : Int)), some (.int pw), some (.ref T2), v7, some (.ref rw_), v9, some (.ref A), v11, v12, v13, v14, v15, v16, v17] ∧ Same H17 H')
        ⟨_, _, rfl, Same.refl _⟩ (fun i σ H' _ ⟨_, _, _, s⟩ => sl_of (s _ _ hLL)) ?_ ?_
      · rintro i x σ H18 hi ⟨v16, v17, rfl, s18⟩
        obtain ⟨p, R, T', rows, tss, rfl, e2, e3, e4, e5, e6, e7⟩ := (GL x (List.mem_of_getElem? hi)).tp (Same.tp s18)
        walk_at "rs"
        refine ⟨w, m, R, T', rows, tss, rfl, w1, w8, m6, e3, e4, e5, e6, e7, fun H19 s19 => ?_⟩
        walk_at "rs"
        refine r_isi (.ty _) (.base (.bl _)) (kit_ty (r := true) (by decide +kernel)) ?_
        walk_at "rs"
        have e2' := s19 _ _ e2
        walk_at "rs"
        refine ⟨w, m, R, T', rows, tss, rfl, w1, w8, m6, e3.tp (Same.tp s19), e4, e5, s19 _ _ e6, e7, fun H20 s20 => ?_⟩
        walk_at "rs"
        rw [decide_eq_true rfl]
        walk_at "rs"
        exact ⟨_, _, rfl, (s18.trans s19).trans s20⟩
      · rintro σ H18 ⟨v16, v17, rfl, s18⟩
        walk_at "rs"
        exact q _
end
end Zn
namespace Zn
open PySem PySem.Spec PyProof.Rows L2 TL
theorem all_mk {l : PySem.W.OpenLaw} {w : World} {K : PySem.W.Frag} {h : Heap} {mg : Str → Option Value} {fa : Addr} {f0 : Addr} {od0 an0 : Option Addr} {sl0 : Array (Option Value)} {oc0 kV0 dc0 pm0 cd0 ct0 : Value}
    {f1 : Addr} {od1 an1 : Option Addr} {sl1 : Array (Option Value)} {oc1 kV1 dc1 pm1 cd1 ct1 : Value}
    {f2 : Addr} {od2 an2 : Option Addr} {sl2 : Array (Option Value)} {oc2 kV2 dc2 pm2 cd2 ct2 : Value}
    {f3 : Addr} {od3 an3 : Option Addr} {sl3 : Array (Option Value)} {oc3 kV3 dc3 pm3 cd3 ct3 : Value}
    {f4 : Addr} {od4 an4 : Option Addr} {sl4 : Array (Option Value)} {oc4 kV4 dc4 pm4 cd4 ct4 : Value}
    {f5 : Addr} {od5 an5 : Option Addr} {sl5 : Array (Option Value)} {oc5 kV5 dc5 pm5 cd5 ct5 : Value}
    {f6 : Addr} {od6 an6 : Option Addr} {sl6 : Array (Option Value)} {oc6 kV6 dc6 pm6 cd6 ct6 : Value}
    {f7 : Addr} {od7 an7 : Option Addr} {sl7 : Array (Option Value)} {oc7 kV7 dc7 pm7 cd7 ct7 : Value}
    {f8 : Addr} {od8 an8 : Option Addr} {sl8 : Array (Option Value)} {oc8 kV8 dc8 pm8 cd8 ct8 : Value} (X : K.In h) (G : h.Ns mainGlobals mg) (hfa : mg "law" = some (.ref fa))
    (a0 : PySem.W.nsIn K mainGlobals "judge_multipliers" = some (some (.ref f0))) (l0 : K.lookup f0 = some ⟨oc0, od0, .func (PySem.W.fnOf "judge_multipliers" "judge_multipliers" (defArgs s_judge_multipliers) (defBody s_judge_multipliers) (defScope s_judge_multipliers) .none kV0 dc0 pm0 an0 cd0 ct0), sl0⟩) (c0 : PySem.W.codeIn K cd0 "judge_multipliers" = true) (k0 : PySem.W.keepIn K (.ref f0) = true)
    (a1 : PySem.W.nsIn K mainGlobals "_law_begin" = some (some (.ref f1))) (l1 : K.lookup f1 = some ⟨oc1, od1, .func (PySem.W.fnOf "_law_begin" "_law_begin" (defArgs s__law_begin) (defBody s__law_begin) (defScope s__law_begin) .none kV1 dc1 pm1 an1 cd1 ct1), sl1⟩) (c1 : PySem.W.codeIn K cd1 "_law_begin" = true) (k1 : PySem.W.keepIn K (.ref f1) = true)
    (a2 : PySem.W.nsIn K mainGlobals "_law_draw" = some (some (.ref f2))) (l2 : K.lookup f2 = some ⟨oc2, od2, .func (PySem.W.fnOf "_law_draw" "_law_draw" (defArgs s__law_draw) (defBody s__law_draw) (defScope s__law_draw) .none kV2 dc2 pm2 an2 cd2 ct2), sl2⟩) (c2 : PySem.W.codeIn K cd2 "_law_draw" = true) (k2 : PySem.W.keepIn K (.ref f2) = true)
    (a3 : PySem.W.nsIn K mainGlobals "_law_rare" = some (some (.ref f3))) (l3 : K.lookup f3 = some ⟨oc3, od3, .func (PySem.W.fnOf "_law_rare" "_law_rare" (defArgs s__law_rare) (defBody s__law_rare) (defScope s__law_rare) .none kV3 dc3 pm3 an3 cd3 ct3), sl3⟩) (c3 : PySem.W.codeIn K cd3 "_law_rare" = true) (k3 : PySem.W.keepIn K (.ref f3) = true)
    (a4 : PySem.W.nsIn K mainGlobals "_law_bar" = some (some (.ref f4))) (l4 : K.lookup f4 = some ⟨oc4, od4, .func (PySem.W.fnOf "_law_bar" "_law_bar" (defArgs s__law_bar) (defBody s__law_bar) (defScope s__law_bar) .none kV4 dc4 pm4 an4 cd4 ct4), sl4⟩) (c4 : PySem.W.codeIn K cd4 "_law_bar" = true) (k4 : PySem.W.keepIn K (.ref f4) = true)
    (a5 : PySem.W.nsIn K mainGlobals "_law_lot" = some (some (.ref f5))) (l5 : K.lookup f5 = some ⟨oc5, od5, .func (PySem.W.fnOf "_law_lot" "_law_lot" (defArgs s__law_lot) (defBody s__law_lot) (defScope s__law_lot) .none kV5 dc5 pm5 an5 cd5 ct5), sl5⟩) (c5 : PySem.W.codeIn K cd5 "_law_lot" = true) (k5 : PySem.W.keepIn K (.ref f5) = true)
    (a6 : PySem.W.nsIn K mainGlobals "_law_other_times" = some (some (.ref f6))) (l6 : K.lookup f6 = some ⟨oc6, od6, .func (PySem.W.fnOf "_law_other_times" "_law_other_times" (defArgs s__law_other_times) (defBody s__law_other_times) (defScope s__law_other_times) .none kV6 dc6 pm6 an6 cd6 ct6), sl6⟩) (c6 : PySem.W.codeIn K cd6 "_law_other_times" = true) (k6 : PySem.W.keepIn K (.ref f6) = true)
    (a7 : PySem.W.nsIn K mainGlobals "_law_handed" = some (some (.ref f7))) (l7 : K.lookup f7 = some ⟨oc7, od7, .func (PySem.W.fnOf "_law_handed" "_law_handed" (defArgs s__law_handed) (defBody s__law_handed) (defScope s__law_handed) .none kV7 dc7 pm7 an7 cd7 ct7), sl7⟩) (c7 : PySem.W.codeIn K cd7 "_law_handed" = true) (k7 : PySem.W.keepIn K (.ref f7) = true)
    (a8 : PySem.W.nsIn K mainGlobals "law" = some (some (.ref f8))) (l8 : K.lookup f8 = some ⟨oc8, od8, .func (PySem.W.fnOf "law" "law" (defArgs s_law) (defBody s_law) (defScope s_law) .none kV8 dc8 pm8 an8 cd8 ct8), sl8⟩) (c8 : PySem.W.codeIn K cd8 "law" = true) (k8 : PySem.W.keepIn K (.ref f8) = true)
    (z_abs : PySem.W.nsIn K mainGlobals "abs" = some none) (z_all : PySem.W.nsIn K mainGlobals "all" = some none) (z_any : PySem.W.nsIn K mainGlobals "any" = some none) (z_bool : PySem.W.nsIn K mainGlobals "bool" = some none) (z_int : PySem.W.nsIn K mainGlobals "int" = some none) (z_isinstance : PySem.W.nsIn K mainGlobals "isinstance" = some none) (z_len : PySem.W.nsIn K mainGlobals "len" = some none) (z_list : PySem.W.nsIn K mainGlobals "list" = some none) (z_range : PySem.W.nsIn K mainGlobals "range" = some none) (z_sum : PySem.W.nsIn K mainGlobals "sum" = some none) (z_tuple : PySem.W.nsIn K mainGlobals "tuple" = some none) (z_zip : PySem.W.nsIn K mainGlobals "zip" = some none) :
    ∃ fd : FuncData, (∀ (s : Shared) (v : Value), BindsTo s fd ⟨[v], []⟩ [("_law_script", v)]) ∧ ∀ base : Heap, K.In base → base.Ns mainGlobals mg → FnOk l.prog w K mg base CX0 4 fa fd ["_law_script"] (spLaw K) := by
  have e := hfa.symm.trans (PySem.W.mg_of X G a8)
  cases e
  have T : Tx mg := { z_abs := PySem.W.mg_none_of X G z_abs, z_all := PySem.W.mg_none_of X G z_all, z_any := PySem.W.mg_none_of X G z_any, z_bool := PySem.W.mg_none_of X G z_bool, z_int := PySem.W.mg_none_of X G z_int, z_isinstance := PySem.W.mg_none_of X G z_isinstance, z_len := PySem.W.mg_none_of X G z_len, z_list := PySem.W.mg_none_of X G z_list, z_range := PySem.W.mg_none_of X G z_range, z_sum := PySem.W.mg_none_of X G z_sum, z_tuple := PySem.W.mg_none_of X G z_tuple, z_zip := PySem.W.mg_none_of X G z_zip }
  have F0 := fun_mk (st := s_judge_multipliers) l0 c0 k0
  have m0 := PySem.W.mg_of X G a0
  have F1 := fun_mk (st := s__law_begin) l1 c1 k1
  have m1 := PySem.W.mg_of X G a1
  have F2 := fun_mk (st := s__law_draw) l2 c2 k2
  have m2 := PySem.W.mg_of X G a2
  have F3 := fun_mk (st := s__law_rare) l3 c3 k3
  have m3 := PySem.W.mg_of X G a3
  have F4 := fun_mk (st := s__law_bar) l4 c4 k4
  have m4 := PySem.W.mg_of X G a4
  have F5 := fun_mk (st := s__law_lot) l5 c5 k5
  have m5 := PySem.W.mg_of X G a5
  have F6 := fun_mk (st := s__law_other_times) l6 c6 k6
  have m6 := PySem.W.mg_of X G a6
  have F7 := fun_mk (st := s__law_handed) l7 c7 k7
  have m7 := PySem.W.mg_of X G a7
  have F8 := fun_mk (st := s_law) l8 c8 k8
  have m8 := PySem.W.mg_of X G a8
  refine ⟨PySem.W.fnOf "law" "law" (defArgs s_law) (defBody s_law) (defScope s_law) .none kV8 dc8 pm8 an8 cd8 ct8, fun s v => .of_eq rfl, fun base _ _ => ?_⟩
  have c_judge_multipliers := cal_of (N := []) m0 F0 (fun _ _ _ _ _ _ us hl => match us, hl with | [_, _, _, _], _ => rfl) (ok_judge (P := l.prog) (w := w) (base := base) F0 T)
  have c__law_begin := cal_of (N := []) m1 F1 (fun _ _ _ _ _ _ us hl => match us, hl with | [_], _ => rfl) (ok_begin (P := l.prog) (w := w) (base := base) F1 T.toTDraw)
  have c__law_draw := cal_of (N := []) m2 F2 (fun _ _ _ _ _ _ us hl => match us, hl with | [_, _], _ => rfl) (ok_draw (P := l.prog) (w := w) (base := base) F2 T.toTDraw)
  have c__law_rare := cal_of (N := []) m3 F3 (fun _ _ _ _ _ _ us hl => match us, hl with | [_, _], _ => rfl) (ok_rare (P := l.prog) (w := w) (base := base) F3 c__law_draw T)
  have c__law_bar := cal_of (N := []) m4 F4 (fun _ _ _ _ _ _ us hl => match us, hl with | [_, _, _, _], _ => rfl) (ok_bar (P := l.prog) (w := w) (base := base) F4 T)
  have c__law_lot := cal_of (N := []) m5 F5 (fun _ _ _ _ _ _ us hl => match us, hl with | [_, _, _, _, _], _ => rfl) (ok_lot (P := l.prog) (w := w) (base := base) F5 c__law_draw c__law_rare T)
  have c__law_other_times := cal_of (N := []) m6 F6 (fun _ _ _ _ _ _ us hl => match us, hl with | [_, _, _], _ => rfl) (ok_other (P := l.prog) (w := w) (base := base) F6 c__law_draw T)
  have c__law_handed := cal_of (N := []) m7 F7 (fun _ _ _ _ _ _ us hl => match us, hl with | [_], _ => rfl) (ok_handed (P := l.prog) (w := w) (base := base) F7 T)
  exact ok_law F8 c_judge_multipliers c__law_begin c__law_draw c__law_bar c__law_lot c__law_other_times c__law_handed T
theorem walk {l : PySem.W.OpenLaw} {q : Program} {loose : List Str} {XP : (Str → Option Value) → Heap → Prop} {YP : World → Heap → Prop} {d : DefRec} {K : Params → PySem.W.Frag} (hn : l.most = some 63) (hdf : d.params.defaults = [])
    (hY : ∀ (w : World) (h : Heap), YP w h → (K w.params).In h)
    (F : ∀ (w : World) (mg : Str → Option Value) (fa : Addr) (h : Heap), (K w.params).In h → h.Ns mainGlobals mg → mg d.name = some (.ref fa) →
      ∃ fd : FuncData, (∀ (s : Shared) (u : Value), BindsTo s fd ⟨[u], []⟩ [("_law_script", u)]) ∧ ∀ base : Heap, (K w.params).In base → base.Ns mainGlobals mg → FnOk l.prog w (K w.params) mg base CX0 4 fa fd ["_law_script"] (spLaw (K w.params))) :
    PySem.W.WalkO q loose XP YP l.row.toRowW d [] (fun f vs => PySem.call f vs) :=
  L2.walk_of (n := 63) (k := 4) (x := "_law_script") (CX := fun _ => CX0) (sp := fun w => spLaw (K w.params)) hn (by decide) hdf ⟨rfl, by decide, by decide⟩ hY F (fun _ _ a ns hl _ hS => ⟨a, ns, rfl, hS, hl, fun _ => rfl⟩) fun _ _ _ _ _ z => z
end Zn

open PySem PySem.W PyProof.Rows in
set_option maxRecDepth 100000 in
set_option maxHeartbeats 0 in
theorem PySem.Challenge.cw_metorshut_k42_multipliers_judged_holds : PySem.Challenge.rw_metorshut_k42_multipliers_judged.Holds := by
  w_on; o_law; k_head; (case hw => w_witness2)
  k_fill
  refine Zn.walk (l := PySem.Challenge.rw_metorshut_k42_multipliers_judged) rfl rfl (fun w h Y => PySem.W.kIn_of Y) ?F
  case F =>
    intro w mg fa h KX G hmg
    refine' Zn.all_mk KX G hmg ?a0 ?l0 ?c0 ?k0 ?a1 ?l1 ?c1 ?k1 ?a2 ?l2 ?c2 ?k2 ?a3 ?l3 ?c3 ?k3 ?a4 ?l4 ?c4 ?k4 ?a5 ?l5 ?c5 ?k5 ?a6 ?l6 ?c6 ?k6 ?a7 ?l7 ?c7 ?k7 ?a8 ?l8 ?c8 ?k8 ?z_abs ?z_all ?z_any ?z_bool ?z_int ?z_isinstance ?z_len ?z_list ?z_range ?z_sum ?z_tuple ?z_zip
    (case a0 => k_is)
    (case l0 => k_is)
    (case c0 => k_is)
    (case k0 => k_is)
    (case a1 => k_is)
    (case l1 => k_is)
    (case c1 => k_is)
    (case k1 => k_is)
    (case a2 => k_is)
    (case l2 => k_is)
    (case c2 => k_is)
    (case k2 => k_is)
    (case a3 => k_is)
    (case l3 => k_is)
    (case c3 => k_is)
    (case k3 => k_is)
    (case a4 => k_is)
    (case l4 => k_is)
    (case c4 => k_is)
    (case k4 => k_is)
    (case a5 => k_is)
    (case l5 => k_is)
    (case c5 => k_is)
    (case k5 => k_is)
    (case a6 => k_is)
    (case l6 => k_is)
    (case c6 => k_is)
    (case k6 => k_is)
    (case a7 => k_is)
    (case l7 => k_is)
    (case c7 => k_is)
    (case k7 => k_is)
    (case a8 => k_is)
    (case l8 => k_is)
    (case c8 => k_is)
    (case k8 => k_is)
    (case z_abs => k_is)
    (case z_all => k_is)
    (case z_any => k_is)
    (case z_bool => k_is)
    (case z_int => k_is)
    (case z_isinstance => k_is)
    (case z_len => k_is)
    (case z_list => k_is)
    (case z_range => k_is)
    (case z_sum => k_is)
    (case z_tuple => k_is)
    (case z_zip => k_is)
#print axioms PySem.Challenge.cw_metorshut_k42_multipliers_judged_holds
