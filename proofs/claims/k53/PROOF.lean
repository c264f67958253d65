import PyProof.Rows.All
import Wide.All
import OpenK.AllK
import Wide.FinOn
import HandS.ForMost
import HandS.More
import HandS.Star
import HandS.IsInst
import HandS.TupAny
import HandS.Text
import HandS.Iter
import HandS.Zip
import HandS.Walk
import HandS.Conv
import PySem.Challenge.RW_metorshut_k53_turns
set_option Elab.async false
set_option linter.all false
set_option maxRecDepth 100000
set_option maxHeartbeats 4000000
/-! my own layer over the modules: what a reading asks, taken step by step; callees by name -/
namespace Zn
open PySem PySem.Spec PyProof.Rows L2

section
variable {σ : L2.St} {H : Hp} {K : PySem.W.Frag} {Q : VK} {ta tb te tl : TE} {t u c : TT} {D : Ends} {t1 t2 : TS} {g : TG} {i : Nat} {v x y : V} {r : R2} {tr : TA}
theorem r_var (h : σ[i]? = some (some v)) (q : Q v H) : tVar i σ H Q := ⟨v, h, q⟩
theorem r_c (q : Q v H) : tC v σ H Q := q
theorem r_op (q : ta σ H fun x H1 => tb σ H1 fun y H2 => r x y H2 Q) : tOp r ta tb σ H Q := q
theorem r_un {f : V → Hp → VK → Prop} (q : ta σ H fun x H1 => f x H1 Q) : tUn f ta σ H Q := q
theorem r_test {Q : Bool → Hp → Prop} (q : te σ H fun x H' => ∃ k, x = .bl k ∧ Q k H') : tTest te σ H Q := q
theorem r_B {Q : Bool → Hp → Prop} (q : te σ H fun x H' => ∃ k, x = .bl k ∧ Q k H') : tB te σ H Q := q
theorem r_bl {b : Bool} {R : Bool → Prop} (q : R b) : ∃ k, V.bl b = V.bl k ∧ R k := ⟨b, rfl, q⟩
theorem r_I0 {g : Int → Int → V} {i j : Int} (q : Q (g i j) H) : rI0 g (.int i) (.int j) H Q := ⟨i, j, rfl, rfl, q⟩
theorem r_I {C : Int → Int → Prop} {g : Int → Int → V} {i j : Int} (h : C i j) (q : Q (g i j) H) : rI C g (.int i) (.int j) H Q := ⟨i, j, rfl, rfl, h, q⟩
theorem r_U {g : Int → V} {i : Int} (q : Q (g i) H) : rU g (.int i) H Q := ⟨i, rfl, q⟩
theorem r_ipI {f : Int → Int → Int} {i j : Int} (q : Q (.int (f i j)) H) : ipI f (.int i) (.int j) H Q := ⟨i, j, rfl, rfl, q⟩
theorem r_eq (h : scal x y = true) (q : Q (.bl (decide (x = y))) H) : rEq x y H Q := ⟨h, q⟩
theorem r_ne (h : scal x y = true) (q : Q (.bl (!decide (x = y))) H) : rNe x y H Q := ⟨h, q⟩
theorem r_seq (q : t1 { D with nx := t2 D } σ H) : tSeq t1 t2 D σ H := q
theorem r_asg (q : te σ H fun x H1 => g x σ H1 D.nx) : tAsg te g D σ H := q
theorem r_gname {Q : L2.St → Hp → Prop} (q : Q (σ.set i (some v)) H) : gName i v σ H Q := q
theorem r_gsub {to ti : TE} {s : TSet} {Q : L2.St → Hp → Prop} (q : to σ H fun o H1 => ti σ H1 fun i H2 => s o i v H2 fun H3 => Q σ H3) : gSub to ti s v σ H Q := q
theorem r_setL {p : Addr} {xs : List V} {k : Int} {j : Nat} {Q : Hp → Prop} (h : H p = some (.lst xs)) (e : ixN xs.length k = some j) (q : Q (upd H p (.lst (xs.set j v)))) : rSetL (.ref p) (.int k) v H Q := ⟨p, xs, k, j, rfl, rfl, h, e, q⟩
theorem r_ret (q : te σ H D.rt) : tRet te D σ H := q
theorem r_next (q : D.nx σ H) : tNext D σ H := q
theorem r_drop (q : te σ H fun _ H1 => D.nx σ H1) : tDrop te D σ H := q
theorem r_ifs (q : c σ H fun b H1 => if b = true then t1 D σ H1 else t2 D σ H1) : tIfS c t1 t2 D σ H := q
theorem r_if (q : t σ H fun c H1 => if c = true then ta σ H1 Q else tb σ H1 Q) : tIf t ta tb σ H Q := q
theorem r_cons {Q : List V → Hp → Prop} (q : ta σ H fun x H1 => tr σ H1 fun xs H2 => Q (x :: xs) H2) : tCons ta tr σ H Q := q
theorem r_nil {Q : List V → Hp → Prop} (q : Q [] H) : tNil σ H Q := q
theorem r_CB {f : List V → Hp → VK → Prop} (q : tr σ H fun vs H1 => f vs H1 Q) : tCB f tr σ H Q := q
theorem r_and {Q : Bool → Hp → Prop} (q : t σ H fun c H1 => if c = true then u σ H1 Q else Q false H1) : tAnd t u σ H Q := q
theorem r_or {Q : Bool → Hp → Prop} (q : t σ H fun c H1 => if c = true then Q true H1 else u σ H1 Q) : tOr t u σ H Q := q
theorem r_not {Q : Bool → Hp → Prop} (q : t σ H fun c H1 => Q (!c) H1) : tNot t σ H Q := q
theorem r_notV {b : Bool} (q : ta σ H fun x H1 => ∃ c, x = .bl c ∧ Q (.bl (!c)) H1) : tNotV ta σ H Q := q
theorem r_andV (q : ta σ H fun x H1 => ∃ c, x = .bl c ∧ if c = true then tb σ H1 Q else Q (.bl false) H1) : tAndV ta tb σ H Q := q
theorem r_orV (q : ta σ H fun x H1 => ∃ c, x = .bl c ∧ if c = true then Q (.bl true) H1 else tb σ H1 Q) : tOrV ta tb σ H Q := q
theorem r_notV' (q : ta σ H fun x H1 => ∃ c, x = .bl c ∧ Q (.bl (!c)) H1) : tNotV ta σ H Q := q
theorem r_ixL {p : Addr} {xs : List V} {i : Int} (h : SqL K H p xs) (e : atI xs i = some v) (q : Q v H) : rIxL K (.ref p) (.int i) H Q := ⟨p, xs, i, v, rfl, rfl, h, e, q⟩
theorem r_ixT {p : Addr} {xs : List V} {i : Int} (h : SqT K H p xs) (e : atI xs i = some v) (q : Q v H) : rIxT K (.ref p) (.int i) H Q := ⟨p, xs, i, v, rfl, rfl, h, e, q⟩
theorem r_in {neg : Bool} {p : Addr} {xs : List V} (h : SqL K H p xs ∨ SqT K H p xs) (e1 : flatV x = true) (e2 : xs.all flatV = true) (q : Q (.bl (if neg then !inV x xs else inV x xs)) H) : rIn K neg x (.ref p) H Q := ⟨p, xs, rfl, h, e1, e2, q⟩
theorem r_tup {xs : List V} {R : VK} (h : xs.length ≤ sizeLine) (q : ∀ p, H p = none → R (.ref p) (upd H p (.tup xs))) : xs.length ≤ sizeLine ∧ ∀ p, H p = none → R (.ref p) (upd H p (.tup xs)) := ⟨h, q⟩
theorem r_tTup (q : tr σ H fun xs H1 => xs.length ≤ sizeLine ∧ ∀ p, H1 p = none → Q (.ref p) (upd H1 p (.tup xs))) : tTup tr σ H Q := q
theorem r_tLst (q : tr σ H fun xs H1 => xs.length ≤ sizeLine ∧ ∀ p, H1 p = none → Q (.ref p) (upd H1 p (.lst xs))) : tLst tr σ H Q := q
theorem r_one {i : Int} {R : Int → Prop} (q : R i) : ∃ j, [V.int i] = [V.int j] ∧ R j := ⟨i, rfl, q⟩
theorem r_int1 {i : Int} {R : Int → Prop} {B : Bool → Prop} (q : R i) : (∃ j, [V.int i] = [V.int j] ∧ R j) ∨ ∃ k, [V.int i] = [V.bl k] ∧ B k := .inl ⟨i, rfl, q⟩
theorem r_int1b {b : Bool} {R : Int → Prop} {B : Bool → Prop} (q : B b) : (∃ j, [V.bl b] = [V.int j] ∧ R j) ∨ ∃ k, [V.bl b] = [V.bl k] ∧ B k := .inr ⟨b, rfl, q⟩
theorem r_aug {ti : TIp} (h : σ[i]? = some (some v)) (q : te σ H fun y H1 => ti v y H1 fun z H2 => D.nx (σ.set i (some z)) H2) : tAug i te ti D σ H := ⟨v, h, q⟩
theorem r_augS {to ti : TE} {tget : V → V → Hp → VK → Prop} {tip : TIp} {tset : TSet} (q : to σ H fun o H1 => ti σ H1 fun i H2 => tget o i H2 fun x H3 => te σ H3 fun y H4 => tip x y H4 fun z H5 => tset o i z H5 fun H6 => D.nx σ H6) : tAugS to ti te tget tip tset D σ H := q
theorem r_BM {T : String} {f : V → List V → Hp → VK → Prop} (q : ta σ H fun x H1 => tyV K T x H1 ∧ tr σ H1 fun xs H2 => f x xs H2 Q) : tBM K T f ta tr σ H Q := q
theorem r_BM0 {T : String} {f : V → List V → Hp → VK → Prop} (q : ta σ H fun x H1 => tyV K T x H1 ∧ f x [] H1 Q) : tBM0 K T f ta σ H Q := q
theorem r_tupd {a : Addr} {xs : List V} {n : Nat} {ts : TGs} {Q : L2.St → Hp → Prop} (h : SqT K H a xs) (e : xs.length = n) (q : ts xs σ H Q) : gTup K n ts (.ref a) σ H Q := ⟨a, xs, rfl, h, e, q⟩
theorem r_gcons {ts : TGs} {vs : List V} {Q : L2.St → Hp → Prop} (q : g v σ H fun σ' H' => ts vs σ' H' Q) : gCons g ts (v :: vs) σ H Q := ⟨v, vs, rfl, q⟩
theorem r_gnil {Q : L2.St → Hp → Prop} (q : Q σ H) : gNil [] σ H Q := ⟨rfl, q⟩
theorem r_par {j : Nat} {ta : TA} (q : ta σ H fun vs H1 => ∃ v w, vs = [v, w] ∧ D.nx ((σ.set i (some v)).set j (some w)) H1) : tPar i j ta D σ H := q
theorem r_len {p : Addr} {xs : List V} {R : List V → Prop} (h : SqL K H p xs ∨ SqT K H p xs) (q : R xs) : ∃ p' ys, [V.ref p] = [V.ref p'] ∧ (SqL K H p' ys ∨ SqT K H p' ys) ∧ R ys := ⟨p, xs, rfl, h, q⟩
theorem r_yes {Q : Bool → Hp → Prop} (q : Q true H) : tYes σ H Q := q
theorem sl_of {a : Addr} {xs : List V} (h : H a = some (.lst xs)) : SqL K H a xs := .inl (.inl h)
theorem st_of {a : Addr} {xs : List V} (h : H a = some (.tup xs)) : SqT K H a xs := .inl (.inl h)
end
theorem same_new' {H : Hp} {p : Addr} {o : HO} (h : H p = none) : Same H (upd H p o) := fun b x e => by
  rw [upd_ne (ne_of_none e h)]
  exact e
theorem r_iteT {c : Prop} [Decidable c] {A B : Prop} (h : c) (q : A) : if c then A else B := by
  rw [if_pos h]
  exact q
theorem r_iteF {c : Prop} [Decidable c] {A B : Prop} (h : ¬ c) (q : B) : if c then A else B := by
  rw [if_neg h]
  exact q
section
variable {σ : L2.St} {H : Hp} {K : PySem.W.Frag} {Q : VK} {ta tb te tl : TE} {t u c : TT} {D : Ends} {t1 t2 : TS} {g : TG} {i : Nat} {v x y : V} {r : R2} {tr : TA}
theorem r_tupN {xs : List V} {R : V → Hp → Prop} (h : xs.length ≤ sizeLine) (q : ∀ p, H p = none → R (.ref p) (upd H p (.tup xs))) : xs.length ≤ sizeLine ∧ ∀ p, H p = none → R (.ref p) (upd H p (.tup xs)) := ⟨h, q⟩
theorem r_two {v w : V} {R : V → V → Prop} (q : R v w) : ∃ a b, [v, w] = [a, b] ∧ R a b := ⟨v, w, rfl, q⟩
theorem r_twoI {i j : Int} {R : Int → Int → Prop} (q : R i j) : ∃ a b, [V.int i, V.int j] = [V.int a, V.int b] ∧ R a b := ⟨i, j, rfl, q⟩
theorem r_for {wi : TI} {tb : TS} (q : wi σ H fun J H1 => ∃ W : Nat → Nat → L2.St → Hp → Prop, (∃ m, W 0 m σ H1) ∧ ∀ i m σ H, W i m σ H → (J.stop i H ∧ D.nx σ H) ∨ (J.go i H ∧ ∃ N : L2.St → Hp → Prop, (∀ σ' H', N σ' H' → ∃ m', m' < m ∧ W (i + 1) m' σ' H') ∧ ∀ x H', J.yld i H x H' → g x σ H' fun σ2 H2 => tb { D with nx := N, ct := N, bk := D.nx } σ2 H2)) : tFor wi g tb D σ H := q
theorem r_rng1 {R : It → Hp → Prop} (q : tr σ H fun vs H1 => ∃ j : Int, vs = [.int j] ∧ -(2 ^ 62) ≤ j ∧ j < 2 ^ 62 ∧ R (Itr 0 j.toNat) H1) : iRng1 tr σ H R := q
theorem r_rng {j : Int} {R : Int → Prop} (h1 : -(2 ^ 62) ≤ j) (h2 : j < 2 ^ 62) (q : R j) : ∃ k : Int, [V.int j] = [V.int k] ∧ -(2 ^ 62) ≤ k ∧ k < 2 ^ 62 ∧ R k := ⟨j, rfl, h1, h2, q⟩
theorem r_lc {wi : TI} {te : TE} {vs : List Nat}
    (q : wi σ H fun J H1 => ∀ A, H1 A = none → ∃ Z : Nat → Nat → Hp → Prop, (∃ m, Z 0 m (upd H1 A (.lst [])))
      ∧ ∀ j m H, Z j m H → (J.stop j H ∧ Q (.ref A) H)
        ∨ (J.go j H ∧ ∃ Y : Hp → Prop, (∀ H', Y H' → ∃ m', m' < m ∧ Z (j + 1) m' H')
          ∧ ∀ x H', J.yld j H x H' → g x (wipe σ vs) H' fun σ2 H2 => wipe σ2 vs = wipe σ vs
            ∧ t σ2 H2 fun b H3 =>
              if b = true then te σ2 H3 fun y H4 => ∃ l, H4 A = some (.lst l) ∧ l.length < sizeLine ∧ Y (upd H4 A (.lst (l ++ [y])))
              else Y H3)) : tLc wi g t te vs σ H Q := q
theorem r_ilist {R : It → Hp → Prop} (q : tl σ H fun x H1 => ∃ a, x = .ref a ∧ (∃ xs, SqL K H1 a xs) ∧ R (Itl K a) H1) : iList K tl σ H R := q
theorem r_itup {R : It → Hp → Prop} (q : tl σ H fun x H1 => ∃ a, x = .ref a ∧ (∃ xs, SqT K H1 a xs) ∧ R (Itt K a) H1) : iTup K tl σ H R := q
theorem r_ref {p : Addr} {A R : Addr → Prop} (h : A p) (q : R p) : ∃ a, V.ref p = V.ref a ∧ A a ∧ R a := ⟨p, rfl, h, q⟩
theorem r_tyL {p : Addr} {xs : List V} {R : Prop} (h : SqL K H p xs) (q : R) : tyV K "list" (.ref p) H ∧ R := ⟨.inl ⟨rfl, _, h⟩, q⟩
theorem r_tyS {s : Str} {R : Prop} (q : R) : tyV K "str" (.str s) H ∧ R := ⟨rfl, q⟩
theorem r_append {p : Addr} {xs : List V} {y : V} (h : H p = some (.lst xs)) (e : xs.length < sizeLine) (q : Q .non (upd H p (.lst (xs ++ [y])))) : rAppend (.ref p) [y] H Q := ⟨p, xs, y, rfl, rfl, h, e, q⟩
theorem r_extend {p b : Addr} {xs zs : List V} (h : H p = some (.lst xs)) (hb : H b = some (.lst zs)) (e : xs.length + zs.length ≤ sizeLine) (q : Q .non (upd H p (.lst (xs ++ zs)))) : rExtend (.ref p) [.ref b] H Q := ⟨p, b, xs, zs, rfl, rfl, h, hb, e, q⟩
theorem r_popAt {p : Addr} {xs : List V} {i : Int} {y : V} (h : H p = some (.lst xs)) (h0 : 0 ≤ i) (h1 : i < (xs.length : Int)) (h2 : xs.length ≤ 1000000) (hy : xs[i.toNat]? = some y) (q : Q y (upd H p (.lst (xs.eraseIdx i.toNat)))) : rPopAt (.ref p) [.int i] H Q :=
  ⟨p, xs, i, i.toNat, y, rfl, rfl, h, by omega, by omega, seqIndex_of h0 h1, hy, q⟩
theorem r_cat {p b : Addr} {xs zs : List V} (h : H p = some (.lst xs)) (hb : H b = some (.lst zs)) (e : xs.length + zs.length ≤ sizeLine) (q : ∀ c, H c = none → Q (.ref c) (upd H c (.lst (xs ++ zs)))) : rCat (.ref p) (.ref b) H Q := ⟨p, b, xs, zs, rfl, rfl, h, hb, e, q⟩
theorem r_isi {x c : V} {t u : Value} {b : Bool} (hc : ClsV c u) (ht : TyX K H x t) (hk : PySem.W.kitOne K t u = some b) (q : Q (.bl b) H) : rIsi K [x, c] H Q := ⟨x, c, t, u, b, rfl, hc, ht, hk, q⟩
theorem r_catA {p b : Addr} {xs ys : List V} (h1 : SqT K H p xs) (h2 : SqT K H b ys) (q : rCatA K (.ref p) (.ref b) H Q) : rCatA K (.ref p) (.ref b) H Q := q
theorem at_new {p a : Addr} {o u : HO} (hp : H p = none) (h : H a = some u) : upd H p o a = some u := same_new' hp _ _ h
theorem r_listOf {p : Addr} {xs : List V} {R : V → Hp → Prop} (h : SqL K H p xs ∨ SqT K H p xs) (q : ∀ l, H l = none → R (.ref l) (upd H l (.lst xs))) : ∃ p' ys, [V.ref p] = [V.ref p'] ∧ (SqL K H p' ys ∨ SqT K H p' ys) ∧ ∀ l, H l = none → R (.ref l) (upd H l (.lst ys)) := ⟨p, xs, rfl, h, q⟩
theorem r_slL {p : Addr} {xs : List V} {lo hi : Option Int} (h : SqL K H p xs) (q : ∀ l, H l = none → Q (.ref l) (upd H l (.lst (cutV xs lo hi)))) : rSlL K (.ref p) lo hi H Q := ⟨p, xs, rfl, h, q⟩
theorem r_sl {f : V → Option Int → Option Int → Hp → VK → Prop} {tlo thi : TO} (q : te σ H fun x H1 => tlo σ H1 fun l H2 => thi σ H2 fun u H3 => f x l u H3 Q) : tSl f te tlo thi σ H Q := q
theorem r_noP {Q : Option Int → Hp → Prop} (q : Q none H) : tNoPart σ H Q := q
theorem r_part {Q : Option Int → Hp → Prop} (q : te σ H fun x H1 => ∃ i, x = .int i ∧ Q (some i) H1) : tPart te σ H Q := q
theorem r_eI {i : Int} {R : Int → Prop} (q : R i) : ∃ j, V.int i = V.int j ∧ R j := ⟨i, rfl, q⟩
end
theorem len_ok {n : Nat} (h : n ≤ 100000) : n ≤ sizeLine := Nat.le_trans h (by decide)
theorem r_al {n : Nat} {H : Hp} {R : Addr → Prop} (h : n ≤ sizeLine) (q : ∀ p, H p = none → R p) : n ≤ sizeLine ∧ ∀ p, H p = none → R p := ⟨h, q⟩
theorem pow2_pos (n : Nat) : (0 : Int) < 1 * 2 ^ n := by
  rw [Int.one_mul]
  exact Int.pow_pos (by decide)
theorem mulR {i j : Int} (h1 : -(2 ^ 64) < j) (h2 : j < 2 ^ 64) : CMul i j := .inr ⟨h1, h2⟩
theorem mulL {i j : Int} (h1 : -(2 ^ 64) < i) (h2 : i < 2 ^ 64) : CMul i j := .inl ⟨h1, h2⟩

/-! ### loops, what follows and what is handed back told apart -/
section
variable {K : PySem.W.Frag} {a : Addr} {xs : List V} {g : TG} {tb : TS} {nx : L2.St → Hp → Prop} {rt : VK} {σ : L2.St} {H : Hp}
theorem fl (Pv : Nat → L2.St → Hp → Prop) (h0 : Pv 0 σ H) (hl : ∀ i σ H, i ≤ xs.length → Pv i σ H → SqL K H a xs)
    (hs : ∀ i x σ H, xs[i]? = some x → Pv i σ H → g x σ H fun σ2 H2 => tb { nx := Pv (i + 1), rt := rt, bk := nx, ct := Pv (i + 1) } σ2 H2) (hd : ∀ σ H, Pv xs.length σ H → nx σ H) :
    ∃ W : Nat → Nat → L2.St → Hp → Prop, (∃ m, W 0 m σ H) ∧ ∀ i m σ H, W i m σ H →
      ((Itl K a).stop i H ∧ nx σ H) ∨ ((Itl K a).go i H ∧ ∃ N : L2.St → Hp → Prop, (∀ σ' H', N σ' H' → ∃ m', m' < m ∧ W (i + 1) m' σ' H') ∧ ∀ x H', (Itl K a).yld i H x H' → g x σ H' fun σ2 H2 => tb { nx := N, rt := rt, bk := nx, ct := N } σ2 H2) :=
  for_list (D := { nx := nx, rt := rt, bk := nx, ct := nx }) Pv h0 hl hs hd
theorem ft (Pv : Nat → L2.St → Hp → Prop) (h0 : Pv 0 σ H) (hl : ∀ i σ H, i ≤ xs.length → Pv i σ H → SqT K H a xs)
    (hs : ∀ i x σ H, xs[i]? = some x → Pv i σ H → g x σ H fun σ2 H2 => tb { nx := Pv (i + 1), rt := rt, bk := nx, ct := Pv (i + 1) } σ2 H2) (hd : ∀ σ H, Pv xs.length σ H → nx σ H) :
    ∃ W : Nat → Nat → L2.St → Hp → Prop, (∃ m, W 0 m σ H) ∧ ∀ i m σ H, W i m σ H →
      ((Itt K a).stop i H ∧ nx σ H) ∨ ((Itt K a).go i H ∧ ∃ N : L2.St → Hp → Prop, (∀ σ' H', N σ' H' → ∃ m', m' < m ∧ W (i + 1) m' σ' H') ∧ ∀ x H', (Itt K a).yld i H x H' → g x σ H' fun σ2 H2 => tb { nx := N, rt := rt, bk := nx, ct := N } σ2 H2) :=
  for_tup (D := { nx := nx, rt := rt, bk := nx, ct := nx }) Pv h0 hl hs hd
theorem fr {lo : Int} {n : Nat} (Pv : Nat → L2.St → Hp → Prop) (h0 : Pv 0 σ H)
    (hs : ∀ i σ H, i < n → Pv i σ H → g (.int (lo + i)) σ H fun σ2 H2 => tb { nx := Pv (i + 1), rt := rt, bk := nx, ct := Pv (i + 1) } σ2 H2) (hd : ∀ σ H, Pv n σ H → nx σ H) :
    ∃ W : Nat → Nat → L2.St → Hp → Prop, (∃ m, W 0 m σ H) ∧ ∀ i m σ H, W i m σ H →
      ((Itr lo n).stop i H ∧ nx σ H) ∨ ((Itr lo n).go i H ∧ ∃ N : L2.St → Hp → Prop, (∀ σ' H', N σ' H' → ∃ m', m' < m ∧ W (i + 1) m' σ' H') ∧ ∀ x H', (Itr lo n).yld i H x H' → g x σ H' fun σ2 H2 => tb { nx := N, rt := rt, bk := nx, ct := N } σ2 H2) :=
  for_range (D := { nx := nx, rt := rt, bk := nx, ct := nx }) Pv h0 hs hd
end
/-! ### lists of any values read by a written place -/
theorem atI_lt {xs : List V} {i : Int} {v : V} {j : Nat} (e : i = (j : Int)) (h : xs[j]? = some v) : atI xs i = some v := by
  rw [e]
  exact atI_nat h
/-- o[i] of a list, for o[i] op= e -/
theorem pget_list {X : Cx} : PGet X (rIxL X.K) := by
  intro pins s σ H o i ov iv Q I ro ri h
  obtain ⟨p, xs, k, z, rfl, rfl, hq, he, q⟩ := h
  cases ro
  obtain ⟨t, rfl⟩ := ri
  obtain ⟨its, r, pl, hz⟩ := I.list hq
  obtain ⟨j, h1, h2, h3, h4, h5⟩ := atI_get he
  obtain ⟨w, ew, rw'⟩ := r.get h2
  have hl := r.length
  have hn := line63
  have fin : EP X pins σ Q w s := ⟨z, H, I, rw', q⟩
  by_cases h0 : 0 ≤ k
  · have hj : k.toNat = j := by
      rw [seqIndex_of h0 h5] at h1
      exact Option.some.inj h1
    exact wpAny_getItem_list pl.isList h0 (by omega) (by rw [hj]; simpa using ew) fin
  · have hj : (k + (its.toArray.size : Int)).toNat = j := by
      rw [seqIndex_neg (by omega) h4] at h1
      rw [List.size_toArray, ← hl]
      exact Option.some.inj h1
    exact wpAny_getItem_list_neg pl.isList (by omega) (by rw [List.size_toArray] <;> omega) (by omega) (by rw [hj]; simpa using ew) fin

/-! ### a def of the module, by its name -/
def Cal (P : Program) (w : World) (K : PySem.W.Frag) (mg : Str → Option Value) (base : Heap) (x : Str) (k : Nat) (sp : Sp) : Prop :=
  ∃ f, mg x = some (.ref f) ∧ FnR P w K mg base CX0 k f sp ∧ PySem.W.keepIn K (.ref f) = true
section
variable {P : Program} {w : World} {K : PySem.W.Frag} {mg : Str → Option Value} {base : Heap}
def tCal (sp : Sp) (t : TA) : TE := fun σ H Q => t σ H fun vs H1 => sp vs H1 Q E0
theorem pe_cal {X : Cx} {x : Str} {k : Nat} {sp : Sp} {e : Expr} {es : List Expr} {t : TA} {p pos : Pos} (C : Cal X.prog X.w X.K X.mg X.base x k sp) (hr : Room k X.A) (hg : Gl X x) (ha : PA X (e :: es) t)
    (hdb : (x == ("__debug__" : Str)) = false := by decide) (he : starEach (e :: es) X.env = (false, eval e X.env) :: starEach es X.env := by rfl)
    (hpl : (backTo pos (starEach es X.env)).any (·.1) = false := by rfl) : PE X (.Call (.Name x p) (e :: es) [] pos) (tCal sp t) := by
  obtain ⟨f, hm, F, hk⟩ := C
  refine ⟨fun pins s σ H Q I h => ?_⟩
  refine wpAny_Call_Name_kw (ld_glob I hg hm ?_ hdb)
  refine PySem.W.callWith_K (h₀ := X.base) I.ok.mod.kin hk (thn (ha.run pos pins s σ H _ I h) fun us s1 ⟨vs, H1, I1, r, q⟩ => ⟨I1.kIn, ?_⟩) he hpl
  exact wpAny_call (run_fnR F hr pass0 I1 r q)
theorem pe_cal0 {X : Cx} {x : Str} {k : Nat} {sp : Sp} {p pos : Pos} (C : Cal X.prog X.w X.K X.mg X.base x k sp) (hr : Room k X.A) (hg : Gl X x)
    (hdb : (x == ("__debug__" : Str)) = false := by decide) : PE X (.Call (.Name x p) [] [] pos) (tCal sp tNil) := by
  obtain ⟨f, hm, F, hk⟩ := C
  refine ⟨fun pins s σ H Q I h => ?_⟩
  refine wpAny_Call_Name_kw (ld_glob I hg hm ?_ hdb)
  exact PySem.W.callWith_K0 I.kIn hk (wpAny_call (run_fnR (us := []) F hr pass0 I .nil h))
theorem r_cal {sp : Sp} {t : TA} {σ : L2.St} {H : Hp} {Q : VK} (q : t σ H fun vs H1 => sp vs H1 Q E0) : tCal sp t σ H Q := q
/-- from a def of the text to its call -/
theorem cal_of {x : Str} {st : Stmt} {f : Addr} {fd : FuncData} {N ps : List Str} {k : Nat} {sp : Sp} (hm : mg x = some (.ref f)) (F : Fun K x x st f fd)
    (hb : ∀ (kV doc pm : Value) (an : Option Addr) (cdv ct : Value) (us : List Value), us.length = ps.length → bindArgs (PySem.W.fnOf x x (defArgs st) (defBody st) (defScope st) .none kV doc pm an cdv ct) ⟨us, []⟩ = pure (ps.zip us))
    (G : FnOk P w K mg base CX0 k f fd ps sp) : Cal P w K mg base x k sp := by
  refine ⟨f, hm, ?_, F.kp⟩
  refine (G.raw (F.binds hb) .nil).imp fun vs H Q E h => ?_
  show sp (vs ++ []) H Q E
  rw [List.append_nil]
  exact h
end
/-! ### heaps -/
theorem same_new {H : Hp} {p : Addr} {o : HO} (h : H p = none) : Same H (upd H p o) := fun b x e => by
  rw [upd_ne (ne_of_none e h)]
  exact e
/-- all but what stands at d is as it was -/
def Keep (d : Addr) (H H' : Hp) : Prop := ∀ b o, b ≠ d → H b = some o → H' b = some o
theorem Keep.refl (d : Addr) (H : Hp) : Keep d H H := fun _ _ _ h => h
theorem Keep.trans {d : Addr} {H H1 H2 : Hp} (a : Keep d H H1) (b : Keep d H1 H2) : Keep d H H2 := fun c o n h => b c o n (a c o n h)
theorem Same.keep {d : Addr} {H H1 : Hp} (a : Same H H1) : Keep d H H1 := fun c o _ h => a c o h
theorem keep_upd {d : Addr} {H : Hp} {o : HO} : Keep d H (upd H d o) := fun b x n e => by
  rw [upd_ne n]
  exact e
theorem Keep.seq {K : PySem.W.Frag} {d : Addr} {H H' : Hp} {a : Addr} {xs : List V} (e : Keep d H H') (n : a ≠ d) (h : SqL K H a xs) : SqL K H' a xs := by
  rcases h with (h | ⟨o, h⟩) | h
  · exact .inl (.inl (e _ _ n h))
  · exact .inl (.inr ⟨o, e _ _ n h⟩)
  · exact .inr h
end Zn
namespace Zn
open PySem
def topS (i : Nat) : Stmt := PySem.Challenge.pw_metorshut_k53_turns.main.body.getD i (.Pass ⟨0, 0, 0, 0⟩)
end Zn
local macro_rules | `(tactic| walk_at "fd") => `(tactic| (repeat (first | assumption | exact L2.upd_same | refine' Zn.at_new (by assumption) ?_)))
local macro_rules | `(tactic| walk_at "sm") => `(tactic| (repeat (first | assumption | exact L2.Same.refl _ | refine L2.Same.trans ?_ (Zn.same_new (by assumption)))))

local macro_rules | `(tactic| walk_at "rd1") => `(tactic| first
  | (with_reducible refine Zn.r_seq ?_)
  | (with_reducible refine Zn.r_asg ?_)
  | (with_reducible refine Zn.r_ret ?_)
  | (with_reducible refine Zn.r_ifs ?_)
  | (with_reducible refine Zn.r_test ?_)
  | (with_reducible refine Zn.r_op ?_)
  | ((with_reducible refine' Zn.r_var ?hv ?_); (case hv => exact rfl))
  | (with_reducible refine Zn.r_c ?_)
  | (with_reducible refine Zn.r_gname ?_)
  | (with_reducible refine Zn.r_I0 ?_)
  | (with_reducible refine Zn.r_bl ?_)
  | ((with_reducible refine Zn.r_eq ?hs ?_); (case hs => exact rfl))
  | ((with_reducible refine Zn.r_ne ?hs ?_); (case hs => exact rfl))
  | (with_reducible refine Zn.r_CB ?_)
  | (with_reducible refine Zn.r_cal ?_)
  | (with_reducible refine Zn.r_cons ?_)
  | (with_reducible refine Zn.r_nil ?_)
  | (with_reducible refine Zn.r_tTup ?_)
  | (with_reducible refine Zn.r_tLst ?_)
  | (with_reducible refine Zn.r_B ?_)
  | (with_reducible refine Zn.r_if ?_)
  | (with_reducible refine Zn.r_un ?_)
  | (with_reducible refine Zn.r_U ?_)
  | (with_reducible refine Zn.r_int1 ?_)
  | (with_reducible refine Zn.r_int1b ?_)
  | (with_reducible refine Zn.r_one ?_)
  | (with_reducible refine Zn.r_gsub ?_)
  | ((with_reducible refine' Zn.r_aug ?hv ?_); (case hv => exact rfl))
  | (with_reducible refine Zn.r_augS ?_)
  | (with_reducible refine Zn.r_ipI ?_)
  | (with_reducible refine Zn.r_and ?_)
  | (with_reducible refine Zn.r_or ?_)
  | (with_reducible refine Zn.r_not ?_)
  | (with_reducible refine Zn.r_andV ?_)
  | (with_reducible refine Zn.r_orV ?_)
  | (with_reducible refine Zn.r_notV' ?_)
  | (with_reducible refine Zn.r_BM ?_)
  | (with_reducible refine Zn.r_BM0 ?_)
  | (with_reducible refine Zn.r_par ?_)
  | (with_reducible refine Zn.r_gcons ?_)
  | (with_reducible refine Zn.r_gnil ?_)
  | (with_reducible refine Zn.r_drop ?_)
  | (with_reducible refine Zn.r_yes ?_)
  | ((with_reducible refine' Zn.r_len ?h ?_); (case h => first | exact .inl (Zn.sl_of (by assumption)) | exact .inr (Zn.st_of (by assumption)) | exact .inl (by assumption) | exact .inr (by assumption)))
  | (with_reducible refine Zn.r_for ?_)
  | (with_reducible refine Zn.r_lc ?_)
  | (with_reducible refine Zn.r_rng1 ?_)
  | (with_reducible refine Zn.r_ilist ?_)
  | (with_reducible refine Zn.r_itup ?_)
  | (with_reducible refine Zn.r_two ?_)
  | (with_reducible refine Zn.r_twoI ?_)
  | (with_reducible refine Zn.r_sl ?_)
  | (with_reducible refine Zn.r_noP ?_)
  | (with_reducible refine Zn.r_part ?_)
  | (with_reducible refine Zn.r_eI ?_)
  | (with_reducible refine Zn.r_tyS ?_)
  | ((with_reducible refine' Zn.r_tyL ?h ?_); (case h => first | exact Zn.sl_of (by walk_at "fd") | assumption))
  | ((with_reducible refine Zn.r_iteT ?h ?_); (case h => first | assumption | decide +kernel | exact rfl))
  | ((with_reducible refine Zn.r_iteF ?h ?_); (case h => first | assumption | decide +kernel | exact (fun h => Bool.noConfusion (show false = true from h))))
  | ((with_reducible refine Zn.r_rng ?h1 ?h2 ?_); (case h1 => first | omega | decide); (case h2 => first | omega | decide))
  | ((with_reducible refine' Zn.r_in ?h ?e1 ?e2 ?_); (case h => first | exact .inr (Zn.st_of (by walk_at "fd")) | exact .inl (Zn.sl_of (by walk_at "fd")) | exact .inl (by assumption) | exact .inr (by assumption)); (case e1 => rfl); (case e2 => rfl))
  | ((with_reducible refine Zn.r_al ?h ?_); (case h => exact Zn.len_ok (Nat.le_of_ble_eq_true rfl)); intro p hp)
  | (with_reducible refine Zn.r_next ?_)
  | ((with_reducible refine Zn.r_I ?hc ?_); (case hc => first | assumption | exact Zn.pow2_pos _ | omega | decide | exact Zn.mulR (by decide) (by decide) | exact Zn.mulL (by decide) (by decide) | exact ⟨by decide, by decide⟩ | exact ⟨by decide, by decide, by decide⟩ | exact Zn.mulR (by omega) (by omega) | exact Zn.mulL (by omega) (by omega) | exact ⟨by omega, by omega⟩ | exact ⟨by omega, by omega, by omega⟩))
  | ((with_reducible refine' Zn.r_setL ?h ?e ?_); (case h => walk_at "fd"); (case e => exact rfl))
  | ((with_reducible refine' Zn.r_ixL ?h ?e ?_); (case h => first | exact Zn.sl_of (by walk_at "fd") | assumption); (case e => exact rfl))
  | ((with_reducible refine' Zn.r_ixT ?h ?e ?_); (case h => first | exact Zn.st_of (by walk_at "fd") | assumption); (case e => exact rfl))
  | ((with_reducible refine' Zn.r_tupd ?h ?e ?_); (case h => first | exact Zn.st_of (by walk_at "fd") | assumption); (case e => exact rfl)))
local macro_rules | `(tactic| walk_at "rd") => `(tactic| ((try dsimp only); (repeat ((walk_at "rd1"); (try dsimp only)))))
namespace Zn
open PySem PySem.Spec PyProof.Rows L2
abbrev s__law_begin : Stmt := topS 11
theorem sc__law_begin : FnScope ["_law_script", "_law_cell"] ["_law_script"] (defScope s__law_begin) := ⟨rfl, rfl, rfl, by decide +kernel, rfl, by decide +kernel, by decide +kernel⟩

abbrev s__law_draw : Stmt := topS 12
theorem sc__law_draw : FnScope ["_law_d", "_law_many", "_law_found", "_law_size", "_law_cell"] ["_law_d", "_law_many"] (defScope s__law_draw) := ⟨rfl, rfl, rfl, by decide +kernel, rfl, by decide +kernel, by decide +kernel⟩

/-- what the drawer keeps: its own list at d, the script's ints at c -/
def DL (H : Hp) (d c : Addr) : Prop := ∃ (at_ rest st last : Int), H d = some (.lst [.ref c, .int at_, .int rest, .int st, .int last]) ∧ 0 ≤ at_ ∧ 0 ≤ rest ∧ 0 ≤ st ∧ st < 2147483647
structure Drw (H : Hp) (d c : Addr) : Prop where
  dl : DL H d c
  ne : c ≠ d
  cl : ∃ ns : List Int, H c = some (.lst (ns.map V.int))
theorem Drw.same {H H' : Hp} {d c : Addr} (D : Drw H d c) (s : Same H H') : Drw H' d c := by
  obtain ⟨⟨a, r, st, l, h1, h2⟩, ne, ns, h3⟩ := D
  exact ⟨⟨a, r, st, l, s _ _ h1, h2⟩, ne, ns, s _ _ h3⟩
theorem Drw.get {H : Hp} {d c : Addr} (D : Drw H d c) : ∃ xs, H d = some (.lst xs) := by
  obtain ⟨⟨a, r, st, l, h1, _⟩, _⟩ := D
  exact ⟨_, h1⟩
theorem Drw.upd {H : Hp} {d c a : Addr} {o : HO} (D : Drw H d c) (n1 : d ≠ a) (n2 : c ≠ a) : Drw (upd H a o) d c := by
  obtain ⟨⟨at_, r, st, l, h1, h2⟩, ne, ns, h3⟩ := D
  exact ⟨⟨at_, r, st, l, (upd_ne n1).trans h1, h2⟩, ne, ns, (upd_ne n2).trans h3⟩
theorem Drw.nd {H : Hp} {d c a : Addr} (D : Drw H d c) (h : H a = none) : d ≠ a := by
  obtain ⟨xs, e⟩ := D.get
  exact ne_of_none e h
theorem Drw.nc {H : Hp} {d c a : Addr} (D : Drw H d c) (h : H a = none) : c ≠ a := by
  obtain ⟨ns, e⟩ := D.cl
  exact ne_of_none e h
/-- a draw: a number below many; only the drawer's own list changes -/
def spDraw : Sp := fun vs H Q _ => ∃ (d c : Addr) (many : Int), vs = [.ref d, .int many] ∧ Drw H d c ∧ 1 ≤ many ∧ many < 1073741824 ∧
  ∀ (n : Int) (xs : List V), 0 ≤ n → n < many → Drw (upd H d (.lst xs)) d c → Q (.int n) (upd H d (.lst xs))
def spBegin (K : PySem.W.Frag) : Sp := fun vs H Q _ => ∃ (a : Addr) (ns : List Int), vs = [.ref a] ∧ SqL K H a (ns.map V.int) ∧ ns.length ≤ 63 ∧
  ∀ (H' : Hp) (d c : Addr), Same H H' → H d = none → Drw H' d c → Q (.ref d) H'
/-- the names that the drawer reads -/
structure TDraw (mg : Str → Option Value) : Prop where
  z_int : mg "int" = none
  z_len : mg "len" = none
  z_abs : mg "abs" = none
section
variable {P : Program} {w : World} {K : PySem.W.Frag} {mg : Str → Option Value} {base : Heap}
theorem ok_begin {f : Addr} {fd : FuncData} (F : Fun K "_law_begin" "_law_begin" s__law_begin f fd) (T : TDraw mg) : FnOk P w K mg base CX0 1 f fd ["_law_script"] (spBegin K) := by
  refine F.ok sc__law_begin (fun vs H Q E h => ?_) (fun cdv A outer s H vs Q E hr h => ?_)
  · obtain ⟨a, ns, rfl, _⟩ := h
    rfl
  · obtain ⟨a, ns, rfl, hS, hlen, q⟩ := h
    refine ⟨_, 
      (pss_one (ps_ret (pe_lst (pa_cons (pe_lc (own := [("_law_cell", 1)]) rfl sc__law_begin.nd (pi_list (pv 0)) (blkOk_by (N := ["_law_script", "_law_cell"]) (sc := defScope s__law_begin) (by decide +kernel)) (fun _ _ _ _ _ => (pg_name (i := 1) sc__law_begin.nd rfl (Or.inl rfl))) (fun _ _ _ _ _ => pts_nil) (fun _ _ _ _ _ => (pe_callTy call_int1 (by rfl) T.z_int (by decide +kernel) (pa_cons (pv 1) pa_nil)))) (pa_cons pe_int (pa_cons pe_int (pa_cons pe_int (pa_cons pe_int pa_nil)))))))), ?_⟩
    walk_at "rd"
    refine r_ref ⟨_, hS⟩ fun c hc => ?_
    refine lc_list (K := K) (a := a) (xs := ns.map V.int) (fun i H' => Same H H' ∧ H' c = some (.lst ((ns.take i).map V.int))) ⟨same_new hc, upd_same⟩ (fun i H' _ h => h.1.seq hS) (fun i x H' hi h => ?_) (fun H' h => ?_)
    · obtain ⟨u, rfl, hu⟩ : ∃ u, x = V.int u ∧ ns[i]? = some u := by
        rw [List.getElem?_map] at hi
        cases e : ns[i]? with
        | none => rw [e] at hi; cases hi
        | some u => rw [e] at hi; exact ⟨u, (Option.some.inj hi).symm, rfl⟩
      walk_at "rd"
      refine ⟨rfl, ?_⟩
      walk_at "rd"
      refine ⟨_, h.2, ?_, ?_, ?_⟩
      · rw [List.length_map, List.length_take]
        exact Nat.lt_of_le_of_lt (Nat.min_le_right _ _) (small1000 (by omega))
      · exact fun b o e => by
          rw [upd_ne (ne_of_none e hc)]
          exact h.1 _ _ e
      · rw [upd_same, List.take_add_one, hu, List.map_append]
        rfl
    · rw [List.length_map, List.take_of_length_le (Nat.le_refl _)] at h
      walk_at "rd"
      rename_i d hd
      have ncd : c ≠ d := ne_of_none h.2 hd
      refine q _ d c (h.1.trans (same_new hd)) (h.1.free hd) ⟨⟨0, 0, 7, 2, upd_same, by decide⟩, ncd, ns, by rw [upd_ne ncd]; exact h.2⟩
theorem ok_draw {f : Addr} {fd : FuncData} (F : Fun K "_law_draw" "_law_draw" s__law_draw f fd) (T : TDraw mg) : FnOk P w K mg base CX0 1 f fd ["_law_d", "_law_many"] spDraw := by
  refine F.ok sc__law_draw (fun vs H Q E h => ?_) (fun cdv A outer s H vs Q E hr h => ?_)
  · obtain ⟨d, c, m, rfl, _⟩ := h
    rfl
  · obtain ⟨d, c, m, rfl, ⟨⟨at_, rest, st, last, hd, a0, r0, s0, s1⟩, ncd, ns, hc⟩, m1, m2, q⟩ := h
    have hD : CDiv rest m := ⟨by omega, m2⟩
    have hm0 : 0 < m := by omega
    refine ⟨_, 
      (pss_cons (ps_if (pt_cmpR op_gt (pe_ix (r := rIxL K) ix_list (pv 0) pe_int (fun _ _ => rfl)) pe_int (nomark _)) 
       (pss_cons (ps_set (i := 2) sc__law_draw.nd rfl (Or.inl rfl) (pe_ix (r := rIxL K) ix_list (pv 0) pe_int (fun _ _ => rfl)))
       (pss_cons (ps_asg (pe_op op_fdiv (pv 2) (pv 1)) (pg_sub (pv 0) pe_int set_list))
       (pss_one (ps_ret (pe_op op_mod (pe_callTy call_int1 (by rfl) T.z_int (by decide +kernel) (pa_cons (pv 2) pa_nil)) (pv 1)))))) pss_nil)
      (pss_cons (ps_set (i := 3) sc__law_draw.nd rfl (Or.inl rfl) pe_int)
      (pss_cons (ps_if (pt_cmpR op_lt (pe_ix (r := rIxL K) ix_list (pv 0) pe_int (fun _ _ => rfl)) (pe_callB call_len_seq (by rfl) T.z_len (by decide +kernel) (pa_cons (pe_ix (r := rIxL K) ix_list (pv 0) pe_int (fun _ _ => rfl)) pa_nil)) (nomark _)) 
       (pss_cons (ps_set (i := 4) sc__law_draw.nd rfl (Or.inl rfl) (pe_ix (r := rIxL K) ix_list (pe_ix (r := rIxL K) ix_list (pv 0) pe_int (fun _ _ => rfl)) (pe_ix (r := rIxL K) ix_list (pv 0) pe_int (fun _ _ => rfl)) (fun _ _ => rfl)))
       (pss_one (ps_set (i := 3) sc__law_draw.nd rfl (Or.inl rfl) (pe_op op_add (pe_op op_mul pe_int (pe_callB call_abs (by rfl) T.z_abs (by decide +kernel) (pa_cons (pv 4) pa_nil))) (pe_callTy call_int1 (by rfl) T.z_int (by decide +kernel) (pa_cons (pe_cmpR op_lt (pv 4) pe_int (nomark _)) pa_nil)))))) pss_nil)
      (pss_cons (ps_augS (pv 0) pe_int Zn.pget_list pe_int ip_add set_list)
      (pss_cons (ps_if (pt_cmpR op_ge (pv 3) (pe_op op_mul pe_int (pe_op op_pow pe_int pe_int)) (nomark _)) 
       (pss_cons (ps_set (i := 2) sc__law_draw.nd rfl (Or.inl rfl) (pe_op op_mod (pe_callTy call_int1 (by rfl) T.z_int (by decide +kernel) (pa_cons (pe_op op_fdiv (pv 3) pe_int) pa_nil)) (pe_op op_shl pe_int pe_int)))
       (pss_cons (ps_asg (pe_op op_fdiv (pv 2) (pv 1)) (pg_sub (pv 0) pe_int set_list))
       (pss_one (ps_ret (pe_op op_mod (pe_callTy call_int1 (by rfl) T.z_int (by decide +kernel) (pa_cons (pv 2) pa_nil)) (pv 1)))))) pss_nil)
      (pss_cons (ps_asg (pe_op op_mod (pe_callTy call_int1 (by rfl) T.z_int (by decide +kernel) (pa_cons (pe_op op_add (pe_op op_add (pe_op op_add (pe_op op_mul (pe_ix (r := rIxL K) ix_list (pv 0) pe_int (fun _ _ => rfl)) pe_int) (pe_op op_mul (pe_op op_mod (pe_callTy call_int1 (by rfl) T.z_int (by decide +kernel) (pa_cons (pv 3) pa_nil)) pe_int) pe_int)) (pe_op op_mul (pe_ix (r := rIxL K) ix_list (pv 0) pe_int (fun _ _ => rfl)) pe_int)) pe_int) pa_nil)) pe_int) (pg_sub (pv 0) pe_int set_list))
      (pss_one (ps_ret (pe_op op_mod (pe_callTy call_int1 (by rfl) T.z_int (by decide +kernel) (pa_cons (pe_op op_fdiv (pe_ix (r := rIxL K) ix_list (pv 0) pe_int (fun _ _ => rfl)) pe_int) pa_nil)) (pv 1)))))))))), ?_⟩
    walk_at "rd"
    refine ite2 (fun h1 => ?_) (fun h1 => ?_)
    · have h1 : 0 < rest := of_decide_eq_true h1
      walk_at "rd"
      refine q _ _ (Int.emod_nonneg _ (by omega)) (Int.emod_lt_of_pos _ (by omega)) ⟨⟨at_, rest / m, st, last, upd_same, a0, Int.ediv_nonneg r0 (by omega), s0, s1⟩, ncd, ns, by rw [upd_ne ncd]; exact hc⟩
    · walk_at "rd"
      refine ite2 (fun h2 => ?_) (fun h2 => ?_)
      · have h2 : at_ < ((ns.map V.int).length : Int) := of_decide_eq_true h2
        rw [List.length_map] at h2
        have hj : at_.toNat < ns.length := by omega
        walk_at "rd"
        refine r_ixL (v := V.int ns[at_.toNat]) (sl_of hc) (atI_lt (j := at_.toNat) (by omega) (by rw [List.getElem?_map, List.getElem?_eq_getElem hj]; rfl)) ?_
        walk_at "rd"
        refine ite2 (fun h3 => ?_) (fun h3 => ?_)
        · walk_at "rd"
          rw [upd_upd]
          have e0 : ∀ z : Int, 0 ≤ z % (1 * 2 ^ Int.toNat 6000) := fun z => Int.emod_nonneg z (Int.ne_of_gt (pow2_pos (Int.toNat 6000)))
          refine q _ _ (Int.emod_nonneg _ (by omega)) (Int.emod_lt_of_pos _ (by omega)) ⟨⟨at_ + 1, _, st, last, upd_same, by omega, Int.ediv_nonneg (e0 _) (by omega), s0, s1⟩, ncd, ns, by rw [upd_ne ncd]; exact hc⟩
        · walk_at "rd"
          rw [upd_upd]
          refine q _ _ (Int.emod_nonneg _ (by omega)) (Int.emod_lt_of_pos _ (by omega)) ⟨⟨at_ + 1, rest, _, last, upd_same, by omega, r0, Int.emod_nonneg _ (by decide), Int.emod_lt_of_pos _ (by decide)⟩, ncd, ns, by rw [upd_ne ncd]; exact hc⟩
      · walk_at "rd"
        rw [upd_upd]
        refine q _ _ (Int.emod_nonneg _ (by omega)) (Int.emod_lt_of_pos _ (by omega)) ⟨⟨at_ + 1, rest, _, last, upd_same, by omega, r0, Int.emod_nonneg _ (by decide), Int.emod_lt_of_pos _ (by decide)⟩, ncd, ns, by rw [upd_ne ncd]; exact hc⟩
end
end Zn
/-! more readings: texts, while, chains -/
namespace Zn
open PySem PySem.Spec PyProof.Rows L2 TL
section
variable {σ : L2.St} {H : Hp} {K : PySem.W.Frag} {Q : VK} {ta tb te tc : TE} {t u c : TT} {D : Ends} {t1 t2 : TS} {g : TG} {i : Nat} {v x y : V} {r r' : R2} {tr : TA}
theorem r_chain (q : ta σ H fun x H1 => tb σ H1 fun y H2 => r x y H2 fun z H3 => ∃ k, z = .bl k ∧
    (if k = true then tc σ H3 fun v H4 => r' y v H4 Q else Q (.bl false) H3)) : tChain r r' ta tb tc σ H Q := q
theorem r_ss {a b : Str} {R : Str → Str → Prop} (q : R a b) : ∃ i j, V.str a = V.str i ∧ V.str b = V.str j ∧ R i j := ⟨a, b, rfl, rfl, q⟩
theorem r_sign {c : Nat} {z : Str} {R : Nat → Str → Prop} (q : R c z) : ∃ (d : Nat) (y : Str), V.str ⟨#[c]⟩ = V.str ⟨#[d]⟩ ∧ V.str z = V.str y ∧ R d y := ⟨c, z, rfl, rfl, q⟩
theorem r_ixS {z : Str} {i : Int} {c : Nat} (h : z.length ≤ sizeLine) (e : atI z.cps.toList i = some c) (q : Q (.str ⟨#[c]⟩) H) : rIxS (.str z) (.int i) H Q := ⟨z, i, c, rfl, rfl, h, e, q⟩
theorem r_slS {z : Str} {lo hi : Option Int} (h : z.length ≤ sizeLine) (q : Q (.str (cutS z lo hi)) H) : rSlS (.str z) lo hi H Q := ⟨z, rfl, h, q⟩
theorem r_lenS {z : Str} {R : Str → Prop} (q : R z) : ∃ y, [V.str z] = [V.str y] ∧ R y := ⟨z, rfl, q⟩
theorem r_istr {R : It → Hp → Prop} (q : te σ H fun v H1 => ∃ x, v = .str x ∧ R (Its x) H1) : iStr te σ H R := q
theorem r_1s {z : Str} {R : Str → Prop} (q : R z) : ∃ y, V.str z = V.str y ∧ R y := ⟨z, rfl, q⟩
theorem r_62 {j : Int} {R : Prop} (h1 : -(2 ^ 62) ≤ j) (h2 : j < 2 ^ 62) (q : R) : -(2 ^ 62) ≤ j ∧ j < 2 ^ 62 ∧ R := ⟨h1, h2, q⟩
theorem r_M1 {f : V → List V → Hp → VK → Prop} (q : ta σ H fun x H1 => (∃ a, x = .str a) ∧ tb σ H1 fun y H2 => f x [y] H2 Q) : tM1 f ta tb σ H Q := q
theorem r_exS {z : Str} {R : Prop} (q : R) : (∃ a, V.str z = V.str a) ∧ R := ⟨⟨z, rfl⟩, q⟩
theorem r_s1 {a b : Str} {R : Str → Str → Prop} (q : R a b) : ∃ i j, V.str a = V.str i ∧ [V.str b] = [V.str j] ∧ R i j := ⟨a, b, rfl, rfl, q⟩
theorem r_truL {p : Addr} {xs : List V} {R : Bool → Prop} (h : H p = some (.lst xs)) (q : R (!xs.isEmpty)) : ∃ k, TruV K (.ref p) H k ∧ R k := ⟨_, .inl ⟨xs, .inl (.inl h), rfl⟩, q⟩
theorem r_truT {p : Addr} {xs : List V} {R : Bool → Prop} (h : H p = some (.tup xs)) (q : R (!xs.isEmpty)) : ∃ k, TruV K (.ref p) H k ∧ R k := ⟨_, .inr (.inl ⟨xs, .inl (.inl h), rfl⟩), q⟩
theorem r_truI {i : Int} {R : Bool → Prop} (q : R (i != 0)) : ∃ k, TruV K (.int i) H k ∧ R k := ⟨_, rfl, q⟩
theorem seq_same (h2 : t2 D σ H) (h1 : ∀ nx' : L2.St → Hp → Prop, nx' σ H → t1 { D with nx := nx' } σ H) : tSeq t1 t2 D σ H := h1 (t2 D) h2
theorem ne_nil {xs : List V} (h : (!xs.isEmpty) = true) : xs ≠ [] := by
  intro e
  subst e
  cases h
theorem r_lz {n : Nat} {R : Prop} (h : n ≤ sizeLine) (q : R) : n ≤ sizeLine ∧ R := ⟨h, q⟩
theorem r_inY {p : Addr} {xs : List V} (h : SqL K H p xs ∨ SqT K H p xs) (e1 : flatV x = true) (e2 : xs.all flatV = true) (q : Q (.bl (inV x xs)) H) : rIn K false x (.ref p) H Q := ⟨p, xs, rfl, h, e1, e2, q⟩
theorem r_inN {p : Addr} {xs : List V} (h : SqL K H p xs ∨ SqT K H p xs) (e1 : flatV x = true) (e2 : xs.all flatV = true) (q : Q (.bl (!inV x xs)) H) : rIn K true x (.ref p) H Q := ⟨p, xs, rfl, h, e1, e2, q⟩
theorem r_while (q : ∃ Z : Nat → L2.St → Hp → Prop, (∃ m, Z m σ H) ∧ ∀ m σ H, Z m σ H → t σ H fun b H1 =>
    if b = true then ∃ Y : L2.St → Hp → Prop, (∀ σ' H', Y σ' H' → ∃ m', m' < m ∧ Z m' σ' H') ∧ t1 { D with nx := Y, ct := Y, bk := D.nx } σ H1
    else D.nx σ H1) : tWhile t t1 D σ H := q
theorem Same.mut {H H' : Hp} {g : Addr} {o : HO} (s : Same H H') (hg : H g = none) : Same H (upd H' g o) := fun b x e => by
  rw [upd_ne (ne_of_none e hg)]
  exact s _ _ e
theorem keep_new {d : Addr} {H H1 : Hp} {p : Addr} {o : HO} (s : Keep d H H1) (h : H1 p = none) : Keep d H (upd H1 p o) := s.trans (Same.keep (same_new h))
theorem Keep.free {d : Addr} {H H1 : Hp} {p : Addr} (s : Keep d H H1) (n : p ≠ d) (h : H1 p = none) : H p = none := by
  cases e : H p with
  | none => rfl
  | some x =>
    have := s _ _ n e
    rw [h] at this
    cases this
theorem Keep.mut {d : Addr} {H H1 : Hp} {p : Addr} {o : HO} (s : Keep d H H1) (h : H p = none) : Keep d H (upd H1 p o) := fun b x n e => by
  rw [upd_ne (ne_of_none e h)]
  exact s _ _ n e
theorem map_get {ns : List Int} {i : Nat} {x : V} (hi : (ns.map V.int)[i]? = some x) : ∃ u, x = V.int u ∧ ns[i]? = some u := by
  rw [List.getElem?_map] at hi
  cases e : ns[i]? with
  | none => rw [e] at hi; cases hi
  | some u => rw [e] at hi; exact ⟨u, (Option.some.inj hi).symm, rfl⟩
theorem small {w : Int} (h1 : 1 ≤ w) (h8 : w ≤ 8) : (2 : Int) ^ w.toNat ≤ 256 := by
  have : w = 1 ∨ w = 2 ∨ w = 3 ∨ w = 4 ∨ w = 5 ∨ w = 6 ∨ w = 7 ∨ w = 8 := by omega
  rcases this with h | h | h | h | h | h | h | h <;> subst h <;> decide
/-- the parts of a text -/
theorem tl_cut {z : Str} {a b : Int} (h0 : 0 ≤ a) (h1 : 0 ≤ b) : tl (cutS z (some a) (some b)) = ((tl z).drop a.toNat).take (b.toNat - a.toNat) := by
  show ((tl z).drop (HT.sIx z.length 0 (some a))).take (HT.sIx z.length z.length (some b) - HT.sIx z.length 0 (some a)) = _
  obtain ⟨n, rfl⟩ := Int.eq_ofNat_of_zero_le h0
  obtain ⟨m, rfl⟩ := Int.eq_ofNat_of_zero_le h1
  rw [HT.sIx_nat, HT.sIx_nat, len_tl, Int.toNat_natCast, Int.toNat_natCast]
  by_cases h : n ≤ (tl z).length
  · rw [Nat.min_eq_left h]
    by_cases h2 : m ≤ (tl z).length
    · rw [Nat.min_eq_left h2]
    · rw [Nat.min_eq_right (by omega), List.take_of_length_le (by rw [List.length_drop]; omega), List.take_of_length_le (by rw [List.length_drop]; omega)]
  · rw [List.drop_of_length_le (by omega), List.drop_of_length_le (by omega), List.take_nil, List.take_nil]
theorem tl_cut_to {z : Str} {b : Int} (h1 : 0 ≤ b) : tl (cutS z none (some b)) = (tl z).take b.toNat := by
  have := tl_cut (z := z) (Int.le_refl 0) h1
  show ((tl z).drop (HT.sIx z.length 0 none)).take (HT.sIx z.length z.length (some b) - HT.sIx z.length 0 none) = _
  have e : HT.sIx z.length 0 (some 0) = 0 := HT.sIx_nat _ _ 0 |>.trans (by simp)
  have e2 : HT.sIx z.length 0 none = 0 := rfl
  rw [e2, ← e]
  exact this
end
end Zn
/-! trees of tuples; heaps that keep all but some lists -/
namespace Zn
open PySem PySem.Spec PyProof.Rows L2 TL
theorem at0 {a : V} {l : List V} : atI (a :: l) 0 = some a := atI_nat (j := 0) rfl
theorem at1 {a b : V} {l : List V} : atI (a :: b :: l) 1 = some b := atI_nat (j := 1) rfl
theorem at2 {a b c : V} {l : List V} : atI (a :: b :: c :: l) 2 = some c := atI_nat (j := 2) rfl
theorem at3 {a b c d : V} {l : List V} : atI (a :: b :: c :: d :: l) 3 = some d := atI_nat (j := 3) rfl
theorem at4 {a b c d e : V} {l : List V} : atI (a :: b :: c :: d :: e :: l) 4 = some e := atI_nat (j := 4) rfl
/-- signs that a text can have -/
def okB (z : Str) : Bool := (tl z).all (decide <| · < 1114112)
theorem strOk_of {t : Str} (h : okB t = true) : PyData.strOk t = true := by
  unfold PyData.strOk
  rw [← Array.all_toList]
  exact h
/-- what stands is kept, but in the lists of S -/
structure Kp (S : List Addr) (H H' : Hp) : Prop where
  x : ∀ b o, b ∉ S → H b = some o → H' b = some o
  t : ∀ b xs, H b = some (.tup xs) → H' b = some (.tup xs)
theorem Kp.refl (S : List Addr) (H : Hp) : Kp S H H := ⟨fun _ _ _ h => h, fun _ _ h => h⟩
theorem Kp.trans {S : List Addr} {H H1 H2 : Hp} (a : Kp S H H1) (b : Kp S H1 H2) : Kp S H H2 := ⟨fun c o n h => b.x c o n (a.x c o n h), fun c o h => b.t c o (a.t c o h)⟩
theorem Kp.mono {S S' : List Addr} {H H1 : Hp} (a : Kp S H H1) (h : ∀ b ∈ S, b ∈ S') : Kp S' H H1 := ⟨fun c o n e => a.x c o (fun m => n (h c m)) e, a.t⟩
theorem Kp.same {S : List Addr} {H H1 : Hp} (s : Same H H1) : Kp S H H1 := ⟨fun c o _ e => s _ _ e, fun c o e => s _ _ e⟩
theorem Kp.new {S : List Addr} {H H1 : Hp} {p : Addr} {o : HO} (a : Kp S H H1) (h : H1 p = none) : Kp S H (upd H1 p o) := a.trans (.same (same_new h))
theorem Kp.set {S : List Addr} {H H1 : Hp} {p : Addr} {l : List V} {o : HO} (a : Kp S H H1) (m : p ∈ S) (h : H1 p = some (.lst l)) : Kp S H (upd H1 p o) :=
  a.trans ⟨fun c x n e => by rw [upd_ne (fun (k : c = p) => n (k ▸ m))]; exact e, fun c x e => by rw [upd_ne (ne_of e h (by intro z; cases z))]; exact e⟩
theorem Kp.free {S : List Addr} {H H1 : Hp} {p : Addr} (a : Kp S H H1) (n : p ∉ S) (h : H1 p = none) : H p = none := by
  cases e : H p with
  | none => rfl
  | some x =>
    have := a.x _ _ n e
    rw [h] at this
    cases this
/-- a list that was made behind H -/
theorem Kp.mut {S : List Addr} {H H1 : Hp} {p : Addr} {l : List V} {o : HO} (a : Kp S H H1) (h0 : H p = none) (h : H1 p = some (.lst l)) : Kp S H (upd H1 p o) :=
  ⟨fun c x n e => by rw [upd_ne (ne_of_none e h0)]; exact a.x _ _ n e, fun c x e => by rw [upd_ne (ne_of (a.t _ _ e) h (by intro z; cases z))]; exact a.t _ _ e⟩
theorem Kp.seq {S : List Addr} {K : PySem.W.Frag} {H H1 : Hp} {p : Addr} {l : List V} (a : Kp S H H1) (n : p ∉ S) (h : SqL K H p l) : SqL K H1 p l := by
  rcases h with (h | ⟨o, h⟩) | h
  · exact .inl (.inl (a.x _ _ n h))
  · exact .inl (.inr ⟨o, a.x _ _ n h⟩)
  · exact .inr h
theorem Kp.drw {H : Hp} {d c : Addr} {zs : List V} {S : List Addr} (D : Drw H d c) (m : d ∈ S) : Kp S H (upd H d (.lst zs)) := by
  obtain ⟨l, h⟩ := D.get
  exact (Kp.refl S H).set m h
/-- what is no reference -/
def Atom : V → Prop
  | .non => True
  | .bl _ => True
  | .int _ => True
  | .str s => okB s = true
  | _ => False
/-- a tree of tuples, at most n deep -/
def Tree : Nat → Hp → V → Prop
  | 0, _, v => Atom v
  | n + 1, H, v => Atom v ∨ ∃ p xs, v = .ref p ∧ H p = some (.tup xs) ∧ ∀ x ∈ xs, Tree n H x
theorem Tree.atom {v : V} {H : Hp} (h : Atom v) : ∀ n, Tree n H v
  | 0 => h
  | _ + 1 => .inl h
theorem Tree.up : ∀ {n : Nat} {H : Hp} {v : V}, Tree n H v → Tree (n + 1) H v
  | 0, _, _, h => .inl h
  | _ + 1, _, _, h => by
    rcases h with h | ⟨p, xs, e, hp, hx⟩
    · exact .inl h
    · exact .inr ⟨p, xs, e, hp, fun x m => (hx x m).up⟩
theorem Tree.le {n m : Nat} {H : Hp} {v : V} (h : Tree n H v) (hm : n ≤ m) : Tree m H v := by
  induction hm with
  | refl => exact h
  | step _ ih => exact ih.up
theorem Tree.kp : ∀ {n : Nat} {S : List Addr} {H H' : Hp} {v : V}, Tree n H v → Kp S H H' → Tree n H' v
  | 0, _, _, _, _, h, _ => h
  | _ + 1, _, _, _, _, h, k => by
    rcases h with h | ⟨p, xs, e, hp, hx⟩
    · exact .inl h
    · exact .inr ⟨p, xs, e, k.t _ _ hp, fun x m => (hx x m).kp k⟩
theorem Tree.mk {n : Nat} {H : Hp} {p : Addr} {xs : List V} (hp : H p = some (.tup xs)) (h : ∀ x ∈ xs, Tree n H x) : Tree (n + 1) H (.ref p) := .inr ⟨p, xs, rfl, hp, h⟩
theorem Tree.tup {n : Nat} {H : Hp} {p : Addr} {xs : List V} (hp : H p = none) (h : ∀ x ∈ xs, Tree n H x) : Tree (n + 1) (upd H p (.tup xs)) (.ref p) :=
  .mk upd_same fun x m => (h x m).kp (.same (S := []) (same_new hp))
theorem Tree.str {s : Str} {H : Hp} {n : Nat} (h : okB s = true) : Tree n H (.str s) := .atom (v := .str s) h n
theorem Tree.int {i : Int} {H : Hp} {n : Nat} : Tree n H (.int i) := .atom (v := .int i) trivial n
theorem Tree.non {H : Hp} {n : Nat} : Tree n H .non := .atom (v := .non) trivial n
theorem all_cons {α : Type} {P : α → Prop} {x : α} {xs : List α} (h : P x) (hs : ∀ y ∈ xs, P y) : ∀ y ∈ x :: xs, P y := fun y m => by
  rcases List.mem_cons.mp m with rfl | m
  · exact h
  · exact hs y m
theorem all_nil {α : Type} {P : α → Prop} : ∀ y ∈ ([] : List α), P y := fun _ m => by cases m
/-- the tree as a value -/
theorem Tree.dp {K : PySem.W.Frag} : ∀ {n : Nat} {H : Hp} {v : V}, Tree n H v → ∃ D : PyData, Dp K H v D ∧ D.canLay0 = true ∧ D.depth ≤ n := by
  have at_ : ∀ {v : V} {H : Hp}, Atom v → ∃ D : PyData, Dp K H v D ∧ D.canLay0 = true ∧ D.depth ≤ 0 := fun {v H} h => by
    cases v with
    | non => exact ⟨.none, .non, rfl, by simp [PyData.depth]⟩
    | bl b => exact ⟨.bool b, .bl b, rfl, by simp [PyData.depth]⟩
    | int i => exact ⟨.int i, .int i, rfl, by simp [PyData.depth]⟩
    | str s => exact ⟨.str s, .str s, by simp [PyData.canLay0, strOk_of h], by simp [PyData.depth]⟩
    | _ => exact h.elim
  intro n
  induction n with
  | zero => exact fun h => at_ h
  | succ n ih =>
    intro H v h
    rcases h with h | ⟨p, xs, rfl, hp, hx⟩
    · obtain ⟨D, h1, h2, h3⟩ := at_ (H := H) h
      exact ⟨D, h1, h2, by omega⟩
    · have : ∃ ds : List PyData, DpAll K H xs ds ∧ PyData.canLayAll0 ds = true ∧ PyData.depthAll ds ≤ n := by
        clear hp
        induction xs with
        | nil => exact ⟨[], .nil, by simp [PyData.canLayAll0], by simp [PyData.depthAll]⟩
        | cons x xs ihx =>
          obtain ⟨ds, h1, h2, h3⟩ := ihx fun y m => hx y (List.mem_cons_of_mem _ m)
          obtain ⟨e, g1, g2, g3⟩ := ih (hx x List.mem_cons_self)
          exact ⟨e :: ds, .cons g1 h1, by simp [PyData.canLayAll0, g2, h2], by simp only [PyData.depthAll]; omega⟩
      obtain ⟨ds, h1, h2, h3⟩ := this
      exact ⟨.tuple ds, .tup (.inl (.inl hp)) h1, by simp [PyData.canLay0, h2], by simp only [PyData.depth]; omega⟩
end Zn
/-! more rules: any of ints, zip of tuples -/
namespace Zn
open PySem PySem.Spec PyProof.Rows L2 TL
section
variable {X : Cx}
def rAnyI (K : PySem.W.Frag) : List V → Hp → VK → Prop := fun vs H Q => ∃ (a : Addr) (ns : List Int), vs = [V.ref a] ∧ SqL K H a (ns.map V.int) ∧ Q (.bl (ns.any (· != 0))) H
theorem truth_ints {prog : Program} {w : World} {A : Around} {ns : List Int} {its : List Value} (e : IntsAre its ns) :
    TruthOf prog w A (fun i v => its.toArray[i]? = some v) (fun i => ns.getD i 0 != 0) := fun i v s Q E hv hq => by
  have hv' : its[i]? = some v := by simpa using hv
  have hi : i < ns.length := by
    have h1 := (vals_of_ints e).length
    rw [List.length_map] at h1
    rw [h1]
    exact (List.getElem?_eq_some_iff.mp hv').1
  obtain ⟨t, ht⟩ := e.get i ns[i] (List.getElem?_eq_getElem hi)
  rw [ht] at hv'
  cases hv'
  have hg : ns.getD i 0 = ns[i] := by rw [List.getD_eq_getElem?_getD, List.getElem?_eq_getElem hi] <;> rfl
  have hq' : Q (ns.getD i 0 != 0) s := hq
  rw [hg] at hq'
  exact PyProof.Rows.truthy_int hq'
theorem any_rangeI : ∀ ns : List Int, (List.range ns.length).any (fun i => ns.getD i 0 != 0) = ns.any (· != 0)
  | [] => rfl
  | b :: bs => by
    rw [List.length_cons, List.range_succ_eq_map, List.any_cons, List.any_map, List.any_cons, ← any_rangeI bs]
    all_goals rfl
theorem cr_anyI (hc : X.calm = true) : CallR X (.builtin "any") (rAnyI X.K) := by
  intro pins s σ H vs us Q I r h
  obtain ⟨a, ns, rfl, hs, q⟩ := h
  obtain ⟨its, rv, hl, _⟩ := I.list hs
  rw [Vals.ref1 r]
  have hb := rv.ints
  have hlen : its.length = ns.length := by
    have h1 := rv.length
    rw [List.length_map] at h1
    exact h1.symm
  refine call_any_walk (iter_any hl.isList fun s₂ e2 st hne => ?_)
  subst e2
  refine ⟨_, _, _, _, _, _, _, rfl, Walks.list (A := X.A.in1) (I.ok.hd hc) _ a hne its.toArray, st, truth_ints hb, fun h' tk hk => ?_⟩
  refine ⟨.bl _, H, I.kept fun b o eo => hk b o (fun hmem => ?_) (Heap.get?_push_of_some _ eo), ?_, q⟩
  · rcases List.mem_cons.mp hmem with e1 | hmem
    · exact absurd (e1 ▸ Heap.lt_size eo) (Nat.lt_irrefl _)
    · cases hmem
  · show Value.bool _ = Value.bool _
    rw [← any_rangeI, List.size_toArray, hlen]
end
theorem walk_zipT {K : PySem.W.Frag} {a b : Addr} {xs ys : List V} {n : Nat} (hn : n = min xs.length ys.length) : Walk (RZ.ItzT K a b) n (fun H => SqT K H a xs ∧ SqT K H b ys) (YPair (fun i => xs[i]?) (fun i => ys[i]?)) := by
  subst hn
  refine ⟨fun i _ hi q => ?_, fun _ q => ⟨xs, ys, q.1, q.2, by omega⟩, fun i H v H' _ q y => ?_⟩
  · have h1 : i < xs.length := by omega
    have h2 : i < ys.length := by omega
    exact ⟨xs, ys, xs[i], ys[i], q.1, q.2, by simp [h1], by simp [h2]⟩
  · obtain ⟨T, x, z, h1, h2, h3, h4, h5⟩ := y
    exact ⟨T, x, z, h1, h2, h3, h4 xs q.1, h5 ys q.2⟩
/-- tuples stand still -/
def Tp (H H' : Hp) : Prop := ∀ b xs, H b = some (.tup xs) → H' b = some (.tup xs)
theorem Same.tp {H H' : Hp} (s : Same H H') : Tp H H' := fun b xs h => s _ _ h
theorem Kp.tp {S : List Addr} {H H' : Hp} (s : Kp S H H') : Tp H H' := s.t
theorem Tp.refl (H : Hp) : Tp H H := fun _ _ h => h
theorem Tp.trans {H H1 H2 : Hp} (a : Tp H H1) (b : Tp H1 H2) : Tp H H2 := fun c x h => b c x (a c x h)
theorem Tp.set {H : Hp} {p : Addr} {l : List V} {o : HO} (h : H p = some (.lst l)) : Tp H (upd H p o) := fun c x e => by
  rw [upd_ne (ne_of e h (by intro z; cases z))]
  exact e
theorem getL {α : Type} {xs : List α} {i : Nat} {x : α} (h : xs[i]? = some x) : i < xs.length := (List.getElem?_eq_some_iff.mp h).1
theorem get_map {α β : Type} {f : α → β} {xs : List α} {i : Nat} {y : β} (h : (xs.map f)[i]? = some y) : ∃ x, xs[i]? = some x ∧ f x = y := by
  rw [List.getElem?_map] at h
  cases e : xs[i]? with
  | none => rw [e] at h; cases h
  | some u => rw [e] at h; exact ⟨u, rfl, Option.some.inj h⟩
theorem take_snoc {α : Type} {xs : List α} {i : Nat} {x : α} (h : xs[i]? = some x) : xs.take (i + 1) = xs.take i ++ [x] := by
  rw [List.take_add_one, h]
  rfl
theorem lt_line {n : Nat} (h : n < 100000) : n < sizeLine := Nat.lt_of_lt_of_le h (by decide)
/-- a comprehension whose list is known ahead: only new things are made in its turns -/
theorem lcM {J : It} {n : Nat} {G : Hp → Prop} {Y : Nat → Hp → V → Hp → Prop} (w : Walk J n G Y) (out : List V) {g : TG} {tt : TT} {te : TE} {vs : List Nat} {σ : L2.St} {H1 : Hp} {C : Addr} {Qd : Hp → Prop}
    (hn : out.length = n) (hz : n < 100000) (hC : H1 C = none) (hG : ∀ H', Same H1 H' → G H')
    (hs : ∀ i x H' H'', i < n → Same H1 H' → Y i H' x H'' → (∀ y H4, out[i]? = some y → Same H' H4 → ∃ acc, H4 C = some (.lst acc) ∧ acc.length < sizeLine ∧ (Same H1 (upd H4 C (.lst (acc ++ [y]))) ∧ upd H4 C (.lst (acc ++ [y])) C = some (.lst (out.take (i + 1))))) →
      g x (wipe σ vs) H'' fun σ2 H2 => wipe σ2 vs = wipe σ vs ∧ tt σ2 H2 fun b H3 =>
      if b = true then te σ2 H3 fun y H4 => ∃ acc, H4 C = some (.lst acc) ∧ acc.length < sizeLine ∧ (Same H1 (upd H4 C (.lst (acc ++ [y]))) ∧ upd H4 C (.lst (acc ++ [y])) C = some (.lst (out.take (i + 1)))) else (Same H1 H3 ∧ H3 C = some (.lst (out.take (i + 1)))))
    (hd : ∀ H', Same H1 H' → H' C = some (.lst out) → Qd H') :
    ∃ W : Nat → Nat → Hp → Prop, (∃ m, W 0 m (upd H1 C (.lst []))) ∧ ∀ i m H, W i m H →
      (J.stop i H ∧ Qd H) ∨ (J.go i H ∧ ∃ Nx : Hp → Prop, (∀ H', Nx H' → ∃ m', m' < m ∧ W (i + 1) m' H') ∧ ∀ x H', J.yld i H x H' → g x (wipe σ vs) H' fun σ2 H2 => wipe σ2 vs = wipe σ vs ∧ tt σ2 H2 fun b H3 =>
        if b = true then te σ2 H3 fun y H4 => ∃ acc, H4 C = some (.lst acc) ∧ acc.length < sizeLine ∧ Nx (upd H4 C (.lst (acc ++ [y]))) else Nx H3) := by
  refine lc_it w (fun i H' => Same H1 H' ∧ H' C = some (.lst (out.take i))) ⟨same_new hC, upd_same⟩ (fun i H' _ h => hG H' h.1) (fun i x H' H'' hi h hy => ?_) (fun H' h => hd H' h.1 ?_)
  · refine hs i x H' H'' hi h.1 hy fun y H4 e s => ⟨out.take i, s _ _ h.2, ?_, Zn.Same.mut (h.1.trans s) hC, ?_⟩
    · rw [List.length_take]
      exact lt_line (by omega)
    · rw [upd_same, take_snoc e]
  · rw [h.2, List.take_of_length_le (by omega)]
theorem r_zip {K : PySem.W.Frag} {ta : TA} {σ : L2.St} {H : Hp} {R : It → Hp → Prop} (q : ta σ H fun vs H1 => ∃ a b xs ys, vs = [.ref a, .ref b] ∧ ((SqL K H1 a xs ∧ SqL K H1 b ys ∧ R (Itz K a b) H1) ∨ (SqT K H1 a xs ∧ SqT K H1 b ys ∧ R (RZ.ItzT K a b) H1))) : RZ.iZipA K ta σ H R := q
theorem r_zip2 {K : PySem.W.Frag} {H1 : Hp} {a b : Addr} {xs ys : List V} {R1 R2 : Addr → Addr → Prop} (h1 : SqT K H1 a xs) (h2 : SqT K H1 b ys) (q : R2 a b) :
    ∃ a' b' xs ys, [V.ref a, V.ref b] = [.ref a', .ref b'] ∧ ((SqL K H1 a' xs ∧ SqL K H1 b' ys ∧ R1 a' b') ∨ (SqT K H1 a' xs ∧ SqT K H1 b' ys ∧ R2 a' b')) := ⟨a, b, xs, ys, rfl, .inr ⟨h1, h2, q⟩⟩
theorem r_all {K : PySem.W.Frag} {H : Hp} {Q : VK} {a : Addr} {bs : List Bool} (h : SqL K H a (bs.map V.bl)) (q : Q (.bl (bs.all id)) H) : rAll K [.ref a] H Q := ⟨a, bs, rfl, h, q⟩
theorem r_any {K : PySem.W.Frag} {H : Hp} {Q : VK} {a : Addr} {bs : List Bool} (h : SqL K H a (bs.map V.bl)) (q : Q (.bl (bs.any id)) H) : rAny K [.ref a] H Q := ⟨a, bs, rfl, h, q⟩
theorem r_anyI {K : PySem.W.Frag} {H : Hp} {Q : VK} {a : Addr} {ns : List Int} (h : SqL K H a (ns.map V.int)) (q : Q (.bl (ns.any (· != 0))) H) : rAnyI K [.ref a] H Q := ⟨a, ns, rfl, h, q⟩
theorem r_sum {K : PySem.W.Frag} {H : Hp} {Q : VK} {a : Addr} {ns : List Int} (h : SqL K H a (ns.map V.int)) (q : Q (.int ns.sum) H) : rSum K [.ref a] H Q := ⟨a, ns, rfl, h, q⟩
end Zn
namespace Zn
open PySem PySem.Spec PyProof.Rows L2 TL
theorem r_rep {H : Hp} {Q : VK} {p : Addr} {k : Int} {xs : List V} (h : H p = some (.lst xs)) (h0 : -(2 ^ 63) ≤ k) (h1 : k < 2 ^ 63) (h2 : xs.length * k.toNat ≤ sizeLine) (q : ∀ c, H c = none → Q (.ref c) (upd H c (.lst (List.replicate k.toNat xs).flatten))) : rRep (.ref p) (.int k) H Q := ⟨p, k, xs, rfl, rfl, h, h0, h1, h2, q⟩
theorem rep_one {v : V} (n : Nat) : (List.replicate n [v]).flatten = List.replicate n v := by
  induction n with
  | zero => rfl
  | succ n ih => rw [List.replicate_succ, List.flatten_cons, ih]; rfl
theorem cutV_to {xs : List V} (n : Nat) : cutV xs none (some (n : Int)) = xs.take n := by
  unfold cutV
  rw [HT.sIx_nat]
  show (xs.drop 0).take (min n xs.length - 0) = _
  rw [List.drop_zero, Nat.sub_zero]
  by_cases h : n ≤ xs.length
  · rw [Nat.min_eq_left h]
  · rw [Nat.min_eq_right (by omega), List.take_of_length_le (Nat.le_refl _), List.take_of_length_le (by omega)]
theorem cutV_from {xs : List V} (n : Nat) : cutV xs (some (n : Int)) none = xs.drop n := by
  unfold cutV
  rw [HT.sIx_nat]
  show (xs.drop (min n xs.length)).take (xs.length - min n xs.length) = _
  by_cases h : n ≤ xs.length
  · rw [Nat.min_eq_left h, List.take_of_length_le (by rw [List.length_drop]; omega)]
  · rw [Nat.min_eq_right (by omega), List.drop_of_length_le (Nat.le_refl _), List.drop_of_length_le (by omega), List.take_nil]
theorem ints_at {ns : List Int} {i : Int} {j : Nat} {u : Int} (e : i = (j : Int)) (h : ns[j]? = some u) : atI (ns.map V.int) i = some (.int u) := atI_lt e (by rw [List.getElem?_map, h]; rfl)
theorem getD_at {ns : List Int} {j : Nat} (h : j < ns.length) : ns[j]? = some (ns.getD j 0) := by
  rw [List.getD_eq_getElem?_getD, List.getElem?_eq_getElem h]
  rfl
end Zn
namespace Zn
open PySem PySem.Spec PyProof.Rows L2 TL
/-- a comprehension that draws: R tells of what is made so far -/
theorem lcK {J : It} {n : Nat} {G : Hp → Prop} {Y : Nat → Hp → V → Hp → Prop} (w : Walk J n G Y) (S : List Addr) (R : Hp → List V → Prop) {d c : Addr} {g : TG} {tt : TT} {te : TE} {vs : List Nat} {σ : L2.St} {H1 : Hp} {C : Addr} {Qd : Hp → Prop}
    (hz : n < 100000) (hC : H1 C = none) (hCS : C ∉ S) (hD : Drw H1 d c) (hG : ∀ H', Kp S H1 H' → G H')
    (stab : ∀ H H' xs, Kp (C :: S) H H' → R H xs → R H' xs) (h0 : R (upd H1 C (.lst [])) [])
    (hs : ∀ i x H' H'' xs, i < n → Kp S H1 H' → Drw H' d c → H' C = some (.lst xs) → xs.length = i → R H' xs → Y i H' x H'' → (∀ y H4, Kp S H' H4 → Drw H4 d c → R H4 (xs ++ [y]) → ∃ acc, H4 C = some (.lst acc) ∧ acc.length < sizeLine ∧ (∃ zs, Kp S H1 (upd H4 C (.lst (acc ++ [y]))) ∧ Drw (upd H4 C (.lst (acc ++ [y]))) d c ∧ upd H4 C (.lst (acc ++ [y])) C = some (.lst zs) ∧ zs.length = i + 1 ∧ R (upd H4 C (.lst (acc ++ [y]))) zs)) →
      g x (wipe σ vs) H'' fun σ2 H2 => wipe σ2 vs = wipe σ vs ∧ tt σ2 H2 fun b H3 =>
      if b = true then te σ2 H3 fun y H4 => ∃ acc, H4 C = some (.lst acc) ∧ acc.length < sizeLine ∧ (∃ zs, Kp S H1 (upd H4 C (.lst (acc ++ [y]))) ∧ Drw (upd H4 C (.lst (acc ++ [y]))) d c ∧ upd H4 C (.lst (acc ++ [y])) C = some (.lst zs) ∧ zs.length = i + 1 ∧ R (upd H4 C (.lst (acc ++ [y]))) zs)
      else (∃ zs, Kp S H1 H3 ∧ Drw H3 d c ∧ H3 C = some (.lst zs) ∧ zs.length = i + 1 ∧ R H3 zs))
    (hd : ∀ H' xs, Kp S H1 H' → Drw H' d c → H' C = some (.lst xs) → xs.length = n → R H' xs → Qd H') :
    ∃ W : Nat → Nat → Hp → Prop, (∃ m, W 0 m (upd H1 C (.lst []))) ∧ ∀ i m H, W i m H →
      (J.stop i H ∧ Qd H) ∨ (J.go i H ∧ ∃ Nx : Hp → Prop, (∀ H', Nx H' → ∃ m', m' < m ∧ W (i + 1) m' H') ∧ ∀ x H', J.yld i H x H' → g x (wipe σ vs) H' fun σ2 H2 => wipe σ2 vs = wipe σ vs ∧ tt σ2 H2 fun b H3 =>
        if b = true then te σ2 H3 fun y H4 => ∃ acc, H4 C = some (.lst acc) ∧ acc.length < sizeLine ∧ Nx (upd H4 C (.lst (acc ++ [y]))) else Nx H3) := by
  refine lc_it w (fun i H' => ∃ zs, Kp S H1 H' ∧ Drw H' d c ∧ H' C = some (.lst zs) ∧ zs.length = i ∧ R H' zs) ⟨[], (Kp.refl _ _).new hC, hD.same (same_new hC), upd_same, rfl, h0⟩ (fun i H' _ ⟨_, k, _⟩ => hG H' k) (fun i x H' H'' hi ⟨zs, k, D, hz', hl, r⟩ hy => ?_) (fun H' ⟨zs, k, D, hz', hl, r⟩ => hd H' zs k D hz' hl r)
  refine hs i x H' H'' zs hi k D hz' hl r hy fun y H4 k4 D4 r4 => ?_
  have h4 := k4.x _ _ hCS hz'
  refine ⟨zs, h4, lt_line (by omega), zs ++ [y], (k.trans k4).mut hC h4, D4.upd (hD.nd hC) (hD.nc hC), upd_same, by rw [List.length_append, hl]; rfl, ?_⟩
  exact stab H4 _ _ ((Kp.refl _ _).set List.mem_cons_self h4) r4
theorem notin1 {a d : Addr} (h : a ≠ d) : a ∉ [d] := by simpa using h
theorem notin2 {a d e : Addr} (h : a ≠ d) (k : a ≠ e) : a ∉ [d, e] := by simp [h, k]
theorem small0 {w : Int} (h1 : 0 ≤ w) (h8 : w ≤ 8) : 1 ≤ (2 : Int) ^ w.toNat ∧ (2 : Int) ^ w.toNat ≤ 256 := by
  have : w = 0 ∨ w = 1 ∨ w = 2 ∨ w = 3 ∨ w = 4 ∨ w = 5 ∨ w = 6 ∨ w = 7 ∨ w = 8 := by omega
  rcases this with h | h | h | h | h | h | h | h | h <;> subst h <;> decide
theorem ixN_at {n : Nat} {i : Int} (h0 : 0 ≤ i) (h1 : i < (n : Int)) : ixN n i = some i.toNat := by
  have h1' : i.toNat < n := by omega
  unfold ixN
  simp [h0, h1, h1']
theorem ints_ex {ns : List Int} {i : Int} (h0 : 0 ≤ i) (h1 : i < (ns.length : Int)) : atI (ns.map V.int) i = some (.int (ns.getD i.toNat 0)) := ints_at (j := i.toNat) (by omega) (getD_at (by omega))
theorem getD_mem {ns : List Int} {j : Nat} (h : j < ns.length) : ns.getD j 0 ∈ ns := List.mem_of_getElem? (getD_at h)
end Zn
/-! places within a def's own text, by numbers -/
namespace Zn
open PySem
def exK : Expr → List Expr
  | .BoolOp _ vs _ => vs
  | .BinOp l _ r _ => [l, r]
  | .UnaryOp _ o _ => [o]
  | .IfExp t b o _ => [t, b, o]
  | .ListComp e gs _ _ => e :: gs.flatMap fun g => g.iter :: g.ifs
  | .Compare l _ cs _ => l :: cs
  | .Call f as _ _ => f :: as
  | .Attribute v _ _ => [v]
  | .Subscript v s _ => [v, s]
  | .Starred v _ => [v]
  | .List es _ => es
  | .Tuple es _ _ => es
  | _ => []
def stK : Stmt → List Expr
  | .Return (some v) _ => [v]
  | .Assign ts v _ => v :: ts
  | .AugAssign t _ v _ => [v, t]
  | .For t i _ _ _ => [i, t]
  | .While t _ _ _ => [t]
  | .If t _ _ _ => [t]
  | .Expr v _ => [v]
  | _ => []
def blK : Stmt → List (List Stmt)
  | .For _ _ b _ _ => [b]
  | .While _ b _ _ => [b]
  | .If _ b o _ => [b, o]
  | _ => []
def p0 : Pos := ⟨0, 0, 0, 0⟩
def stA (ss : List Stmt) (i : Nat) : Stmt := ss.getD i (.Pass p0)
def blA (s : Stmt) (i : Nat) : List Stmt := (blK s).getD i []
def exA (s : Stmt) (i : Nat) : Expr := (stK s).getD i (.Name "" p0)
def exP (e : Expr) : List Nat → Expr
  | [] => e
  | i :: is => exP ((exK e).getD i (.Name "" p0)) is
def lcS (d : Scope) : Expr → Scope
  | .ListComp _ _ s _ => s
  | _ => d
end Zn
namespace Zn
open PySem PySem.Spec PyProof.Rows L2
theorem lookup_relabF {f : Str × NameKind → Str × NameKind} (hf : ∀ n k, f (n, k) = (n, .cell) ∨ f (n, k) = (n, k)) : ∀ {names : List (Str × NameKind)} {x : Str}, names.lookup x = some .cell ∨ names.lookup x = some .free → (names.map f).lookup x = some .cell ∨ (names.map f).lookup x = some .free
  | [], _, h => by simp at h
  | (n, k) :: names, x, h => by
    rw [List.map_cons]
    rw [List.lookup_cons] at h
    rcases hf n k with e | e <;> rw [e, List.lookup_cons] <;> cases hx : x == n <;> rw [hx] at h
    · exact lookup_relabF hf h
    · exact .inl rfl
    · exact lookup_relabF hf h
    · exact h
theorem lookup_relab {env : Env} {names : List (Str × NameKind)} {x : Str} (h : names.lookup x = some .cell ∨ names.lookup x = some .free) :
    (names.map fun (n, k) => if (k == NameKind.free && env.scope.kind == .function && env.kindOf n == some .cell) then (n, NameKind.cell) else (n, k)).lookup x = some .cell ∨ (names.map fun (n, k) => if (k == NameKind.free && env.scope.kind == .function && env.kindOf n == some .cell) then (n, NameKind.cell) else (n, k)).lookup x = some .free := by
  refine lookup_relabF (fun n k => ?_) h
  dsimp only
  split
  · exact .inl rfl
  · exact .inr rfl
theorem blk2 {N : List Str} {sc scope : Scope} {own : List (Str × Nat)} {env : Env} (h : BlkOk N sc scope own) : BlkOk N (relabel sc env) scope own :=
  ⟨h.kind, h.uniq, h.ix, fun y hy e => lookup_relab (h.free y hy e), h.own⟩
end Zn
namespace Zn
open PySem PySem.Spec PyProof.Rows L2 TL
theorem r_tupOfL {K : PySem.W.Frag} {H : Hp} {p : Addr} {ys : List V} {R : V → Hp → Prop} (h : SqL K H p ys) (q : ∀ l, H l = none → R (.ref l) (upd H l (.tup ys))) :
    ∃ p' ys', [V.ref p] = [V.ref p'] ∧ ((SqL K H p' ys' ∧ ∀ l, H l = none → R (.ref l) (upd H l (.tup ys'))) ∨ (SqT K H p' ys' ∧ R (.ref p') H)) := ⟨p, ys, rfl, .inl ⟨h, q⟩⟩
theorem r_tupOfT {K : PySem.W.Frag} {H : Hp} {p : Addr} {ys : List V} {R : V → Hp → Prop} (h : SqT K H p ys) (q : R (.ref p) H) :
    ∃ p' ys', [V.ref p] = [V.ref p'] ∧ ((SqL K H p' ys' ∧ ∀ l, H l = none → R (.ref l) (upd H l (.tup ys'))) ∨ (SqT K H p' ys' ∧ R (.ref p') H)) := ⟨p, ys, rfl, .inr ⟨h, q⟩⟩
theorem r_lst1 {K : PySem.W.Frag} {H : Hp} {p : Addr} {ys : List V} {R : V → Hp → Prop} (h : SqL K H p ys ∨ SqT K H p ys) (q : ∀ l, H l = none → R (.ref l) (upd H l (.lst ys))) :
    ∃ p' ys', [V.ref p] = [V.ref p'] ∧ (SqL K H p' ys' ∨ SqT K H p' ys') ∧ ∀ l, H l = none → R (.ref l) (upd H l (.lst ys')) := ⟨p, ys, rfl, h, q⟩
theorem cutV_most {xs : List V} : cutV xs none (some (-1)) = xs.take (xs.length - 1) := by
  unfold cutV
  have e : HT.sIx xs.length xs.length (some (-1)) = xs.length - 1 := by
    show (if (-1 : Int) < 0 then ((-1 : Int) + (xs.length : Int)).toNat else min (-1 : Int).toNat xs.length) = _
    rw [if_pos (by decide)]
    omega
  rw [e]
  show (xs.drop 0).take (xs.length - 1 - 0) = _
  rw [List.drop_zero, Nat.sub_zero]
theorem atI_end {α : Type} {xs : List α} {v : α} (h : xs[xs.length - 1]? = some v) : atI xs (-1) = some v := by
  have hl : xs.length - 1 < xs.length := (List.getElem?_eq_some_iff.mp h).1
  have e : ixN xs.length (-1) = some (xs.length - 1) := by
    unfold ixN
    rw [if_neg (by decide), if_pos (by omega)]
    congr 1
    omega
  unfold atI
  rw [e]
  exact h
theorem map_cutV {ns : List Int} {lo hi : Option Int} : ∃ ms : List Int, cutV (ns.map V.int) lo hi = ms.map V.int ∧ ms.length ≤ ns.length := by
  unfold cutV
  rw [← List.map_drop, ← List.map_take]
  refine ⟨_, rfl, ?_⟩
  rw [List.length_take, List.length_drop]
  omega
end Zn
namespace Zn
open PySem PySem.Spec PyProof.Rows L2 TL
abbrev rTupOf (K : PySem.W.Frag) : List V → Hp → VK → Prop := fun xs H Q => ∃ p ys, xs = [.ref p] ∧ ((SqL K H p ys ∧ ∀ l, H l = none → Q (.ref l) (upd H l (.tup ys))) ∨ (SqT K H p ys ∧ Q (.ref p) H))
abbrev rLstOf (K : PySem.W.Frag) : List V → Hp → VK → Prop := fun xs H Q => ∃ p ys, xs = [.ref p] ∧ (SqL K H p ys ∨ SqT K H p ys) ∧ ∀ l, H l = none → Q (.ref l) (upd H l (.lst ys))
abbrev rLenS (K : PySem.W.Frag) : List V → Hp → VK → Prop := fun xs H Q => ∃ p ys, xs = [.ref p] ∧ (SqL K H p ys ∨ SqT K H p ys) ∧ Q (.int ys.length) H
end Zn
namespace Zn
open PySem PySem.Spec PyProof.Rows L2 TL
theorem r_tpL {K : PySem.W.Frag} {H : Hp} {p : Addr} {ys : List V} {Q : VK} (h : SqL K H p ys) (q : ∀ l, H l = none → Q (.ref l) (upd H l (.tup ys))) : rTupOf K [.ref p] H Q := ⟨p, ys, rfl, .inl ⟨h, q⟩⟩
theorem r_tpT {K : PySem.W.Frag} {H : Hp} {p : Addr} {ys : List V} {Q : VK} (h : SqT K H p ys) (q : Q (.ref p) H) : rTupOf K [.ref p] H Q := ⟨p, ys, rfl, .inr ⟨h, q⟩⟩
theorem r_lsO {K : PySem.W.Frag} {H : Hp} {p : Addr} {ys : List V} {Q : VK} (h : SqL K H p ys ∨ SqT K H p ys) (q : ∀ l, H l = none → Q (.ref l) (upd H l (.lst ys))) : rLstOf K [.ref p] H Q := ⟨p, ys, rfl, h, q⟩
theorem r_lnS {K : PySem.W.Frag} {H : Hp} {p : Addr} {ys : List V} {Q : VK} (h : SqL K H p ys ∨ SqT K H p ys) (q : Q (.int ys.length) H) : rLenS K [.ref p] H Q := ⟨p, ys, rfl, h, q⟩
theorem cat_ints {a b : List Int} : a.map V.int ++ b.map V.int = (a ++ b).map V.int := List.map_append.symm
theorem cat_int1 {a : List Int} {u : Int} : a.map V.int ++ [V.int u] = (a ++ [u]).map V.int := by rw [List.map_append]; rfl
end Zn
namespace Zn
open PySem PySem.Spec PyProof.Rows L2 TL
theorem fz {K : PySem.W.Frag} {a b : Addr} {xs ys : List V} {g : TG} {tb : TS} {nx : L2.St → Hp → Prop} {rt : VK} {σ : L2.St} {H : Hp} (hl : xs.length = ys.length) (Pv : Nat → L2.St → Hp → Prop) (h0 : Pv 0 σ H) (hq : ∀ i σ H, Pv i σ H → SqT K H a xs ∧ SqT K H b ys)
    (hs : ∀ (i : Nat) (x y : V) (T : Addr) (σ : L2.St) (H : Hp), xs[i]? = some x → ys[i]? = some y → Pv i σ H → H T = none → g (.ref T) σ (upd H T (.tup [x, y])) fun σ2 H2 => tb { nx := Pv (i + 1), rt := rt, bk := nx, ct := Pv (i + 1) } σ2 H2) (hd : ∀ σ H, Pv xs.length σ H → nx σ H) :
    ∃ W : Nat → Nat → L2.St → Hp → Prop, (∃ m, W 0 m σ H) ∧ ∀ i m σ H, W i m σ H →
      ((RZ.ItzT K a b).stop i H ∧ nx σ H) ∨ ((RZ.ItzT K a b).go i H ∧ ∃ N : L2.St → Hp → Prop, (∀ σ' H', N σ' H' → ∃ m', m' < m ∧ W (i + 1) m' σ' H') ∧ ∀ v H', (RZ.ItzT K a b).yld i H v H' → g v σ H' fun σ2 H2 => tb { nx := N, rt := rt, bk := nx, ct := N } σ2 H2) :=
  RZ.for_zipT (D := { nx := nx, rt := rt, bk := nx, ct := nx }) hl Pv h0 hq hs hd
end Zn
namespace Zn
open PySem PySem.Spec PyProof.Rows L2 TL
theorem r_nn {R : Prop} (q : R) : V.non = V.non ∧ R := ⟨rfl, q⟩
end Zn
local macro_rules | `(tactic| walk_at "rs1") => `(tactic| first
  | (with_reducible refine Zn.r_ss ?_)
  | (with_reducible refine Zn.r_chain ?_)
  | (with_reducible refine Zn.r_M1 ?_)
  | (with_reducible refine Zn.r_truI ?_)
  | ((with_reducible refine' Zn.r_truL ?h ?_); (case h => walk_at "fd"))
  | ((with_reducible refine' Zn.r_truT ?h ?_); (case h => walk_at "fd"))
  | (with_reducible refine Zn.r_exS ?_)
  | (with_reducible refine Zn.r_s1 ?_)
  | (with_reducible refine Zn.r_sign ?_)
  | ((with_reducible refine Zn.r_slS ?h ?_); (case h => first | assumption | omega))
  | (with_reducible refine Zn.r_lenS ?_)
  | (with_reducible refine Zn.r_istr ?_)
  | (with_reducible refine Zn.r_1s ?_)
  | ((with_reducible refine Zn.r_62 ?h1 ?h2 ?_); (case h1 => first | omega | decide); (case h2 => first | omega | decide))
  | ((with_reducible refine' Zn.r_inY ?h ?e1 ?e2 ?_); (case h => first | exact .inr (Zn.st_of (by walk_at "fd")) | exact .inl (Zn.sl_of (by walk_at "fd")) | exact .inl (by assumption) | exact .inr (by assumption)); (case e1 => rfl); (case e2 => rfl))
  | ((with_reducible refine' Zn.r_inN ?h ?e1 ?e2 ?_); (case h => first | exact .inr (Zn.st_of (by walk_at "fd")) | exact .inl (Zn.sl_of (by walk_at "fd")) | exact .inl (by assumption) | exact .inr (by assumption)); (case e1 => rfl); (case e2 => rfl))
  | (with_reducible refine Zn.r_while ?_)
  | (with_reducible refine Zn.r_zip ?_)
  | (with_reducible refine Zn.r_nn ?_)
  | (walk_at "rd1")
  | ((with_reducible refine' Zn.r_ixT ?h ?e ?_); (case h => first | exact Zn.st_of (by walk_at "fd") | assumption); (case e => first | exact Zn.at1 | exact Zn.at2 | exact Zn.at3 | exact Zn.at0 | exact Zn.at4))
  | ((with_reducible refine Zn.r_lz ?h ?_); (case h => first | assumption | omega)))
local macro_rules | `(tactic| walk_at "rs") => `(tactic| ((try dsimp only); (repeat ((walk_at "rs1"); (try dsimp only)))))
local macro_rules | `(tactic| walk_at "rt") => `(tactic| ((try dsimp only); (repeat ((fail_if_success (with_reducible refine Zn.r_seq ?_)); (walk_at "rs1"); (try dsimp only)))))
namespace Zn
open PySem PySem.Spec PyProof.Rows L2 TL
abbrev s_result : Stmt := topS 2
theorem sc_result : FnScope ["op", "width", "words", "choice", "left", "right"] ["op", "width", "words"] (defScope s_result) := ⟨rfl, rfl, rfl, by decide +kernel, rfl, by decide +kernel, by decide +kernel⟩

abbrev s__of_one : Stmt := topS 3
theorem sc__of_one : FnScope ["op", "word"] ["op", "word"] (defScope s__of_one) := ⟨rfl, rfl, rfl, by decide +kernel, rfl, by decide +kernel, by decide +kernel⟩

abbrev s__related : Stmt := topS 4
theorem sc__related : FnScope ["op", "left", "right"] ["op", "left", "right"] (defScope s__related) := ⟨rfl, rfl, rfl, by decide +kernel, rfl, by decide +kernel, by decide +kernel⟩

abbrev s__of_two : Stmt := topS 5
theorem sc__of_two : FnScope ["op", "width", "left", "right"] ["op", "width", "left", "right"] (defScope s__of_two) := ⟨rfl, rfl, rfl, by decide +kernel, rfl, by decide +kernel, by decide +kernel⟩

abbrev s__divided : Stmt := topS 6
theorem sc__divided : FnScope ["op", "left", "right"] ["op", "left", "right"] (defScope s__divided) := ⟨rfl, rfl, rfl, by decide +kernel, rfl, by decide +kernel, by decide +kernel⟩

/-! ### the mathematics: what each operation is worth -/
def mask (w x : Int) : Int := Builtin.bitAnd x (1 * 2 ^ w.toNat - 1)
theorem mask_mod (w x : Int) : mask w x = x % 2 ^ w.toNat := by
  unfold mask
  rw [Int.one_mul]
  exact PySem.W.kbt_mask x w.toNat
theorem mask_id {w x : Int} (h0 : 0 ≤ x) (h1 : x < 2 ^ w.toNat) : mask w x = x := by
  rw [mask_mod]
  exact Int.emod_eq_of_lt h0 h1
theorem and_in {w x y : Int} (x0 : 0 ≤ x) (x1 : x < 2 ^ w.toNat) (y0 : 0 ≤ y) : 0 ≤ Builtin.bitAnd x y ∧ Builtin.bitAnd x y < 2 ^ w.toNat := by
  have h := bitAnd_range y x0
  rw [bitAnd_comm] at h
  exact ⟨h.1, Int.lt_of_le_of_lt h.2 x1⟩
theorem nat_lt {w : Int} {n : Nat} : ((n : Int) < 2 ^ w.toNat) ↔ n < 2 ^ w.toNat := by
  rw [show ((2 : Int) ^ w.toNat) = ((2 ^ w.toNat : Nat) : Int) by simp]
  exact Int.ofNat_lt
theorem or_in {w x y : Int} (x0 : 0 ≤ x) (x1 : x < 2 ^ w.toNat) (y0 : 0 ≤ y) (y1 : y < 2 ^ w.toNat) : 0 ≤ Builtin.bitOr x y ∧ Builtin.bitOr x y < 2 ^ w.toNat := by
  rw [Bits.bitOr_pp x0 y0]
  refine ⟨Int.natCast_nonneg _, nat_lt.mpr (Nat.or_lt_two_pow (nat_lt.mp ?_) (nat_lt.mp ?_))⟩ <;> omega
theorem xor_in {w x y : Int} (x0 : 0 ≤ x) (x1 : x < 2 ^ w.toNat) (y0 : 0 ≤ y) (y1 : y < 2 ^ w.toNat) : 0 ≤ Builtin.bitXor x y ∧ Builtin.bitXor x y < 2 ^ w.toNat := by
  rw [Bits.bitXor_pp x0 y0]
  refine ⟨Int.natCast_nonneg _, nat_lt.mpr (Nat.xor_lt_two_pow (nat_lt.mp ?_) (nat_lt.mp ?_))⟩ <;> omega
/-- a word of width w -/
def Word (w x : Int) : Prop := 0 ≤ x ∧ x < 2 ^ w.toNat
/-- op at width w over the words xs is worth z -/
inductive Val : Str → Int → List Int → Int → Prop
  | not {w x} : Val "not" w [x] (mask w (-x - 1))
  | neg {w x} : Val "neg" w [x] (mask w (-x))
  | wide {w x} : Val "wide" w [x] (mask w x)
  | pick1 {w l r} : Val "pick" w [1, l, r] l
  | pick0 {w l r} : Val "pick" w [0, l, r] r
  | add {w x y} : Val "+" w [x, y] (mask w (x + y))
  | sub {w x y} : Val "-" w [x, y] (mask w (x - y))
  | mul {w x y} (b : x < 2 ^ 64) (a : -(2 ^ 64) < x) : Val "*" w [x, y] (mask w (x * y))
  | and {w x y} (a : Word w x) (b : Word w y) : Val "&" w [x, y] (Builtin.bitAnd x y)
  | or {w x y} (a : Word w x) (b : Word w y) : Val "|" w [x, y] (Builtin.bitOr x y)
  | xor {w x y} (a : Word w x) (b : Word w y) : Val "^" w [x, y] (Builtin.bitXor x y)
  | shl {w x y} (a : Word w x) (b : 0 ≤ y) (c : 1 ≤ w) (d : w ≤ 8) (e : x.natAbs < 2 ^ 64) : Val "<<" w [x, y] (mask w (x * 2 ^ (if 8 < y then 8 else y).toNat))
  | shr {w x y} (a : Word w x) (b : 0 ≤ y) (c : 1 ≤ w) (d : w ≤ 8) : Val ">>" w [x, y] (x / 2 ^ (if 8 < y then 8 else y).toNat)
  | div0 {w x} (a : Word w x) : Val "div" w [x, 0] 0
  | rem0 {w x} (a : Word w x) : Val "rem" w [x, 0] 0
  | div {w x y} (a : Word w x) (b : Word w y) (c : y ≠ 0) (d : y < 1073741824) : Val "div" w [x, y] (x / y)
  | rem {w x y} (a : Word w x) (b : Word w y) (c : y ≠ 0) (d : y < 1073741824) : Val "rem" w [x, y] (x - x / y * y)
  | eq {w x y} : Val "==" w [x, y] (if decide (x = y) then 1 else 0)
  | ne {w x y} : Val "!=" w [x, y] (if decide (x = y) then 0 else 1)
  | lt {w x y} : Val "<" w [x, y] (if decide (x < y) then 1 else 0)
  | le {w x y} : Val "<=" w [x, y] (if decide (x ≤ y) then 1 else 0)
/-- which widths the operands have -/
inductive Shape : Str → Int → List Int → Prop
  | one {op w} (h : op = "not" ∨ op = "neg") : Shape op w [w]
  | wide {w v} (h0 : 1 ≤ v) (h1 : v ≤ 8) : Shape "wide" w [v]
  | shift {op w v} (h : op = "<<" ∨ op = ">>") (h0 : 1 ≤ v) (h1 : v ≤ 8) : Shape op w [w, v]
  | pick {w} : Shape "pick" w [1, w, w]
  | two {op w} (h : op ∈ (["+", "-", "*", "&", "|", "^", "div", "rem", "==", "!=", "<", "<="] : List Str)) : Shape op w [w, w]
/-- words of these widths -/
def Fits : List Int → List Int → Prop
  | [], [] => True
  | w :: ws, x :: xs => Word w x ∧ Fits ws xs
  | _, _ => False
theorem Fits.snoc : ∀ {ws xs : List Int} {w x : Int}, Fits ws xs → Word w x → Fits (ws ++ [w]) (xs ++ [x])
  | [], [], _, _, _, h => ⟨h, trivial⟩
  | _ :: _, _ :: _, _, _, ⟨a, b⟩, h => ⟨a, Fits.snoc b h⟩
  | [], _ :: _, _, _, h, _ => h.elim
  | _ :: _, [], _, _, h, _ => h.elim
theorem val_ex {op : Str} {w : Int} {ws xs : List Int} (h1 : 1 ≤ w) (h8 : w ≤ 8) (s : Shape op w ws) (f : Fits ws xs) : ∃ z, Val op w xs z := by
  have hs := small h1 h8
  cases s with
  | one h =>
    obtain ⟨x, rfl⟩ : ∃ x, xs = [x] := by
      match xs, f with
      | [x], _ => exact ⟨x, rfl⟩
    rcases h with rfl | rfl
    · exact ⟨_, .not⟩
    · exact ⟨_, .neg⟩
  | wide h0 h1 =>
    obtain ⟨x, rfl⟩ : ∃ x, xs = [x] := by
      match xs, f with
      | [x], _ => exact ⟨x, rfl⟩
    exact ⟨_, .wide⟩
  | shift h h0 h1' =>
    obtain ⟨x, y, rfl, a, b⟩ : ∃ x y, xs = [x, y] ∧ Word w x ∧ 0 ≤ y := by
      match xs, f with
      | [x, y], h => exact ⟨x, y, rfl, h.1, h.2.1.1⟩
    rcases h with rfl | rfl
    · exact ⟨_, .shl a b h1 h8 (by have := a.1; have := a.2; omega)⟩
    · exact ⟨_, .shr a b h1 h8⟩
  | pick =>
    obtain ⟨c, l, r, rfl, a⟩ : ∃ c l r, xs = [c, l, r] ∧ Word 1 c := by
      match xs, f with
      | [c, l, r], h => exact ⟨c, l, r, rfl, h.1⟩
    have a1 : 0 ≤ c := a.1
    have a2 : c < 2 := a.2
    have : c = 0 ∨ c = 1 := by omega
    rcases this with rfl | rfl
    · exact ⟨_, .pick0⟩
    · exact ⟨_, .pick1⟩
  | two h =>
    obtain ⟨x, y, rfl, a, b⟩ : ∃ x y, xs = [x, y] ∧ Word w x ∧ Word w y := by
      match xs, f with
      | [x, y], h => exact ⟨x, y, rfl, h.1, h.2.1⟩
    have a0 := a.1
    have a1 := a.2
    have b0 := b.1
    have b1 := b.2
    simp only [List.mem_cons, List.not_mem_nil, or_false] at h
    rcases h with rfl | rfl | rfl | rfl | rfl | rfl | rfl | rfl | rfl | rfl | rfl | rfl
    · exact ⟨_, .add⟩
    · exact ⟨_, .sub⟩
    · exact ⟨_, .mul (by omega) (by omega)⟩
    · exact ⟨_, .and a b⟩
    · exact ⟨_, .or a b⟩
    · exact ⟨_, .xor a b⟩
    · by_cases e : y = 0
      · subst e
        exact ⟨_, .div0 a⟩
      · exact ⟨_, .div a b e (by omega)⟩
    · by_cases e : y = 0
      · subst e
        exact ⟨_, .rem0 a⟩
      · exact ⟨_, .rem a b e (by omega)⟩
    · exact ⟨_, .eq⟩
    · exact ⟨_, .ne⟩
    · exact ⟨_, .lt⟩
    · exact ⟨_, .le⟩
theorem pow_pos' (n : Nat) : (0 : Int) < 2 ^ n := Int.pow_pos (by decide)
theorem shl0 {w x k : Int} (h : w ≤ k) : mask w (x * 2 ^ k.toNat) = mask w 0 := by
  rw [mask_mod, mask_mod, Int.zero_emod]
  obtain ⟨j, e⟩ : ∃ j, k.toNat = w.toNat + j := ⟨k.toNat - w.toNat, by omega⟩
  rw [e, Int.pow_add]
  refine Int.emod_eq_zero_of_dvd ⟨x * 2 ^ j, ?_⟩
  rw [Int.mul_left_comm]
theorem pow_mono {m n : Nat} (h : m ≤ n) : (2 : Int) ^ m ≤ 2 ^ n := by
  have := Nat.pow_le_pow_right (show 0 < 2 by decide) h
  have e : ∀ k : Nat, ((2 : Int) ^ k) = ((2 ^ k : Nat) : Int) := fun k => by simp
  rw [e, e]
  omega
theorem shr0 {w x k : Int} (a : Word w x) (h : w ≤ k) : x / 2 ^ k.toNat = mask w 0 := by
  rw [mask_mod, Int.zero_emod]
  have := @pow_mono w.toNat k.toNat (by omega)
  exact Int.ediv_eq_zero_of_lt a.1 (Int.lt_of_lt_of_le a.2 this)
theorem shr1 {w x : Int} {k : Nat} (a : Word w x) : 0 ≤ x / 2 ^ k ∧ x / 2 ^ k < 2 ^ w.toNat :=
  ⟨Int.ediv_nonneg a.1 (Int.le_of_lt (pow_pos' k)), Int.lt_of_le_of_lt (Int.ediv_le_self _ a.1) a.2⟩
/-! ### promises -/
/-- the names that the words' operations read -/
structure TWord (K : PySem.W.Frag) (mg : Str → Option Value) (aR : Addr) : Prop where
  z_len : mg "len" = none
  g_RELATIONS : mg "RELATIONS" = some (.ref aR)
  q_RELATIONS : ∀ H, SqT K H aR [.str "==", .str "!=", .str "<", .str "<="]
section
variable {P : Program} {w : World} {K : PySem.W.Frag} {mg : Str → Option Value} {base : Heap} {aR : Addr}
theorem TWord.r_RELATIONS (_ : TWord K mg aR) : RelV (.ref aR) (.ref aR) := rfl
/-- told of a word of one operation: the heap grows -/
def spDiv : Sp := fun vs H Q _ => ∃ (o : Str) (x y z : Int) (w : Int), vs = [.str o, .int x, .int y] ∧ (o = "div" ∨ o = "rem") ∧ Val o w [x, y] z ∧ ∀ H', Same H H' → Q (.int z) H'
theorem ok_divided {f : Addr} {fd : FuncData} (F : Fun K "_divided" "_divided" s__divided f fd) : FnOk P w K mg base CX0 1 f fd ["op", "left", "right"] spDiv := by
  refine F.ok sc__divided (fun vs H Q E h => ?_) (fun cdv A outer s H vs Q E hr h => ?_)
  · obtain ⟨o, x, y, z, w, rfl, _⟩ := h
    rfl
  · obtain ⟨o, x, y, z, w, rfl, ho, v, q⟩ := h
    refine ⟨_, 
      (pss_cons (ps_if (pt_cmpR op_eq (pv 2) pe_int (nomark _)) 
       (pss_one (ps_ret pe_int)) pss_nil)
      (pss_one (ps_ret (pe_ifExp (pt_cmpR op_eq (pv 0) pe_str (nomark _)) (pe_op op_fdiv (pv 1) (pv 2)) (pe_op op_mod (pv 1) (pv 2)))))), ?_⟩
    cases v with
    | div0 a => walk_at "rd"; exact q _ (Same.refl _)
    | rem0 a => walk_at "rd"; exact q _ (Same.refl _)
    | div a b c d =>
      have hd : ¬ (decide (V.int y = V.int 0) = true) := fun k => c (V.int.inj (of_decide_eq_true k))
      have hc : CDiv x y := ⟨by have := b.1; omega, d⟩
      walk_at "rd"
      exact q _ (Same.refl _)
    | rem a b c d =>
      have hd : ¬ (decide (V.int y = V.int 0) = true) := fun k => c (V.int.inj (of_decide_eq_true k))
      have hc : 0 < y := by have := b.1; omega
      walk_at "rd"
      have e : x % y = x - x / y * y := by
        have := Int.emod_def x y
        rw [Int.mul_comm] at this
        exact this
      rw [e]
      exact q _ (Same.refl _)
    | _ => exfalso; rcases ho with ho | ho <;> exact absurd ho (by decide +kernel)
def spOne : Sp := fun vs H Q _ => ∃ (o : Str) (x z : Int) (w : Int), vs = [.str o, .int x] ∧ (o = "not" ∨ o = "neg" ∨ o = "wide") ∧ Val o w [x] z ∧ ∀ u, mask w u = z → Q (.int u) H
theorem ok_of_one {f : Addr} {fd : FuncData} (F : Fun K "_of_one" "_of_one" s__of_one f fd) : FnOk P w K mg base CX0 1 f fd ["op", "word"] spOne := by
  refine F.ok sc__of_one (fun vs H Q E h => ?_) (fun cdv A outer s H vs Q E hr h => ?_)
  · obtain ⟨o, x, z, w, rfl, _⟩ := h
    rfl
  · obtain ⟨o, x, z, w, rfl, ho, v, q⟩ := h
    refine ⟨_, 
      (pss_cons (ps_if (pt_cmpR op_eq (pv 0) pe_str (nomark _)) 
       (pss_one (ps_ret (pe_un un_inv (pv 1)))) pss_nil)
      (pss_cons (ps_if (pt_cmpR op_eq (pv 0) pe_str (nomark _)) 
       (pss_one (ps_ret (pe_un un_neg (pv 1)))) pss_nil)
      (pss_one (ps_ret (pv 1))))), ?_⟩
    cases v <;> first
      | (exfalso; rcases ho with ho | ho | ho <;> exact absurd ho (by decide +kernel))
      | (walk_at "rd"; exact q _ rfl)
def spRel : Sp := fun vs H Q _ => ∃ (o : Str) (x y z : Int) (w : Int), vs = [.str o, .int x, .int y] ∧ (o = "==" ∨ o = "!=" ∨ o = "<" ∨ o = "<=") ∧ Val o w [x, y] z ∧ ∀ b : Bool, (if b then 1 else 0 : Int) = z → Q (.bl b) H
theorem ok_related {f : Addr} {fd : FuncData} (F : Fun K "_related" "_related" s__related f fd) : FnOk P w K mg base CX0 1 f fd ["op", "left", "right"] spRel := by
  refine F.ok sc__related (fun vs H Q E h => ?_) (fun cdv A outer s H vs Q E hr h => ?_)
  · obtain ⟨o, x, y, z, w, rfl, _⟩ := h
    rfl
  · obtain ⟨o, x, y, z, w, rfl, ho, v, q⟩ := h
    refine ⟨_, 
      (pss_cons (ps_if (pt_cmpR op_eq (pv 0) pe_str (nomark _)) 
       (pss_one (ps_ret (pe_cmpR op_eq (pv 1) (pv 2) (nomark _)))) pss_nil)
      (pss_cons (ps_if (pt_cmpR op_eq (pv 0) pe_str (nomark _)) 
       (pss_one (ps_ret (pe_cmpR op_ne (pv 1) (pv 2) (nomark _)))) pss_nil)
      (pss_cons (ps_if (pt_cmpR op_eq (pv 0) pe_str (nomark _)) 
       (pss_one (ps_ret (pe_cmpR op_lt (pv 1) (pv 2) (nomark _)))) pss_nil)
      (pss_one (ps_ret (pe_cmpR op_le (pv 1) (pv 2) (nomark _))))))), ?_⟩
    cases v <;> first
      | (exfalso; rcases ho with ho | ho | ho | ho <;> exact absurd ho (by decide +kernel))
      | skip
    case eq => walk_at "rd"; exact q _ (by simp)
    case ne => walk_at "rd"; exact q _ (by by_cases e : x = y <;> simp [e])
    case lt => walk_at "rd"; exact q _ rfl
    case le => walk_at "rd"; exact q _ rfl
def spTwo : Sp := fun vs H Q _ => ∃ (o : Str) (x y z : Int) (w : Int), vs = [.str o, .int w, .int x, .int y] ∧ ¬ (o = "==" ∨ o = "!=" ∨ o = "<" ∨ o = "<=") ∧ Val o w [x, y] z ∧ ∀ (u : Int) (H' : Hp), Same H H' → mask w u = z → Q (.int u) H'
theorem ok_of_two {f : Addr} {fd : FuncData} (F : Fun K "_of_two" "_of_two" s__of_two f fd) (c__divided : Cal P w K mg base "_divided" 1 spDiv) : FnOk P w K mg base CX0 2 f fd ["op", "width", "left", "right"] spTwo := by
  refine F.ok sc__of_two (fun vs H Q E h => ?_) (fun cdv A outer s H vs Q E hr h => ?_)
  · obtain ⟨o, x, y, z, w, rfl, _⟩ := h
    rfl
  · obtain ⟨o, x, y, z, w, rfl, ho, v, q⟩ := h
    refine ⟨_, 
      (pss_cons (ps_if (pt_cmpR op_eq (pv 0) pe_str (nomark _)) 
       (pss_one (ps_ret (pe_op op_add (pv 2) (pv 3)))) pss_nil)
      (pss_cons (ps_if (pt_cmpR op_eq (pv 0) pe_str (nomark _)) 
       (pss_one (ps_ret (pe_op op_sub (pv 2) (pv 3)))) pss_nil)
      (pss_cons (ps_if (pt_cmpR op_eq (pv 0) pe_str (nomark _)) 
       (pss_one (ps_ret (pe_op op_mul (pv 2) (pv 3)))) pss_nil)
      (pss_cons (ps_if (pt_cmpR op_eq (pv 0) pe_str (nomark _)) 
       (pss_one (ps_ret (pe_op op_and (pv 2) (pv 3)))) pss_nil)
      (pss_cons (ps_if (pt_cmpR op_eq (pv 0) pe_str (nomark _)) 
       (pss_one (ps_ret (pe_op op_or (pv 2) (pv 3)))) pss_nil)
      (pss_cons (ps_if (pt_cmpR op_eq (pv 0) pe_str (nomark _)) 
       (pss_one (ps_ret (pe_op op_xor (pv 2) (pv 3)))) pss_nil)
      (pss_cons (ps_if (pt_cmpR (r := rIn K false) op_in_seq (pv 0) (pe_tup (pa_cons pe_str (pa_cons pe_str pa_nil))) (by rfl)) 
       (pss_one (ps_ret (Zn.pe_cal c__divided (hr.mono (by decide)) (by rfl) (pa_cons (pv 0) (pa_cons (pv 2) (pa_cons (pv 3) pa_nil)))))) pss_nil)
      (pss_cons (ps_if (pt_cmpR op_ge (pv 3) (pv 1) (nomark _)) 
       (pss_one (ps_ret pe_int)) pss_nil)
      (pss_one (ps_ret (pe_ifExp (pt_cmpR op_eq (pv 0) pe_str (nomark _)) (pe_op op_shl (pv 2) (pv 3)) (pe_op op_shr (pv 2) (pv 3))))))))))))), ?_⟩
    cases v with
    | add => walk_at "rd"; exact q _ _ (Same.refl _) rfl
    | sub => walk_at "rd"; exact q _ _ (Same.refl _) rfl
    | mul b a =>
      have hc : CMul x y := mulL a b
      walk_at "rd"; exact q _ _ (Same.refl _) rfl
    | and a b => walk_at "rd"; exact q _ _ (Same.refl _) (mask_id (and_in a.1 a.2 b.1).1 (and_in a.1 a.2 b.1).2)
    | or a b => walk_at "rd"; exact q _ _ (Same.refl _) (mask_id (or_in a.1 a.2 b.1 b.2).1 (or_in a.1 a.2 b.1 b.2).2)
    | xor a b => walk_at "rd"; exact q _ _ (Same.refl _) (mask_id (xor_in a.1 a.2 b.1 b.2).1 (xor_in a.1 a.2 b.1 b.2).2)
    | shl a b c d e =>
      walk_at "rd"
      refine ite2 (fun h => ?_) (fun h => ?_)
      · have h := of_decide_eq_true h
        walk_at "rd"
        exact q _ _ (by walk_at "sm") (shl0 (by split <;> omega)).symm
      · have h : ¬ w ≤ y := fun k => h (decide_eq_true k)
        have hc : CPow x y := ⟨b, by omega, e⟩
        have e8 : (if 8 < y then 8 else y) = y := if_neg (by omega)
        walk_at "rd"
        exact q _ _ (by walk_at "sm") (by rw [e8])
    | shr a b c d =>
      walk_at "rd"
      refine ite2 (fun h => ?_) (fun h => ?_)
      · have h := of_decide_eq_true h
        walk_at "rd"
        exact q _ _ (by walk_at "sm") (shr0 a (by split <;> omega)).symm
      · have h : ¬ w ≤ y := fun k => h (decide_eq_true k)
        have e8 : (if 8 < y then 8 else y) = y := if_neg (by omega)
        walk_at "rd"
        exact q _ _ (by walk_at "sm") (by rw [e8]; exact mask_id (shr1 a).1 (shr1 a).2)
    | div0 a =>
      walk_at "rd"
      exact ⟨_, x, 0, 0, w, rfl, .inl rfl, .div0 a, fun H' s => q _ _ (.trans (by walk_at "sm") s) (mask_id (Int.le_refl _) (pow_pos' _))⟩
    | rem0 a =>
      walk_at "rd"
      exact ⟨_, x, 0, 0, w, rfl, .inr rfl, .rem0 a, fun H' s => q _ _ (.trans (by walk_at "sm") s) (mask_id (Int.le_refl _) (pow_pos' _))⟩
    | div a b c d =>
      walk_at "rd"
      exact ⟨_, x, y, _, w, rfl, .inl rfl, .div a b c d, fun H' s => q _ _ (.trans (by walk_at "sm") s) (mask_id (Int.ediv_nonneg a.1 b.1) (Int.lt_of_le_of_lt (Int.ediv_le_self _ a.1) a.2))⟩
    | rem a b c d =>
      walk_at "rd"
      have e : x - x / y * y = x % y := by
        have := Int.emod_def x y
        rw [Int.mul_comm] at this
        exact this.symm
      have y0 := b.1
      exact ⟨_, x, y, _, w, rfl, .inr rfl, .rem a b c d, fun H' s => q _ _ (.trans (by walk_at "sm") s) (by
        rw [e]
        exact mask_id (Int.emod_nonneg _ c) (Int.lt_trans (Int.emod_lt_of_pos _ (by omega)) b.2))⟩
    | _ => exfalso; exact ho (by decide +kernel)
/-- an operation of the program, the words as they are told -/
def spRes : Sp := fun vs H Q _ => ∃ (o : Str) (w z : Int) (xs : List Int), vs = .str o :: .int w :: xs.map V.int ∧ xs.length ≤ 3 ∧ 1 ≤ w ∧ w ≤ 8 ∧ Val o w xs z ∧ ∀ H', Same H H' → Q (.int z) H'
/-- the same, the words in a tuple -/
def spRes0 : Sp := fun vs H Q _ => ∃ (o : Str) (p : Addr) (w z : Int) (xs : List Int), vs = [.str o, .int w, .ref p] ∧ H p = some (.tup (xs.map V.int)) ∧ 1 ≤ w ∧ w ≤ 8 ∧ Val o w xs z ∧ ∀ H', Same H H' → Q (.int z) H'
theorem body_result {A : Around} {outer : List Env} {s : Shared} {f : Addr} {cdv : Value} {H : Hp} {vs : List V} {Q : VK} {E : XK} (c__of_one : Cal P w K mg base "_of_one" 1 spOne) (c__related : Cal P w K mg base "_related" 1 spRel) (c__of_two : Cal P w K mg base "_of_two" 2 spTwo) (T : TWord K mg aR)
    (hr : Room 2 (A.deeper (envOfC "result" (defScope s_result) s.heap.objs.size f cdv))) (h : spRes0 vs H Q E) :
    ∃ t, PSs (cxOf CX0 P w K mg base ["op", "width", "words", "choice", "left", "right"] "result" (defScope s_result) f cdv A outer s H E).nox (defBody s_result) t ∧ t { nx := fun _ H' => Q .non H', rt := Q } (start ["op", "width", "words", "choice", "left", "right"] vs) H := by
  obtain ⟨o, p, w, z, xs, rfl, hp, w1, w8, v, q⟩ := h
  have hRel := T.q_RELATIONS H
  refine ⟨_, 
      (pss_cons (ps_if (pt_cmpR op_eq (pv 0) pe_str (nomark _)) 
       (pss_cons (ps_asg (pv 2) (pg_tup (by rfl) (pgs_cons (pg_name (i := 3) sc_result.nd rfl (Or.inl rfl)) (pgs_cons (pg_name (i := 4) sc_result.nd rfl (Or.inl rfl)) (pgs_cons (pg_name (i := 5) sc_result.nd rfl (Or.inl rfl)) pgs_nil)))))
       (pss_one (ps_ret (pe_ifExp (pt_cmpR op_eq (pv 3) pe_int (nomark _)) (pv 4) (pv 5))))) pss_nil)
      (pss_cons (ps_if (pt_cmpR op_eq (pe_callB call_len_seq (by rfl) T.z_len (by decide +kernel) (pa_cons (pv 2) pa_nil)) pe_int (nomark _)) 
       (pss_one (ps_ret (pe_op op_and (Zn.pe_cal c__of_one (hr.mono (by decide)) (by rfl) (pa_cons (pv 0) (pa_cons (pe_ix (r := rIxT K) ix_tup (pv 2) pe_int (fun _ _ => rfl)) pa_nil))) (pe_op op_sub (pe_op op_shl pe_int (pv 1)) pe_int)))) pss_nil)
      (pss_cons (ps_asg (pv 2) (pg_tup (by rfl) (pgs_cons (pg_name (i := 4) sc_result.nd rfl (Or.inl rfl)) (pgs_cons (pg_name (i := 5) sc_result.nd rfl (Or.inl rfl)) pgs_nil))))
      (pss_cons (ps_if (pt_cmpR (r := rIn K false) op_in_seq (pv 0) (pe_glob (by rfl) T.g_RELATIONS T.r_RELATIONS) (by rfl)) 
       (pss_one (ps_ret (pe_ifExp (pt_val (Zn.pe_cal c__related (hr.mono (by decide)) (by rfl) (pa_cons (pv 0) (pa_cons (pv 4) (pa_cons (pv 5) pa_nil))))) pe_int pe_int))) pss_nil)
      (pss_one (ps_ret (pe_op op_and (Zn.pe_cal c__of_two (hr.mono (by decide)) (by rfl) (pa_cons (pv 0) (pa_cons (pv 1) (pa_cons (pv 4) (pa_cons (pv 5) pa_nil))))) (pe_op op_sub (pe_op op_shl pe_int (pv 1)) pe_int)))))))), ?_⟩
  have hc : CPow 1 w := ⟨by omega, by omega, by decide⟩
  have v' := v
  cases v with
  | not =>
    have hp : H p = some (.tup [.int _]) := hp
    walk_at "rd"
    refine ⟨_, _, _, w, rfl, .inl rfl, .not, fun u e => ?_⟩
    walk_at "rd"
    show Q (.int (mask w u)) H
    rw [e]
    exact q _ (Same.refl _)
  | neg =>
    have hp : H p = some (.tup [.int _]) := hp
    walk_at "rd"
    refine ⟨_, _, _, w, rfl, .inr (.inl rfl), .neg, fun u e => ?_⟩
    walk_at "rd"
    show Q (.int (mask w u)) H
    rw [e]
    exact q _ (Same.refl _)
  | wide =>
    have hp : H p = some (.tup [.int _]) := hp
    walk_at "rd"
    refine ⟨_, _, _, w, rfl, .inr (.inr rfl), .wide, fun u e => ?_⟩
    walk_at "rd"
    show Q (.int (mask w u)) H
    rw [e]
    exact q _ (Same.refl _)
  | pick1 =>
    have hp : H p = some (.tup [.int 1, .int _, .int _]) := hp
    walk_at "rd"
    exact q _ (Same.refl _)
  | pick0 =>
    have hp : H p = some (.tup [.int 0, .int _, .int _]) := hp
    walk_at "rd"
    exact q _ (Same.refl _)
  | _ =>
    have hp : H p = some (.tup [.int _, .int _]) := hp
    walk_at "rd"
    first
      | (refine ⟨_, _, _, _, w, rfl, by decide +kernel, v', fun u H' s e => ?_⟩
         walk_at "rd"
         show Q (.int (mask w u)) H'
         rw [e]
         exact q _ (.trans (by walk_at "sm") s))
      | (refine ⟨_, _, _, _, w, rfl, by decide +kernel, v', fun b e => ?_⟩
         cases b
         · walk_at "rd"
           rw [← e] at q
           exact q _ (by walk_at "sm")
         · walk_at "rd"
           rw [← e] at q
           exact q _ (by walk_at "sm"))
theorem cal_result {f : Addr} {fd : FuncData} (F : Fun K "result" "result" s_result f fd) (hm : mg "result" = some (.ref f)) (c__of_one : Cal P w K mg base "_of_one" 1 spOne) (c__related : Cal P w K mg base "_related" 1 spRel) (c__of_two : Cal P w K mg base "_of_two" 2 spTwo) (T : TWord K mg aR) :
    Cal P w K mg base "result" 3 spRes := by
  refine ⟨f, hm, ?_, F.kp⟩
  obtain ⟨oc, od, kV, doc, pm, an, cdv, ct, osl, rfl, lk, hcd⟩ := F.ex
  have G := StX.fn_star (P := P) (w := w) (mg := mg) (base := base) (k := 2) (ps := ["op", "width"]) (pv := "words") (CX := CX0) (sp := spRes0) lk hcd sc_result (StX.cxUp_none) (StX.bind_star2 (B := fun l => bindArgs (PySem.W.fnOf "result" "result" (defArgs s_result) (defBody s_result) (defScope s_result) .none kV doc pm an cdv ct) ⟨l, []⟩) (p1 := "op") (p2 := "width") (pv := "words") (fun _ _ => rfl) (fun _ _ _ _ => rfl)) (fun A outer s H vs Q E hr h => by
    obtain ⟨t, h1, h2⟩ := body_result (P := P) (w := w) (mg := mg) (base := base) c__of_one c__related c__of_two T hr h
    exact ⟨t, h1.nox, h2⟩)
  refine G.imp fun vs H Q E h => ?_
  obtain ⟨o, wd, z, xs, rfl, hl, w1, w8, v, q⟩ := h
  refine ⟨[.str o, .int wd], xs.map V.int, rfl, rfl, len_ok (by rw [List.length_map]; omega), fun p hp => ?_⟩
  exact ⟨o, p, wd, z, xs, rfl, upd_same, w1, w8, v, fun H' s => q H' (.trans (same_new hp) s)⟩
end
end Zn
namespace Zn
open PySem PySem.Spec PyProof.Rows L2 TL
abbrev s__law_pick : Stmt := topS 13
theorem sc__law_pick : FnScope ["_law_d", "_law_row"] ["_law_d", "_law_row"] (defScope s__law_pick) := ⟨rfl, rfl, rfl, by decide +kernel, rfl, by decide +kernel, by decide +kernel⟩

abbrev s__law_pop : Stmt := topS 14
theorem sc__law_pop : FnScope ["_law_d", "_law_row"] ["_law_d", "_law_row"] (defScope s__law_pop) := ⟨rfl, rfl, rfl, by decide +kernel, rfl, by decide +kernel, by decide +kernel⟩

abbrev s__law_pool : Stmt := topS 15
theorem sc__law_pool : FnScope ["_law_text"] [] (defScope s__law_pool) := ⟨rfl, rfl, rfl, by decide +kernel, rfl, by decide +kernel, by decide +kernel⟩

section
variable {P : Program} {w : World} {K : PySem.W.Frag} {mg : Str → Option Value} {base : Heap}
/-- one of a row, by a draw -/
def spPick (K : PySem.W.Frag) : Sp := fun vs H Q _ => ∃ (d c a : Addr) (xs : List V), vs = [.ref d, .ref a] ∧ Drw H d c ∧
  a ≠ d ∧ SqL K H a xs ∧ xs ≠ [] ∧ xs.length ≤ 1000 ∧ ∀ x zs, x ∈ xs → Drw (upd H d (.lst zs)) d c → Q x (upd H d (.lst zs))
theorem ok_pick {f : Addr} {fd : FuncData} (F : Fun K "_law_pick" "_law_pick" s__law_pick f fd) (c__law_draw : Cal P w K mg base "_law_draw" 1 spDraw) (T : TDraw mg) : FnOk P w K mg base CX0 2 f fd ["_law_d", "_law_row"] (spPick K) := by
  refine F.ok sc__law_pick (fun vs H Q E h => ?_) (fun cdv A outer s H vs Q E hr h => ?_)
  · obtain ⟨d, c, a, xs, rfl, _⟩ := h
    rfl
  · obtain ⟨d, c, a, xs, rfl, hD, nad, hS, hne, hl, q⟩ := h
    have hpos := List.length_pos_iff.mpr hne
    refine ⟨_, 
      (pss_one (ps_ret (pe_ix (r := rIxL K) ix_list (pv 1) (Zn.pe_cal c__law_draw (hr.mono (by decide)) (by rfl) (pa_cons (pv 0) (pa_cons (pe_callB call_len_seq (by rfl) T.z_len (by decide +kernel) (pa_cons (pv 1) pa_nil)) pa_nil))) (fun _ _ => rfl)))), ?_⟩
    walk_at "rs"
    refine ⟨d, c, _, rfl, hD, by omega, by omega, fun n zs n0 n1 D1 => ?_⟩
    have hj : n.toNat < xs.length := by omega
    refine r_ixL (v := xs[n.toNat]) ((keep_upd (d := d)).seq nad hS) (atI_lt (j := n.toNat) (by omega) (List.getElem?_eq_getElem hj)) ?_
    exact q _ _ (List.getElem_mem _) D1
theorem erase_map {α β : Type} (f : α → β) : ∀ (l : List α) (i : Nat), (l.map f).eraseIdx i = (l.eraseIdx i).map f
  | [], _ => rfl
  | _ :: _, 0 => rfl
  | x :: l, i + 1 => congrArg (f x :: ·) (erase_map f l i)
theorem erase_not {α : Type} : ∀ {l : List α} {i : Nat}, l.Nodup → (h : i < l.length) → l[i] ∉ l.eraseIdx i
  | x :: l, 0, n, _ => (List.nodup_cons.mp n).1
  | x :: l, i + 1, n, h => fun m => by
    have hi : i < l.length := Nat.lt_of_succ_lt_succ h
    rcases List.mem_cons.mp m with e | m
    · have e : l[i] = x := e
      exact (List.nodup_cons.mp n).1 (e ▸ List.getElem_mem hi)
    · exact erase_not (List.nodup_cons.mp n).2 hi m
/-- names that are still free -/
structure PoolAt (H : Hp) (pl : Addr) (ps : List Str) : Prop where
  at_ : H pl = some (.lst (ps.map V.str))
  nd : ps.Nodup
  ok : ∀ s ∈ ps, okB s = true
def spPop : Sp := fun vs H Q _ => ∃ (d c pl : Addr) (ps : List Str), vs = [.ref d, .ref pl] ∧ Drw H d c ∧ pl ≠ d ∧ pl ≠ c ∧ PoolAt H pl ps ∧ 1 ≤ ps.length ∧ ps.length ≤ 1000 ∧
  ∀ (H' : Hp) (s : Str) (qs : List Str), Kp [d, pl] H H' → Drw H' d c → PoolAt H' pl qs → s ∈ ps → s ∉ qs → (∀ x ∈ qs, x ∈ ps) → qs.length + 1 = ps.length → okB s = true → Q (.str s) H'
theorem ok_pop {f : Addr} {fd : FuncData} (F : Fun K "_law_pop" "_law_pop" s__law_pop f fd) (c__law_draw : Cal P w K mg base "_law_draw" 1 spDraw) (T : TDraw mg) : FnOk P w K mg base CX0 2 f fd ["_law_d", "_law_row"] spPop := by
  refine F.ok sc__law_pop (fun vs H Q E h => ?_) (fun cdv A outer s H vs Q E hr h => ?_)
  · obtain ⟨d, c, a, xs, rfl, _⟩ := h
    rfl
  · obtain ⟨d, c, pl, ps, rfl, hD, npd, npc, ⟨hp, nd, ok⟩, h1, h2, q⟩ := h
    refine ⟨_, 
      (pss_one (ps_ret (pe_bm PySem.F.plainAttrs_list PySem.F.slot_list_pop PySem.F.type_list_pop mt_popAt (pv 1) (pa_cons (Zn.pe_cal c__law_draw (hr.mono (by decide)) (by rfl) (pa_cons (pv 0) (pa_cons (pe_callB call_len_seq (by rfl) T.z_len (by decide +kernel) (pa_cons (pv 1) pa_nil)) pa_nil))) pa_nil)))), ?_⟩
    walk_at "rs"
    refine ⟨d, c, _, rfl, hD, by rw [List.length_map]; omega, by rw [List.length_map]; omega, fun n zs n0 n1 D1 => ?_⟩
    rw [List.length_map] at n1
    have hj : n.toNat < ps.length := by omega
    have hp2 : upd H d (.lst zs) pl = some (.lst (ps.map V.str)) := (upd_ne npd).trans hp
    walk_at "rs"
    refine r_popAt hp2 n0 (by rw [List.length_map]; omega) (by rw [List.length_map]; omega) (y := .str ps[n.toNat]) (by rw [List.getElem?_map, List.getElem?_eq_getElem hj]; rfl) ?_
    have k0 : Kp [d, pl] H (upd H d (.lst zs)) := .drw hD (by simp)
    refine q _ _ (ps.eraseIdx n.toNat) (k0.set (by simp) hp2) (D1.upd npd.symm npc.symm) ⟨?_, nd.eraseIdx _, fun s hs => ok s (List.mem_of_mem_eraseIdx hs)⟩ (List.getElem_mem _) ?_ (fun x hx => List.mem_of_mem_eraseIdx hx) ?_ (ok _ (List.getElem_mem _))
    · rw [upd_same, erase_map]
    · exact erase_not nd hj
    · rw [List.length_eraseIdx_of_lt hj]
      omega
def spPool : Sp := fun vs H Q _ => vs = [] ∧ ∀ (H' : Hp) (p : Addr) (ps : List Str), Same H H' → H p = none → PoolAt H' p ps → 67 ≤ ps.length → ps.length ≤ 1000 → Q (.ref p) H'
theorem ok_pool {f : Addr} {fd : FuncData} (F : Fun K "_law_pool" "_law_pool" s__law_pool f fd) (T : TDraw mg) : FnOk P w K mg base CX0 1 f fd [] spPool := by
  refine F.ok sc__law_pool (fun vs H Q E h => ?_) (fun cdv A outer s H vs Q E hr h => ?_)
  · obtain ⟨rfl, _⟩ := h
    rfl
  · obtain ⟨rfl, q⟩ := h
    refine ⟨_, 
      (pss_cons (ps_set (i := 0) sc__law_pool.nd rfl (Or.inl rfl) pe_str)
      (pss_cons (ps_set (i := 0) sc__law_pool.nd rfl (Or.inl rfl) (pe_op op_add_str (pv 0) pe_str))
      (pss_one (ps_ret (pe_bm PySem.F.plainAttrs_str PySem.F.slot_str_split PySem.F.type_str_split mt_split (pe_op op_add_str (pv 0) pe_str) (pa_cons pe_str pa_nil)))))), ?_⟩
    walk_at "rs"
    refine ⟨by decide +kernel, ?_⟩
    walk_at "rs"
    refine ⟨by decide +kernel, ?_⟩
    walk_at "rs"
    refine ⟨by decide +kernel, by decide +kernel, fun p hp => ?_⟩
    walk_at "rs"
    refine q _ p _ (same_new hp) hp ⟨upd_same, by decide +kernel, by decide +kernel⟩ (by decide +kernel) (by decide +kernel)
end
end Zn
namespace Zn
open PySem PySem.Spec PyProof.Rows L2 TL
abbrev s_turns : Stmt := topS 8
theorem sc_turns : FnScope ["shape", "limit", "words", "_", "counted", "op", "changes", "name", "width", "difference", "word", "many"] ["shape", "limit", "words"] (defScope s_turns) := ⟨rfl, rfl, rfl, by decide +kernel, rfl, by decide +kernel, by decide +kernel⟩

abbrev s_left_with : Stmt := topS 9
theorem sc_left_with : FnScope ["shape", "limit", "words", "many", "found", "_", "width", "difference", "word"] ["shape", "limit", "words"] (defScope s_left_with) := ⟨rfl, rfl, rfl, by decide +kernel, rfl, by decide +kernel, by decide +kernel⟩

abbrev s__law_is_int : Stmt := topS 16
theorem sc__law_is_int : FnScope ["_law_thing"] ["_law_thing"] (defScope s__law_is_int) := ⟨rfl, rfl, rfl, by decide +kernel, rfl, by decide +kernel, by decide +kernel⟩

abbrev s__law_holds : Stmt := topS 17
theorem sc__law_holds : FnScope ["_law_op", "_law_left", "_law_right_here"] ["_law_op", "_law_left", "_law_right_here"] (defScope s__law_holds) := ⟨rfl, rfl, rfl, by decide +kernel, rfl, by decide +kernel, by decide +kernel⟩

abbrev s__law_stepped : Stmt := topS 18
theorem sc__law_stepped : FnScope ["_law_shape_here", "_law_spot", "_law_limit_here", "_law_words_here", "_law_now", "_law_times", "_law_k"] ["_law_shape_here", "_law_spot", "_law_limit_here", "_law_words_here"] (defScope s__law_stepped) := ⟨rfl, rfl, rfl, by decide +kernel, rfl, by decide +kernel, by decide +kernel⟩

abbrev s__law_right : Stmt := topS 19
theorem sc__law_right : FnScope ["_law_shape_here", "_law_spot", "_law_limit_here", "_law_words_here", "_law_due", "_law_behind", "_law_told", "_law_left", "_law_k"] ["_law_shape_here", "_law_spot", "_law_limit_here", "_law_words_here"] (defScope s__law_right) := ⟨rfl, rfl, rfl, by decide +kernel, rfl, by decide +kernel, by decide +kernel⟩

abbrev s__law_some_word : Stmt := topS 20
theorem sc__law_some_word : FnScope ["_law_d", "_law_width", "_law_way"] ["_law_d", "_law_width"] (defScope s__law_some_word) := ⟨rfl, rfl, rfl, by decide +kernel, rfl, by decide +kernel, by decide +kernel⟩

abbrev s__law_shape : Stmt := topS 21
theorem sc__law_shape : FnScope ["_law_d", "_law_width", "_law_many", "_law_spot", "_law_pool_here", "_law_names", "_law_k", "_law_changes", "_law_wide", "_law_limit_here", "_law_op"] ["_law_d", "_law_width"] (defScope s__law_shape) := ⟨rfl, rfl, rfl, by decide +kernel, rfl, by decide +kernel, by decide +kernel⟩

abbrev s__law_limit : Stmt := topS 22
theorem sc__law_limit : FnScope ["_law_d", "_law_shape_here", "_law_width"] ["_law_d", "_law_shape_here", "_law_width"] (defScope s__law_limit) := ⟨rfl, rfl, rfl, by decide +kernel, rfl, by decide +kernel, by decide +kernel⟩

abbrev s__law_words : Stmt := topS 23
theorem sc__law_words : FnScope ["_law_d", "_law_shape_here", "_law_spot", "_law_limit_here", "_law_words_here", "_law_change", "_law_full", "_law_way"] ["_law_d", "_law_shape_here", "_law_spot", "_law_limit_here"] (defScope s__law_words) := ⟨rfl, rfl, rfl, by decide +kernel, rfl, by decide +kernel, by decide +kernel⟩

abbrev s_law : Stmt := topS 25
theorem sc_law : FnScope ["_law_script", "_law_d", "_law_made", "_law_k", "_law_turn", "_law_shape_here", "_law_spot", "_law_limit_here"] ["_law_script"] (defScope s_law) := ⟨rfl, rfl, rfl, by decide +kernel, rfl, by decide +kernel, by decide +kernel⟩

structure Tx (K : PySem.W.Frag) (mg : Str → Option Value) (aR : Addr) : Prop extends TDraw mg, TWord K mg aR where
  z_all : mg "all" = none
  z_bool : mg "bool" = none
  z_isinstance : mg "isinstance" = none
  z_list : mg "list" = none
  z_range : mg "range" = none
  z_tuple : mg "tuple" = none
  z_zip : mg "zip" = none
/-! ### the mathematics -/
abbrev Ch := Str × Int × Int
structure Sh where
  cn : Str
  op : Str
  chs : List Ch
  spot : Nat
structure OkSh (S : Sh) : Prop where
  lt : S.spot < S.chs.length
  nm : ∀ c, S.chs[S.spot]? = some c → c.1 = S.cn
  ne : ∀ (j : Nat) (c : Ch), S.chs[j]? = some c → j ≠ S.spot → c.1 ≠ S.cn
  wd : ∀ c ∈ S.chs, 1 ≤ c.2.1 ∧ c.2.1 ≤ 8 ∧ Word c.2.1 c.2.2
  op : S.op = "<" ∨ S.op = "<=" ∨ S.op = "!="
  len : S.chs.length ≤ 4
def Sh.at_ (S : Sh) : Ch := S.chs.getD S.spot ("", 0, 0)
def Sh.w (S : Sh) : Int := S.at_.2.1
def Sh.d (S : Sh) : Int := S.at_.2.2
theorem OkSh.get {S : Sh} (h : OkSh S) : S.chs[S.spot]? = some S.at_ := by
  unfold Sh.at_
  rw [List.getD_eq_getElem?_getD, List.getElem?_eq_getElem h.lt]
  rfl
theorem OkSh.w1 {S : Sh} (h : OkSh S) : 1 ≤ S.w ∧ S.w ≤ 8 ∧ Word S.w S.d := h.wd _ (List.mem_of_getElem? h.get)
def IsCh (H : Hp) (v : V) (c : Ch) : Prop := ∃ t, v = .ref t ∧ H t = some (.tup [.str c.1, .int c.2.1, .int c.2.2])
structure IsSh (H : Hp) (sh : Addr) (S : Sh) (ch : Addr) (cs : List V) (lim : V) (num : Int) : Prop where
  at_ : H sh = some (.tup [.str "counting", .int num, .str S.cn, .str S.op, lim, .ref ch])
  ch : H ch = some (.tup cs)
  len : cs.length = S.chs.length
  row : ∀ (j : Nat) (v : V) (c : Ch), cs[j]? = some v → S.chs[j]? = some c → IsCh H v c
theorem IsSh.tp {H H' : Hp} {sh : Addr} {S : Sh} {ch : Addr} {cs : List V} {lim : V} {num : Int} (h : IsSh H sh S ch cs lim num) (k : Tp H H') : IsSh H' sh S ch cs lim num :=
  ⟨k _ _ h.at_, k _ _ h.ch, h.len, fun j v c a b => by obtain ⟨t, e, x⟩ := h.row j v c a b; exact ⟨t, e, k _ _ x⟩⟩
/-- words for the changes -/
structure Wds (S : Sh) (ws : List Int) : Prop where
  len : ws.length = S.chs.length
  wd : ∀ (j : Nat) (c : Ch) (x : Int), S.chs[j]? = some c → ws[j]? = some x → Word c.2.1 x
/-- a word that goes by d, after k times -/
def pt (w d x : Int) (k : Nat) : Int := (x + (k : Int) * d) % 2 ^ w.toNat
theorem pt_zero {w d x : Int} (h : Word w x) : pt w d x 0 = x := by
  unfold pt
  rw [show x + ((0 : Nat) : Int) * d = x by simp]
  exact Int.emod_eq_of_lt h.1 h.2
theorem pt_succ {w d x : Int} {k : Nat} : (pt w d x k + d) % 2 ^ w.toNat = pt w d x (k + 1) := by
  unfold pt
  rw [Int.emod_add_emod]
  congr 1
  rw [show ((k + 1 : Nat) : Int) = (k : Int) + 1 by simp, Int.add_mul]
  omega
theorem pt_round {w d x : Int} : pt w d x (2 ^ w.toNat) = x % 2 ^ w.toNat := by
  unfold pt
  rw [show ((2 ^ w.toNat : Nat) : Int) = (2 : Int) ^ w.toNat by simp, Int.add_mul_emod_self_left]
theorem pt_word {w d x : Int} {k : Nat} : Word w (pt w d x k) := ⟨Int.emod_nonneg _ (Int.ne_of_gt (pow_pos' _)), Int.emod_lt_of_pos _ (pow_pos' _)⟩
def holds (op : Str) (x l : Int) : Bool := if op = "<" then decide (x < l) else if op = "<=" then decide (x ≤ l) else !decide (x = l)
/-- how often, below n -/
def stop (p : Nat → Bool) (n : Nat) : Option Nat := (List.range n).find? fun k => !p k
theorem stop_none {p : Nat → Bool} {n : Nat} : (∀ k, k < n → p k = true) → stop p n = none := fun h => by
  unfold stop
  rw [List.find?_eq_none]
  intro k hk
  rw [h k (List.mem_range.mp hk)]
  decide
theorem stop_some {p : Nat → Bool} {n m : Nat} (hm : m < n) (hp : p m = false) (h : ∀ k, k < m → p k = true) : stop p n = some m := by
  unfold stop
  rw [List.find?_range_eq_some]
  exact ⟨by rw [hp]; rfl, List.mem_range.mpr hm, fun k hk => by rw [h k hk]; rfl⟩
def optV : Option Nat → V
  | none => .non
  | some k => .int (k : Int)
/-- times of a shape -/
def times (S : Sh) (l : Int) (ws : List Int) : Option Nat := stop (fun k => holds S.op (pt S.w S.d (ws.getD S.spot 0) k) l) (2 ^ S.w.toNat)
/-- the words behind k times -/
def behind (S : Sh) (ws : List Int) (k : Nat) : List Int := List.zipWith (fun c x => pt c.2.1 c.2.2 x k) S.chs ws
theorem behind_len {S : Sh} {ws : List Int} (h : Wds S ws) (k : Nat) : (behind S ws k).length = S.chs.length := by
  unfold behind
  rw [List.length_zipWith, h.len, Nat.min_self]
theorem behind_at {S : Sh} {ws : List Int} {k j : Nat} {c : Ch} {x : Int} (hc : S.chs[j]? = some c) (hx : ws[j]? = some x) : (behind S ws k)[j]? = some (pt c.2.1 c.2.2 x k) := by
  unfold behind
  rw [List.getElem?_zipWith, hc, hx]
theorem holds_val {op : Str} {w x l z : Int} (ho : op = "<" ∨ op = "<=" ∨ op = "!=") (h : z = if holds op x l = true then 1 else 0) : Val op w [x, l] z := by
  subst h
  rcases ho with rfl | rfl | rfl
  · have e : holds "<" x l = decide (x < l) := rfl
    rw [e]
    exact .lt
  · have e : holds "<=" x l = decide (x ≤ l) := rfl
    rw [e]
    exact .le
  · have e : holds "!=" x l = !decide (x = l) := rfl
    rw [e]
    have e2 : (if (!decide (x = l)) = true then (1 : Int) else 0) = if decide (x = l) then 0 else 1 := by cases decide (x = l) <;> rfl
    rw [e2]
    exact .ne
section
variable {P : Program} {w : World} {K : PySem.W.Frag} {mg : Str → Option Value} {base : Heap} {aR : Addr}
def spTurns : Sp := fun vs H Q _ => ∃ (sh wp ch : Addr) (l num : Int) (lim : V) (cs : List V) (S : Sh) (ws : List Int), vs = [.ref sh, .int l, .ref wp] ∧ OkSh S ∧ IsSh H sh S ch cs lim num ∧ H wp = some (.tup (ws.map V.int)) ∧ Wds S ws ∧
  ∀ H', Same H H' → Q (optV (times S l ws)) H'
theorem ok_turns {f : Addr} {fd : FuncData} (F : Fun K "turns" "turns" s_turns f fd) (c_result : Cal P w K mg base "result" 3 spRes) (T : Tx K mg aR) : FnOk P w K mg base CX0 4 f fd ["shape", "limit", "words"] spTurns := by
  refine F.ok sc_turns (fun vs H Q E h => ?_) (fun cdv A outer s H vs Q E hr h => ?_)
  · obtain ⟨sh, wp, ch, l, num, lim, cs, S, ws, rfl, _⟩ := h
    rfl
  · obtain ⟨sh, wp, ch, l, num, lim, cs, S, ws, rfl, OS, IS, hW, WS, q⟩ := h
    refine ⟨_, 
      (pss_cons (ps_asg (pv 0) (pg_tup (by rfl) (pgs_cons (pg_name (i := 3) sc_turns.nd rfl (Or.inl rfl)) (pgs_cons (pg_name (i := 3) sc_turns.nd rfl (Or.inl rfl)) (pgs_cons (pg_name (i := 4) sc_turns.nd rfl (Or.inl rfl)) (pgs_cons (pg_name (i := 5) sc_turns.nd rfl (Or.inl rfl)) (pgs_cons (pg_name (i := 3) sc_turns.nd rfl (Or.inl rfl)) (pgs_cons (pg_name (i := 6) sc_turns.nd rfl (Or.inl rfl)) pgs_nil))))))))
      (pss_cons (ps_for PassesOwn.never rfl (RZ.pi_zipA (by rfl) T.z_zip (pa_cons (pv 6) (pa_cons (pv 2) pa_nil))) (pg_tup (by rfl) (pgs_cons (pg_tup (by rfl) (pgs_cons (pg_name (i := 7) sc_turns.nd rfl (Or.inl rfl)) (pgs_cons (pg_name (i := 8) sc_turns.nd rfl (Or.inl rfl)) (pgs_cons (pg_name (i := 9) sc_turns.nd rfl (Or.inl rfl)) pgs_nil)))) (pgs_cons (pg_name (i := 10) sc_turns.nd rfl (Or.inl rfl)) pgs_nil))) 
       (pss_one (ps_if (pt_cmpR op_eq (pv 7) (pv 4) (nomark _)) 
        (pss_one (ps_for PassesOwn.never rfl (pi_range1 (by rfl) T.z_range (pa_cons (pe_op op_shl pe_int (pv 8)) pa_nil)) (pg_name (i := 11) sc_turns.nd rfl (Or.inl rfl)) 
         (pss_cons (ps_if (pt_cmpR op_eq (Zn.pe_cal c_result (hr.mono (by decide)) (by rfl) (pa_cons (pv 5) (pa_cons (pv 8) (pa_cons (pv 10) (pa_cons (pv 1) pa_nil))))) pe_int (nomark _)) 
          (pss_one (ps_ret (pv 11))) pss_nil)
         (pss_one (ps_set (i := 10) sc_turns.nd rfl (Or.inl rfl) (Zn.pe_cal c_result (hr.mono (by decide)) (by rfl) (pa_cons pe_str (pa_cons (pv 8) (pa_cons (pv 10) (pa_cons (pv 9) pa_nil)))))))))) pss_nil)))
      (pss_one (ps_ret pe_non)))), ?_⟩
    obtain ⟨w1, w8, wd⟩ := OS.w1
    have hw2 := small0 (show 0 ≤ S.w by omega) w8
    have e2 : ((2 ^ S.w.toNat : Nat) : Int) = (2 : Int) ^ S.w.toNat := by simp
    have hsh := IS.at_
    have hlt := OS.lt
    walk_at "rs"
    refine r_zip2 (K := K) (st_of IS.ch) (st_of hW) ?_
    have hl4 := OS.len
    have eLw : (ws.map V.int).length = S.chs.length := by rw [List.length_map, WS.len]
    refine fz (K := K) (a := ch) (b := wp) (by rw [eLw, IS.len]) (fun i σ H' => ∃ v3 v7 v8 v9 v10 v11, σ = [some (.ref sh), some (.int l), some (.ref wp), v3, some (.str S.cn), some (.str S.op), some (.ref ch), v7, v8, v9, v10, v11] ∧ Same H H' ∧ (S.spot < i → times S l ws = none))
      ⟨_, _, _, _, _, _, rfl, Same.refl _, fun h => by omega⟩ (fun i σ H' ⟨_, _, _, _, _, _, _, s, _⟩ => ⟨st_of (s _ _ IS.ch), st_of (s _ _ hW)⟩) ?_ ?_
    · rintro i x y Tq σ H1 hx hy ⟨v3, v7, v8, v9, v10, v11, rfl, s1, hno⟩ hTq
      obtain ⟨u, rfl, hu⟩ := map_get hy
      have hi := getL hx
      have hic : i < S.chs.length := by have := IS.len; omega
      obtain ⟨c, hc⟩ : ∃ c, S.chs[i]? = some c := ⟨_, List.getElem?_eq_getElem hic⟩
      obtain ⟨t, rfl, ht⟩ := IS.row i x c hx hc
      have ht := s1 _ _ ht
      walk_at "rs"
      by_cases his : i = S.spot
      · subst his
        have ec : c = S.at_ := Option.some.inj (hc.symm.trans OS.get)
        subst ec
        have en : S.at_.1 = S.cn := OS.nm _ OS.get
        have hu0 : ws.getD S.spot 0 = u := by rw [List.getD_eq_getElem?_getD, hu]; rfl
        have wu : Word S.w u := WS.wd _ _ _ OS.get hu
        rw [en, decide_eq_true rfl, show S.at_.2.1 = S.w from rfl, show S.at_.2.2 = S.d from rfl]
        walk_at "rs"
        have sT : Same H (upd H1 Tq (.tup [.ref t, .int u])) := s1.trans (same_new hTq)
        refine fr (fun k σ H' => ∃ v11 xk, σ = [some (.ref sh), some (.int l), some (.ref wp), v3, some (.str S.cn), some (.str S.op), some (.ref ch), some (.str S.cn), some (.int S.w), some (.int S.d), some (.int xk), v11] ∧ xk = pt S.w S.d u k ∧ Same H H' ∧ ∀ j, j < k → holds S.op (pt S.w S.d u j) l = true)
          ⟨_, u, rfl, (pt_zero wu).symm, sT, fun j hj => by omega⟩ ?_ ?_
        · rintro k σ H2 hk ⟨v11, xk, rfl, rfl, s2, hh⟩
          walk_at "rs"
          refine ⟨S.op, S.w, _, [pt S.w S.d u k, l], rfl, (show 2 ≤ 3 by decide), w1, w8, holds_val OS.op rfl, fun H3 s3 => ?_⟩
          walk_at "rs"
          cases hb : holds S.op (pt S.w S.d u k) l
          · have e : decide (V.int (if false = true then (1 : Int) else 0) = V.int 0) = true := by decide
            rw [e]
            walk_at "rs"
            have et : times S l ws = some k := by
              unfold times
              rw [hu0]
              exact stop_some (by omega) hb hh
            rw [et] at q
            rw [Int.zero_add]
            exact q _ (s2.trans s3)
          · have e : decide (V.int (if true = true then (1 : Int) else 0) = V.int 0) = false := by decide
            rw [e]
            walk_at "rs"
            refine ⟨"+", S.w, _, [pt S.w S.d u k, S.d], rfl, (show 2 ≤ 3 by decide), w1, w8, .add, fun H4 s4 => ?_⟩
            walk_at "rs"
            refine ⟨_, _, rfl, ?_, (s2.trans s3).trans s4, fun j hj => ?_⟩
            · rw [mask_mod, pt_succ]
            · by_cases hjk : j < k
              · exact hh j hjk
              · have : j = k := by omega
                subst this
                exact hb
        · rintro σ H2 ⟨v11, xk, rfl, _, s2, hh⟩
          walk_at "rs"
          refine ⟨_, _, _, _, _, _, rfl, s2, fun _ => ?_⟩
          unfold times
          rw [hu0]
          exact stop_none fun j hj => hh j (by omega)
      · have hn := OS.ne i c hc his
        rw [decide_eq_false (fun e => hn (V.str.inj e))]
        walk_at "rs"
        exact ⟨_, _, _, _, _, _, rfl, s1.trans (same_new hTq), fun h => hno (by omega)⟩
    · rintro σ H1 ⟨v3, v7, v8, v9, v10, v11, rfl, s1, hno⟩
      walk_at "rs"
      have := hno (by have := IS.len; omega)
      rw [this] at q
      exact q _ s1
end
end Zn
namespace Zn
open PySem PySem.Spec PyProof.Rows L2 TL
theorem stop_lt {p : Nat → Bool} {n k : Nat} (h : stop p n = some k) : k < n ∧ p k = false ∧ ∀ j, j < k → p j = true := by
  unfold stop at h
  rw [List.find?_range_eq_some] at h
  obtain ⟨h1, h2, h3⟩ := h
  refine ⟨List.mem_range.mp h2, by simpa using h1, fun j hj => by simpa using h3 j hj⟩
theorem behind_zero {S : Sh} {ws : List Int} (WS : Wds S ws) : behind S ws 0 = ws := by
  refine List.ext_getElem? fun j => ?_
  by_cases hj : j < S.chs.length
  · obtain ⟨x, hx⟩ : ∃ x, ws[j]? = some x := ⟨_, List.getElem?_eq_getElem (by rw [WS.len]; exact hj)⟩
    have hc : S.chs[j]? = some S.chs[j] := List.getElem?_eq_getElem hj
    rw [behind_at hc hx, pt_zero (WS.wd _ _ _ hc hx), hx]
  · rw [List.getElem?_eq_none (by rw [behind_len WS]; omega), List.getElem?_eq_none (by rw [WS.len]; omega)]
section
variable {P : Program} {w : World} {K : PySem.W.Frag} {mg : Str → Option Value} {base : Heap} {aR : Addr}
def spLeft : Sp := fun vs H Q _ => ∃ (sh wp ch : Addr) (l num : Int) (lim : V) (cs : List V) (S : Sh) (ws : List Int), vs = [.ref sh, .int l, .ref wp] ∧ OkSh S ∧ IsSh H sh S ch cs lim num ∧ H wp = some (.tup (ws.map V.int)) ∧ Wds S ws ∧
  (∀ H', Same H H' → times S l ws = none → Q .non H') ∧ ∀ H' p k, Same H H' → times S l ws = some k → H' p = some (.tup ((behind S ws k).map V.int)) → Q (.ref p) H'
theorem ok_left {f : Addr} {fd : FuncData} (F : Fun K "left_with" "left_with" s_left_with f fd) (c_turns : Cal P w K mg base "turns" 4 spTurns) (T : Tx K mg aR) : FnOk P w K mg base CX0 5 f fd ["shape", "limit", "words"] spLeft := by
  refine F.ok sc_left_with (fun vs H Q E h => ?_) (fun cdv A outer s H vs Q E hr h => ?_)
  · obtain ⟨sh, wp, ch, l, num, lim, cs, S, ws, rfl, _⟩ := h
    rfl
  · obtain ⟨sh, wp, ch, l, num, lim, cs, S, ws, rfl, OS, IS, hW, WS, q0, q1⟩ := h
    refine ⟨_, 
      (pss_cons (ps_set (i := 3) sc_left_with.nd rfl (Or.inl rfl) (Zn.pe_cal c_turns (hr.mono (by decide)) (by rfl) (pa_cons (pv 0) (pa_cons (pv 1) (pa_cons (pv 2) pa_nil)))))
      (pss_cons (ps_if (pt_cmpR op_isN (pv 3) pe_non (nomark _)) 
       (pss_one (ps_ret pe_non)) pss_nil)
      (pss_cons (ps_set (i := 4) sc_left_with.nd rfl (Or.inl rfl) (pe_lst pa_nil))
      (pss_cons (ps_for PassesOwn.never rfl (RZ.pi_zipA (by rfl) T.z_zip (pa_cons (pe_ix (r := rIxT K) ix_tup (pv 0) pe_int (fun _ _ => rfl)) (pa_cons (pv 2) pa_nil))) (pg_tup (by rfl) (pgs_cons (pg_tup (by rfl) (pgs_cons (pg_name (i := 5) sc_left_with.nd rfl (Or.inl rfl)) (pgs_cons (pg_name (i := 6) sc_left_with.nd rfl (Or.inl rfl)) (pgs_cons (pg_name (i := 7) sc_left_with.nd rfl (Or.inl rfl)) pgs_nil)))) (pgs_cons (pg_name (i := 8) sc_left_with.nd rfl (Or.inl rfl)) pgs_nil))) 
       (pss_one (ps_expr (pe_bm PySem.F.plainAttrs_list PySem.F.slot_list_append PySem.F.type_list_append mt_append (pv 4) (pa_cons (pe_op op_and (pe_op op_add (pv 8) (pe_op op_mul (pv 3) (pv 7))) (pe_op op_sub (pe_op op_shl pe_int (pv 6)) pe_int)) pa_nil)))))
      (pss_one (ps_ret (pe_callTy call_tuple_of (by rfl) T.z_tuple (by decide +kernel) (pa_cons (pv 4) pa_nil)))))))), ?_⟩
    obtain ⟨w1, w8, wd⟩ := OS.w1
    have hw2 := small0 (show 0 ≤ S.w by omega) w8
    have e2 : ((2 ^ S.w.toNat : Nat) : Int) = (2 : Int) ^ S.w.toNat := by simp
    walk_at "rs"
    refine ⟨sh, wp, ch, l, num, lim, cs, S, ws, rfl, OS, IS, hW, WS, fun H1 s1 => ?_⟩
    cases ht : times S l ws with
    | none =>
      walk_at "rs"
      exact q0 _ s1 ht
    | some k =>
      have hk := (stop_lt ht).1
      have hkb : (k : Int) < 256 := by
        have e2 : ((2 ^ S.w.toNat : Nat) : Int) = (2 : Int) ^ S.w.toNat := by simp
        have : (k : Int) < (2 : Int) ^ S.w.toNat := by rw [← e2]; exact Int.ofNat_lt.mpr hk
        omega
      have IS1 := IS.tp (Same.tp s1)
      have hsh := IS1.at_
      walk_at "rs"
      rename_i fp hfp
      have s2 : Same H1 (upd H1 fp (.lst [])) := same_new hfp
      have hsh2 := s2 _ _ hsh
      walk_at "rs"
      refine r_zip2 (K := K) (st_of (s2 _ _ IS1.ch)) (st_of (s2 _ _ (s1 _ _ hW))) ?_
      have eLw : (ws.map V.int).length = S.chs.length := by rw [List.length_map, WS.len]
      have hl4 := OS.len
      refine fz (K := K) (a := ch) (b := wp) (by rw [eLw, IS.len]) (fun i σ H' => ∃ v5 v6 v7 v8, σ = [some (.ref sh), some (.int l), some (.ref wp), some (.int (k : Int)), some (.ref fp), v5, v6, v7, v8] ∧ Same H1 H' ∧ H' fp = some (.lst (((behind S ws k).take i).map V.int)))
        ⟨_, _, _, _, rfl, s2, upd_same⟩ (fun i σ H' ⟨_, _, _, _, _, s, _⟩ => ⟨st_of (s _ _ IS1.ch), st_of (s _ _ (s1 _ _ hW))⟩) ?_ ?_
      · rintro i x y Tq σ H3 hx hy ⟨v5, v6, v7, v8, rfl, s3, h3⟩ hTq
        obtain ⟨u, rfl, hu⟩ := map_get hy
        have hi := getL hx
        have hic : i < S.chs.length := by have := IS.len; omega
        obtain ⟨c, hc⟩ : ∃ c, S.chs[i]? = some c := ⟨_, List.getElem?_eq_getElem hic⟩
        obtain ⟨t, rfl, ht'⟩ := IS1.row i x c hx hc
        have ht' := s3 _ _ ht'
        obtain ⟨c1, c8, cd⟩ := OS.wd c (List.mem_of_getElem? hc)
        have s4 := same_new (o := .tup [.ref t, .int u]) hTq
        have h4 := s4 _ _ h3
        walk_at "rs"
        refine r_append h4 (lt_line (by rw [List.length_map, List.length_take, behind_len WS]; omega)) ?_
        walk_at "rs"
        refine ⟨_, _, _, _, rfl, Zn.Same.mut (s3.trans s4) hfp, ?_⟩
        rw [upd_same, take_snoc (behind_at hc hu), List.map_append]
        have e : Builtin.bitAnd (u + (k : Int) * c.2.2) (1 * 2 ^ c.2.1.toNat - 1) = pt c.2.1 c.2.2 u k := mask_mod _ _
        rw [e]
        rfl
      · rintro σ H3 ⟨v5, v6, v7, v8, rfl, s3, h3⟩
        rw [List.take_of_length_le (by rw [behind_len WS, IS.len]; exact Nat.le_refl _)] at h3
        walk_at "rs"
        refine ⟨fp, _, rfl, .inl ⟨sl_of h3, fun p hp => ?_⟩⟩
        exact q1 _ p k ((s1.trans s3).trans (same_new hp)) ht upd_same
def spHolds : Sp := fun vs H Q _ => ∃ (o : Str) (x l : Int), vs = [.str o, .int x, .int l] ∧ (o = "<" ∨ o = "<=" ∨ o = "!=") ∧ Q (.bl (holds o x l)) H
theorem ok_holds {f : Addr} {fd : FuncData} (F : Fun K "_law_holds" "_law_holds" s__law_holds f fd) : FnOk P w K mg base CX0 1 f fd ["_law_op", "_law_left", "_law_right_here"] spHolds := by
  refine F.ok sc__law_holds (fun vs H Q E h => ?_) (fun cdv A outer s H vs Q E hr h => ?_)
  · obtain ⟨o, x, l, rfl, _⟩ := h
    rfl
  · obtain ⟨o, x, l, rfl, ho, q⟩ := h
    refine ⟨_, 
      (pss_cons (ps_if (pt_cmpR op_eq (pv 0) pe_str (nomark _)) 
       (pss_one (ps_ret (pe_cmpR op_lt (pv 1) (pv 2) (nomark _)))) pss_nil)
      (pss_cons (ps_if (pt_cmpR op_eq (pv 0) pe_str (nomark _)) 
       (pss_one (ps_ret (pe_cmpR op_le (pv 1) (pv 2) (nomark _)))) pss_nil)
      (pss_one (ps_ret (pe_cmpR op_ne (pv 1) (pv 2) (nomark _)))))), ?_⟩
    rcases ho with rfl | rfl | rfl
    · walk_at "rs"
      exact q
    · walk_at "rs"
      exact q
    · walk_at "rs"
      have e : (!decide (V.int x = V.int l)) = !decide (x = l) := by
        congr 1
        rw [decide_eq_decide]
        exact ⟨fun h => V.int.inj h, fun h => congrArg V.int h⟩
      rw [e]
      exact q
def spIsInt : Sp := fun vs H Q _ => ∃ i : Int, vs = [.int i] ∧ Q (.bl true) H
theorem ok_is_int {f : Addr} {fd : FuncData} (F : Fun K "_law_is_int" "_law_is_int" s__law_is_int f fd) (T : Tx K mg aR) : FnOk P w K mg base CX0 1 f fd ["_law_thing"] spIsInt := by
  refine F.ok sc__law_is_int (fun vs H Q E h => ?_) (fun cdv A outer s H vs Q E hr h => ?_)
  · obtain ⟨i, rfl, _⟩ := h
    rfl
  · obtain ⟨i, rfl, q⟩ := h
    refine ⟨_, 
      (pss_one (ps_ret (pe_and (pe_callB call_isi (by rfl) T.z_isinstance (by decide +kernel) (pa_cons (pv 0) (pa_cons (pe_bltn (v := .ty "int") (by rfl) T.z_int (by decide +kernel) rfl) pa_nil))) (pe_one (pe_not (pe_callB call_isi (by rfl) T.z_isinstance (by decide +kernel) (pa_cons (pv 0) (pa_cons (pe_bltn (v := .ty "bool") (by rfl) T.z_bool (by decide +kernel) rfl) pa_nil)))))))), ?_⟩
    walk_at "rd"
    refine r_isi (.ty _) (.base (.int i)) (kit_ty (r := true) (by decide +kernel)) ?_
    walk_at "rd"
    refine r_isi (.ty _) (.base (.int i)) (kit_ty (r := false) (by decide +kernel)) ?_
    walk_at "rd"
    exact q
def spStep : Sp := fun vs H Q _ => ∃ (sh wp ch : Addr) (l num : Int) (lim : V) (cs : List V) (S : Sh) (ws : List Int), vs = [.ref sh, .int (S.spot : Int), .int l, .ref wp] ∧ OkSh S ∧ IsSh H sh S ch cs lim num ∧ H wp = some (.tup (ws.map V.int)) ∧ Wds S ws ∧
  (∀ H' p, Same H H' → times S l ws = none → H' p = some (.tup [.non, .non]) → Q (.ref p) H') ∧ ∀ H' p nl k, Same H H' → times S l ws = some k → H' p = some (.tup [.int (k : Int), .ref nl]) → H' nl = some (.lst ((behind S ws k).map V.int)) → Q (.ref p) H'
theorem ok_stepped {f : Addr} {fd : FuncData} (F : Fun K "_law_stepped" "_law_stepped" s__law_stepped f fd) (c__law_holds : Cal P w K mg base "_law_holds" 1 spHolds) (T : Tx K mg aR) : FnOk P w K mg base CX0 2 f fd ["_law_shape_here", "_law_spot", "_law_limit_here", "_law_words_here"] spStep := by
  refine F.ok sc__law_stepped (fun vs H Q E h => ?_) (fun cdv A outer s H vs Q E hr h => ?_)
  · obtain ⟨sh, wp, ch, l, num, lim, cs, S, ws, rfl, _⟩ := h
    rfl
  · obtain ⟨sh, wp, ch, l, num, lim, cs, S, ws, rfl, OS, IS, hW, WS, q0, q1⟩ := h
    refine ⟨_, 
      (pss_cons (ps_set (i := 4) sc__law_stepped.nd rfl (Or.inr rfl) (pe_callTy call_list_of (by rfl) T.z_list (by decide +kernel) (pa_cons (pv 3) pa_nil)))
      (pss_cons (ps_for PassesOwn.never rfl (pi_range1 (by rfl) T.z_range (pa_cons (pe_op op_add (pe_op op_shl pe_int (pe_ix (r := rIxT K) ix_tup (pe_ix (r := rIxT K) ix_tup (pe_ix (r := rIxT K) ix_tup (pv 0) pe_int (fun _ _ => rfl)) (pv 1) (fun _ _ => rfl)) pe_int (fun _ _ => rfl))) pe_int) pa_nil)) (pg_name (i := 5) sc__law_stepped.nd rfl (Or.inl rfl)) 
       (pss_cons (ps_if (pt_not (pt_val (Zn.pe_cal c__law_holds (hr.mono (by decide)) (by rfl) (pa_cons (pe_ix (r := rIxT K) ix_tup (pv 0) pe_int (fun _ _ => rfl)) (pa_cons (pe_ix (r := rIxL K) ix_list (pv 4) (pv 1) (fun _ _ => rfl)) (pa_cons (pv 2) pa_nil)))))) 
        (pss_one (ps_ret (pe_tup (pa_cons (pv 5) (pa_cons (pv 4) pa_nil))))) pss_nil)
       (pss_one (ps_set (i := 4) sc__law_stepped.nd rfl (Or.inr rfl) (pe_lc (own := [("_law_k", 6)]) rfl sc__law_stepped.nd (pi_range1 (by rfl) T.z_range (pa_cons (pe_callB call_len_seq (by rfl) T.z_len (by decide +kernel) (pa_cons (pv 4) pa_nil)) pa_nil)) (blkOk_by (N := ["_law_shape_here", "_law_spot", "_law_limit_here", "_law_words_here", "_law_now", "_law_times", "_law_k"]) (sc := defScope s__law_stepped) (by decide +kernel)) (fun _ _ _ _ _ => (pg_name (i := 6) sc__law_stepped.nd rfl (Or.inl rfl))) (fun _ _ _ _ _ => pts_nil) (fun _ _ _ _ _ => (pe_op op_and (pe_op op_add (pe_ix (r := rIxL K) ix_list (pv 4) (pv 6) (fun _ _ => rfl)) (pe_ix (r := rIxT K) ix_tup (pe_ix (r := rIxT K) ix_tup (pe_ix (r := rIxT K) ix_tup (pv 0) pe_int (fun _ _ => rfl)) (pv 6) (fun _ _ => rfl)) pe_int (fun _ _ => rfl))) (pe_op op_sub (pe_op op_shl pe_int (pe_ix (r := rIxT K) ix_tup (pe_ix (r := rIxT K) ix_tup (pe_ix (r := rIxT K) ix_tup (pv 0) pe_int (fun _ _ => rfl)) (pv 6) (fun _ _ => rfl)) pe_int (fun _ _ => rfl))) pe_int))))))))
      (pss_one (ps_ret (pe_tup (pa_cons pe_non (pa_cons pe_non pa_nil))))))), ?_⟩
    obtain ⟨w1, w8, wd⟩ := OS.w1
    have hw2 := small0 (show 0 ≤ S.w by omega) w8
    have e2 : ((2 ^ S.w.toNat : Nat) : Int) = (2 : Int) ^ S.w.toNat := by simp
    have hl4 := OS.len
    have hlt := OS.lt
    have hcl := IS.len
    have hsh := IS.at_
    have hch := IS.ch
    obtain ⟨t0, et0, ht0⟩ := IS.row S.spot cs[S.spot] S.at_ (List.getElem?_eq_getElem (by omega)) OS.get
    have ht0 : H t0 = some (.tup [.str S.at_.1, .int S.w, .int S.d]) := ht0
    have ecs : cs[S.spot]? = some (.ref t0) := by rw [List.getElem?_eq_getElem (by omega), et0]
    walk_at "rs"
    intro n0 hn0
    have s1 : Same H (upd H n0 (.lst (ws.map V.int))) := same_new hn0
    have hsh1 := s1 _ _ hsh
    have hch1 := s1 _ _ hch
    have ht1 := s1 _ _ ht0
    walk_at "rs"
    refine r_ixT (st_of hch1) (atI_lt (j := S.spot) rfl ecs) ?_
    walk_at "rs"
    refine fr (fun k σ H' => ∃ v5 v6 nl, σ = [some (.ref sh), some (.int (S.spot : Int)), some (.int l), some (.ref wp), some (.ref nl), v5, v6] ∧ Same H H' ∧ H' nl = some (.lst ((behind S ws k).map V.int)) ∧ ∀ j, j < k → holds S.op (pt S.w S.d (ws.getD S.spot 0) j) l = true)
      ⟨_, _, _, rfl, s1, by rw [upd_same, behind_zero WS], fun j hj => by omega⟩ ?_ ?_
    · rintro k σ H2 hk ⟨v5, v6, nl, rfl, s2, h2, hh⟩
      have hsh2 := s2 _ _ hsh
      have hws : ws[S.spot]? = some (ws.getD S.spot 0) := getD_at (by rw [WS.len]; exact hlt)
      walk_at "rs"
      refine r_ixL (sl_of h2) (ints_at (j := S.spot) rfl (behind_at OS.get hws)) ?_
      walk_at "rs"
      refine ⟨S.op, _, l, rfl, OS.op, ?_⟩
      cases hb : holds S.op (pt S.at_.2.1 S.at_.2.2 (ws.getD S.spot 0) k) l
      · walk_at "rs"
        rename_i rp hrp
        have hb : holds S.op (pt S.w S.d (ws.getD S.spot 0) k) l = false := hb
        have et : times S l ws = some k := by
          unfold times
          refine stop_some ?_ hb hh
          by_cases h0 : k = 2 ^ S.w.toNat
          · have h1 := hh 0 (by omega)
            rw [h0] at hb
            have e : pt S.w S.d (ws.getD S.spot 0) (2 ^ S.w.toNat) = pt S.w S.d (ws.getD S.spot 0) 0 := by
              have hz : pt S.w S.d (ws.getD S.spot 0) 0 = ws.getD S.spot 0 := pt_zero (WS.wd _ _ _ OS.get hws)
              rw [pt_round, hz]
              exact Int.emod_eq_of_lt (WS.wd _ _ _ OS.get hws).1 (WS.wd _ _ _ OS.get hws).2
            rw [e, h1] at hb
            cases hb
          · omega
        rw [Int.zero_add]
        exact q1 _ rp nl k (s2.trans (same_new hrp)) et upd_same (by walk_at "fd")
      · have hch2 := s2 _ _ hch
        have hbl : (((behind S ws k).map V.int).length : Int) ≤ 4 := by rw [List.length_map, behind_len WS]; omega
        walk_at "rs"
        intro C hC
        refine lcM walk_range ((behind S ws (k + 1)).map V.int) (by rw [List.length_map, behind_len WS, List.length_map, behind_len WS]; omega) (by rw [List.length_map, behind_len WS]; omega) hC (fun _ _ => trivial) (fun j x H3 H4 hj k3 hy put => ?_) (fun H3 s3 h3 => ?_)
        · obtain ⟨rfl, rfl⟩ := hy
          have hj : j < S.chs.length := by rw [List.length_map, behind_len WS] at hj; omega
          obtain ⟨c, hc⟩ : ∃ c, S.chs[j]? = some c := ⟨_, List.getElem?_eq_getElem hj⟩
          obtain ⟨u, hu⟩ : ∃ u, ws[j]? = some u := ⟨_, List.getElem?_eq_getElem (by rw [WS.len]; exact hj)⟩
          obtain ⟨t, et, ht⟩ := IS.row j cs[j] c (List.getElem?_eq_getElem (by omega)) hc
          have ecj : cs[j]? = some (.ref t) := by rw [List.getElem?_eq_getElem (by omega), et]
          obtain ⟨c1, c8, cd⟩ := OS.wd c (List.mem_of_getElem? hc)
          have hsh3 := k3 _ _ hsh2
          have hch3 := k3 _ _ hch2
          have ht3 := k3 _ _ (s2 _ _ ht)
          have h23 := k3 _ _ h2
          walk_at "rs"
          refine ⟨rfl, ?_⟩
          walk_at "rs"
          refine r_ixL (sl_of h23) (ints_at (j := j) (by omega) (behind_at hc hu)) ?_
          walk_at "rs"
          refine r_ixT (st_of hch3) (atI_lt (j := j) (by omega) ecj) ?_
          walk_at "rs"
          refine r_ixT (st_of hch3) (atI_lt (j := j) (by omega) ecj) ?_
          walk_at "rs"
          refine put _ _ ?_ (Same.refl _)
          rw [List.getElem?_map, behind_at hc hu, ← pt_succ, ← mask_mod]
          rfl
        · walk_at "rs"
          refine ⟨_, _, _, rfl, s2.trans s3, h3, fun j hj => ?_⟩
          by_cases hjk : j < k
          · exact hh j hjk
          · have : j = k := by omega
            subst this
            exact hb
    · rintro σ H2 ⟨v5, v6, nl, rfl, s2, h2, hh⟩
      walk_at "rs"
      rename_i rp hrp
      refine q0 _ rp (s2.trans (same_new hrp)) ?_ upd_same
      unfold times
      exact stop_none fun j hj => hh j (by omega)
end
end Zn
namespace Zn
open PySem PySem.Spec PyProof.Rows L2 TL
section
variable {P : Program} {w : World} {K : PySem.W.Frag} {mg : Str → Option Value} {base : Heap} {aR : Addr}
def spRight : Sp := fun vs H Q _ => ∃ (sh wp ch : Addr) (l num : Int) (lim : V) (cs : List V) (S : Sh) (ws : List Int), vs = [.ref sh, .int (S.spot : Int), .int l, .ref wp] ∧ OkSh S ∧ IsSh H sh S ch cs lim num ∧ H wp = some (.tup (ws.map V.int)) ∧ Wds S ws ∧
  ∀ H', Same H H' → Q (.bl true) H'
theorem ok_right {f : Addr} {fd : FuncData} (F : Fun K "_law_right" "_law_right" s__law_right f fd) (c_turns : Cal P w K mg base "turns" 4 spTurns) (c_left_with : Cal P w K mg base "left_with" 5 spLeft) (c__law_stepped : Cal P w K mg base "_law_stepped" 2 spStep) (c__law_is_int : Cal P w K mg base "_law_is_int" 1 spIsInt) (T : Tx K mg aR) :
    FnOk P w K mg base CX0 6 f fd ["_law_shape_here", "_law_spot", "_law_limit_here", "_law_words_here"] spRight := by
  refine F.ok sc__law_right (fun vs H Q E h => ?_) (fun cdv A outer s H vs Q E hr h => ?_)
  · obtain ⟨sh, wp, ch, l, num, lim, cs, S, ws, rfl, _⟩ := h
    rfl
  · obtain ⟨sh, wp, ch, l, num, lim, cs, S, ws, rfl, OS, IS, hW, WS, q⟩ := h
    refine ⟨_, 
      (pss_cons (ps_asg (Zn.pe_cal c__law_stepped (hr.mono (by decide)) (by rfl) (pa_cons (pv 0) (pa_cons (pv 1) (pa_cons (pv 2) (pa_cons (pv 3) pa_nil))))) (pg_tup (by rfl) (pgs_cons (pg_name (i := 4) sc__law_right.nd rfl (Or.inl rfl)) (pgs_cons (pg_name (i := 5) sc__law_right.nd rfl (Or.inr rfl)) pgs_nil))))
      (pss_cons (ps_set (i := 6) sc__law_right.nd rfl (Or.inl rfl) (Zn.pe_cal c_turns (hr.mono (by decide)) (by rfl) (pa_cons (pv 0) (pa_cons (pv 2) (pa_cons (pv 3) pa_nil)))))
      (pss_cons (ps_set (i := 7) sc__law_right.nd rfl (Or.inr rfl) (Zn.pe_cal c_left_with (hr.mono (by decide)) (by rfl) (pa_cons (pv 0) (pa_cons (pv 2) (pa_cons (pv 3) pa_nil)))))
      (pss_cons (ps_if (pt_cmpR op_isN (pv 4) pe_non (nomark _)) 
       (pss_one (ps_ret (pe_and (pe_cmpR op_isN (pv 6) pe_non (nomark _)) (pe_one (pe_cmpR op_isN (pv 7) pe_non (nomark _)))))) pss_nil)
      (pss_cons (ps_if (PW.pt (pw_or (pt_not (pt_val (Zn.pe_cal c__law_is_int (hr.mono (by decide)) (by rfl) (pa_cons (pv 6) pa_nil)))) (pw_or (pt_cmpR op_ne (pv 6) (pv 4) (nomark _)) (pw_or (pt_not (pt_val (pe_callB call_isi (by rfl) T.z_isinstance (by decide +kernel) (pa_cons (pv 7) (pa_cons (pe_bltn (v := .ty "tuple") (by rfl) T.z_tuple (by decide +kernel) rfl) pa_nil))))) (pw_or1 (pt_cmpR op_ne (pe_callB call_len_seq (by rfl) T.z_len (by decide +kernel) (pa_cons (pv 7) pa_nil)) (pe_callB call_len_seq (by rfl) T.z_len (by decide +kernel) (pa_cons (pv 5) pa_nil)) (nomark _))))))) 
       (pss_one (ps_ret pe_bl)) pss_nil)
      (pss_one (ps_ret (pe_callB (cr_all rfl) (by rfl) T.z_all (by decide +kernel) (pa_cons (pe_lc (own := [("_law_k", 8)]) rfl sc__law_right.nd (pi_range1 (by rfl) T.z_range (pa_cons (pe_callB call_len_seq (by rfl) T.z_len (by decide +kernel) (pa_cons (pv 5) pa_nil)) pa_nil)) (blkOk_by (N := ["_law_shape_here", "_law_spot", "_law_limit_here", "_law_words_here", "_law_due", "_law_behind", "_law_told", "_law_left", "_law_k"]) (sc := defScope s__law_right) (by decide +kernel)) (fun _ _ _ _ _ => (pg_name (i := 8) sc__law_right.nd rfl (Or.inl rfl))) (fun _ _ _ _ _ => pts_nil) (fun _ _ _ _ _ => (pe_and (Zn.pe_cal c__law_is_int (hr.mono (by decide)) (by rfl) (pa_cons (pe_ix (r := rIxT K) ix_tup (pv 7) (pv 8) (fun _ _ => rfl)) pa_nil)) (pe_one (pe_cmpR op_eq (pe_ix (r := rIxT K) ix_tup (pv 7) (pv 8) (fun _ _ => rfl)) (pe_ix (r := rIxL K) ix_list (pv 5) (pv 8) (fun _ _ => rfl)) (nomark _)))))) pa_nil))))))))), ?_⟩
    have hl4 := OS.len
    walk_at "rs"
    refine ⟨sh, wp, ch, l, num, lim, cs, S, ws, rfl, OS, IS, hW, WS, fun H1 p s1 ht hp => ?_, fun H1 p nl k s1 ht hp hnl => ?_⟩
    · walk_at "rs"
      refine ⟨sh, wp, ch, l, num, lim, cs, S, ws, rfl, OS, IS.tp (Same.tp s1), s1 _ _ hW, WS, fun H2 s2 => ?_⟩
      rw [ht]
      walk_at "rs"
      have s12 := s1.trans s2
      refine ⟨sh, wp, ch, l, num, lim, cs, S, ws, rfl, OS, IS.tp (Same.tp s12), s12 _ _ hW, WS, fun H3 s3 _ => ?_, fun H3 p k s3 e => ?_⟩
      · walk_at "rs"
        exact q _ (s12.trans s3)
      · rw [ht] at e
        cases e
    · walk_at "rs"
      refine ⟨sh, wp, ch, l, num, lim, cs, S, ws, rfl, OS, IS.tp (Same.tp s1), s1 _ _ hW, WS, fun H2 s2 => ?_⟩
      rw [ht]
      walk_at "rs"
      have s12 := s1.trans s2
      refine ⟨sh, wp, ch, l, num, lim, cs, S, ws, rfl, OS, IS.tp (Same.tp s12), s12 _ _ hW, WS, fun H3 s3 e => ?_, fun H3 p2 k2 s3 e hp2 => ?_⟩
      · rw [ht] at e
        cases e
      · rw [ht] at e
        cases e
        have hnl3 := s3 _ _ (s2 _ _ hnl)
        walk_at "rs"
        refine ⟨_, rfl, ?_⟩
        walk_at "rs"
        have et : decide (V.int (k : Int) = V.int (k : Int)) = true := decide_eq_true rfl
        rw [show optV (some k) = V.int (k : Int) from rfl, et]
        walk_at "rs"
        refine r_isi (.ty _) (.base (.tup hp2)) (kit_ty (r := true) (by decide +kernel)) ?_
        have hbl : ((behind S ws k).map V.int).length ≤ 4 := by rw [List.length_map, behind_len WS]; exact hl4
        walk_at "rs"
        rw [decide_eq_true rfl]
        walk_at "rs"
        intro C hC
        refine lcM walk_range ((List.replicate ((behind S ws k).map V.int).length true).map V.bl) (by rw [List.length_map, List.length_replicate]; omega) (by omega) hC (fun _ _ => trivial) (fun j x H4 H5 hj k3 hy put => ?_) (fun H4 s4 h4 => ?_)
        · obtain ⟨rfl, rfl⟩ := hy
          have hj : j < (behind S ws k).length := by rw [List.length_map] at hj; omega
          obtain ⟨u, hu⟩ : ∃ u, (behind S ws k)[j]? = some u := ⟨_, List.getElem?_eq_getElem hj⟩
          have hp5 := k3 _ _ hp2
          have hn5 := k3 _ _ hnl3
          walk_at "rs"
          refine ⟨rfl, ?_⟩
          walk_at "rs"
          refine r_ixT (st_of hp5) (ints_at (j := j) (by omega) hu) ?_
          walk_at "rs"
          refine ⟨u, rfl, ?_⟩
          walk_at "rs"
          refine r_ixT (st_of hp5) (ints_at (j := j) (by omega) hu) ?_
          walk_at "rs"
          refine r_ixL (sl_of hn5) (ints_at (j := j) (by omega) hu) ?_
          walk_at "rs"
          refine put _ _ ?_ (Same.refl _)
          rw [decide_eq_true rfl, List.getElem?_map, List.getElem?_replicate, if_pos (by rw [List.length_map]; exact hj)]
          rfl
        · walk_at "rs"
          refine r_all (sl_of h4) ?_
          have e : (List.replicate ((behind S ws k).map V.int).length true).all id = true := by simp
          rw [e]
          exact q _ ((s12.trans s3).trans s4)
end
end Zn
namespace Zn
open PySem PySem.Spec PyProof.Rows L2 TL
abbrev s__law_everywhere : Stmt := topS 24
theorem sc__law_everywhere : FnScope ["_law_d", "_law_shape_here", "_law_spot", "_law_many", "_law_limits", "_law_others", "_law_change", "_law_limit_here", "_law_word"] ["_law_d", "_law_shape_here", "_law_spot"] (defScope s__law_everywhere) := ⟨rfl, rfl, rfl, by decide +kernel, rfl, by decide +kernel, by decide +kernel⟩

theorem seq_nx {t1 t2 : TS} {D : Ends} {σ : L2.St} {H : Hp} (Post : L2.St → Hp → Prop) (h2 : ∀ σ' H', Post σ' H' → t2 D σ' H') (h1 : ∀ nx', (∀ σ' H', Post σ' H' → nx' σ' H') → t1 { D with nx := nx' } σ H) : tSeq t1 t2 D σ H := h1 (t2 D) h2
theorem Kp.drop {d p : Addr} {H H' : Hp} (k : Kp [d, p] H H') (h : H p = none) : Kp [d] H H' :=
  ⟨fun b o n e => k.x b o (notin2 (by simpa using n) (ne_of_none e h)) e, k.t⟩
/-- what stands for the limit -/
def LimAt (H : Hp) (lim : V) (w : Int) : Prop := ∃ t, lim = .ref t ∧ ((∃ nm : Str, H t = some (.tup [.str "name", .str nm])) ∨ ∃ v w' : Int, H t = some (.tup [.str "word", .int v, .int w']) ∧ Word w v)
theorem LimAt.tp {H H' : Hp} {lim : V} {w : Int} (h : LimAt H lim w) (k : Tp H H') : LimAt H' lim w := by
  obtain ⟨t, e, h⟩ := h
  rcases h with ⟨nm, h⟩ | ⟨v, w', h, hw⟩
  · exact ⟨t, e, .inl ⟨nm, k _ _ h⟩⟩
  · exact ⟨t, e, .inr ⟨v, w', k _ _ h, hw⟩⟩
/-- a made pair -/
def Made (H : Hp) (v : V) (w : Int) : Prop := ∃ (p sh ch : Addr) (S : Sh) (cs : List V) (lim : V) (num : Int), v = .ref p ∧ H p = some (.tup [.ref sh, .int (S.spot : Int)]) ∧ OkSh S ∧ IsSh H sh S ch cs lim num ∧ LimAt H lim S.w ∧ S.w = w
theorem Made.tp {H H' : Hp} {v : V} {w : Int} (h : Made H v w) (k : Tp H H') : Made H' v w := by
  obtain ⟨p, sh, ch, S, cs, lim, num, e, h1, h2, h3, h4, h5⟩ := h
  exact ⟨p, sh, ch, S, cs, lim, num, e, k _ _ h1, h2, h3.tp k, h4.tp k, h5⟩
section
variable {P : Program} {w : World} {K : PySem.W.Frag} {mg : Str → Option Value} {base : Heap} {aR : Addr}
def spSome : Sp := fun vs H Q _ => ∃ (d c : Addr) (w : Int), vs = [.ref d, .int w] ∧ Drw H d c ∧ 1 ≤ w ∧ w ≤ 8 ∧ ∀ (H' : Hp) (n : Int), Kp [d] H H' → Drw H' d c → Word w n → Q (.int n) H'
theorem ok_some {f : Addr} {fd : FuncData} (F : Fun K "_law_some_word" "_law_some_word" s__law_some_word f fd) (c__law_draw : Cal P w K mg base "_law_draw" 1 spDraw) : FnOk P w K mg base CX0 2 f fd ["_law_d", "_law_width"] spSome := by
  refine F.ok sc__law_some_word (fun vs H Q E h => ?_) (fun cdv A outer s H vs Q E hr h => ?_)
  · obtain ⟨d, c, w, rfl, _⟩ := h
    rfl
  · obtain ⟨d, c, w, rfl, hD, w1, w8, q⟩ := h
    refine ⟨_, 
      (pss_cons (ps_set (i := 2) sc__law_some_word.nd rfl (Or.inl rfl) (Zn.pe_cal c__law_draw (hr.mono (by decide)) (by rfl) (pa_cons (pv 0) (pa_cons pe_int pa_nil))))
      (pss_cons (ps_if (pt_cmpR op_lt (pv 2) pe_int (nomark _)) 
       (pss_one (ps_ret (pv 2))) pss_nil)
      (pss_one (ps_ret (pe_ifExp (pt_cmpR op_eq (pv 2) pe_int (nomark _)) (pe_op op_sub (pe_op op_shl pe_int (pv 1)) pe_int) (Zn.pe_cal c__law_draw (hr.mono (by decide)) (by rfl) (pa_cons (pv 0) (pa_cons (pe_op op_shl pe_int (pv 1)) pa_nil)))))))), ?_⟩
    have hw2 := small0 (show 0 ≤ w by omega) w8
    have h2w : (2 : Int) ≤ 2 ^ w.toNat := by
      have := @pow_mono 1 w.toNat (by omega)
      exact this
    walk_at "rs"
    refine ⟨d, c, _, rfl, hD, by decide, by decide, fun n zs n0 n1 D1 => ?_⟩
    have k1 := Kp.drw (S := [d]) (zs := zs) hD (by simp)
    walk_at "rs"
    refine ite2 (fun h => ?_) (fun h => ?_)
    · have h := of_decide_eq_true h
      walk_at "rs"
      exact q _ _ k1 D1 ⟨n0, by omega⟩
    · walk_at "rs"
      refine ite2 (fun h => ?_) (fun h => ?_)
      · walk_at "rs"
        exact q _ _ k1 D1 ⟨by omega, by omega⟩
      · walk_at "rs"
        refine ⟨d, c, _, rfl, D1, by omega, by omega, fun m zs2 m0 m1 D2 => ?_⟩
        exact q _ _ (k1.trans (Kp.drw D1 (by simp))) D2 ⟨m0, by omega⟩
def spShape : Sp := fun vs H Q _ => ∃ (d c : Addr) (w : Int), vs = [.ref d, .int w] ∧ Drw H d c ∧ 1 ≤ w ∧ w ≤ 8 ∧ ∀ (H' : Hp) (v : V), Kp [d] H H' → Drw H' d c → Made H' v w → Q v H'
theorem r_wide {b : Bool} {σ : L2.St} {H : Hp} {Q : VK} {d c : Addr} {w : Int} (h0 : σ[0]? = some (some (.ref d))) (h1 : σ[1]? = some (some (.int w))) (D : Drw H d c) (w1 : 1 ≤ w) (w8 : w ≤ 8)
    (q : ∀ v H', Kp [d] H H' → Drw H' d c → 1 ≤ v → v ≤ 8 → (b = true → v = w) → Q (.int v) H') : if b = true then tVar 1 σ H Q else tOp (rI0 fun i j => .int (i + j)) (tC (.int 1)) (tCal spDraw (tCons (tVar 0) (tCons (tC (.int 8)) tNil))) σ H Q := by
  cases b
  · exact ⟨_, h0, d, c, _, rfl, D, by decide, by decide, fun n xs n0 n1 D1 => ⟨_, _, rfl, rfl, q _ _ (Kp.drw D (by simp)) D1 (by omega) (by omega) (fun h => by cases h)⟩⟩
  · exact ⟨_, h1, q _ H (Kp.refl _ _) D w1 w8 (fun _ => rfl)⟩
theorem ok_shape {f : Addr} {fd : FuncData} (F : Fun K "_law_shape" "_law_shape" s__law_shape f fd) (c__law_draw : Cal P w K mg base "_law_draw" 1 spDraw) (c__law_pick : Cal P w K mg base "_law_pick" 2 (spPick K)) (c__law_pop : Cal P w K mg base "_law_pop" 2 spPop) (c__law_pool : Cal P w K mg base "_law_pool" 1 spPool) (c__law_some_word : Cal P w K mg base "_law_some_word" 2 spSome) (T : Tx K mg aR) :
    FnOk P w K mg base CX0 3 f fd ["_law_d", "_law_width"] spShape := by
  refine F.ok sc__law_shape (fun vs H Q E h => ?_) (fun cdv A outer s H vs Q E hr h => ?_)
  · obtain ⟨d, c, w, rfl, _⟩ := h
    rfl
  · obtain ⟨d, c, w, rfl, hD, w1, w8, q⟩ := h
    refine ⟨_, 
      (pss_cons (ps_set (i := 2) sc__law_shape.nd rfl (Or.inl rfl) (pe_op op_add pe_int (Zn.pe_cal c__law_draw (hr.mono (by decide)) (by rfl) (pa_cons (pv 0) (pa_cons pe_int pa_nil)))))
      (pss_cons (ps_set (i := 3) sc__law_shape.nd rfl (Or.inl rfl) (Zn.pe_cal c__law_draw (hr.mono (by decide)) (by rfl) (pa_cons (pv 0) (pa_cons (pv 2) pa_nil))))
      (pss_cons (ps_set (i := 4) sc__law_shape.nd rfl (Or.inr rfl) (Zn.pe_cal0 c__law_pool (hr.mono (by decide)) (by rfl)))
      (pss_cons (ps_setLc (own := [("_law_k", 6)]) (i := 5) rfl sc__law_shape.nd rfl rfl (sw_true rfl rfl rfl (by decide +kernel)) (pi_range1 (by rfl) T.z_range (pa_cons (pe_op op_add (pv 2) pe_int) pa_nil)) (blkOk_by (N := ["_law_d", "_law_width", "_law_many", "_law_spot", "_law_pool_here", "_law_names", "_law_k", "_law_changes", "_law_wide", "_law_limit_here", "_law_op"]) (sc := defScope s__law_shape) (by decide +kernel)) (fun _ _ _ _ _ => (pg_name (i := 6) sc__law_shape.nd rfl (Or.inl rfl))) (fun _ _ _ _ _ => pts_nil) (fun _ _ _ _ _ => (Zn.pe_cal c__law_pop (hr.mono (by decide)) (by rfl) (pa_cons (pv 0) (pa_cons (pv 4) pa_nil)))))
      (pss_cons (ps_set (i := 7) sc__law_shape.nd rfl (Or.inl rfl) (pe_lst pa_nil))
      (pss_cons (ps_for PassesOwn.never rfl (pi_range1 (by rfl) T.z_range (pa_cons (pv 2) pa_nil)) (pg_name (i := 6) sc__law_shape.nd rfl (Or.inl rfl)) 
       (pss_cons (ps_set (i := 8) sc__law_shape.nd rfl (Or.inl rfl) (pe_ifExp (pt_cmpR op_eq (pv 6) (pv 3) (nomark _)) (pv 1) (pe_op op_add pe_int (Zn.pe_cal c__law_draw (hr.mono (by decide)) (by rfl) (pa_cons (pv 0) (pa_cons pe_int pa_nil))))))
       (pss_one (ps_expr (pe_bm PySem.F.plainAttrs_list PySem.F.slot_list_append PySem.F.type_list_append mt_append (pv 7) (pa_cons (pe_tup (pa_cons (pe_ix (r := rIxL K) ix_list (pv 5) (pv 6) (fun _ _ => rfl)) (pa_cons (pv 8) (pa_cons (Zn.pe_cal c__law_some_word (hr.mono (by decide)) (by rfl) (pa_cons (pv 0) (pa_cons (pv 8) pa_nil))) pa_nil)))) pa_nil))))))
      (pss_cons (ps_set (i := 9) sc__law_shape.nd rfl (Or.inl rfl) (pe_tup (pa_cons pe_str (pa_cons (pe_ix (r := rIxL K) ix_list (pv 5) (pv 2) (fun _ _ => rfl)) pa_nil))))
      (pss_cons (ps_if (pt_truth (Zn.pe_cal c__law_draw (hr.mono (by decide)) (by rfl) (pa_cons (pv 0) (pa_cons pe_int pa_nil))) (by intro _; rfl)) 
       (pss_one (ps_set (i := 9) sc__law_shape.nd rfl (Or.inl rfl) (pe_tup (pa_cons pe_str (pa_cons (Zn.pe_cal c__law_some_word (hr.mono (by decide)) (by rfl) (pa_cons (pv 0) (pa_cons (pv 1) pa_nil))) (pa_cons (pv 1) pa_nil)))))) pss_nil)
      (pss_cons (ps_set (i := 10) sc__law_shape.nd rfl (Or.inl rfl) (Zn.pe_cal c__law_pick (hr.mono (by decide)) (by rfl) (pa_cons (pv 0) (pa_cons (pe_lst (pa_cons pe_str (pa_cons pe_str (pa_cons pe_str pa_nil)))) pa_nil))))
      (pss_one (ps_ret (pe_tup (pa_cons (pe_tup (pa_cons pe_str (pa_cons (Zn.pe_cal c__law_draw (hr.mono (by decide)) (by rfl) (pa_cons (pv 0) (pa_cons pe_int pa_nil))) (pa_cons (pe_ix (r := rIxL K) ix_list (pv 5) (pv 3) (fun _ _ => rfl)) (pa_cons (pv 10) (pa_cons (pv 9) (pa_cons (pe_callTy call_tuple_of (by rfl) T.z_tuple (by decide +kernel) (pa_cons (pv 7) pa_nil)) pa_nil))))))) (pa_cons (pv 3) pa_nil)))))))))))))), ?_⟩
    have dd : d ∈ [d] := by simp
    walk_at "rs"
    refine ⟨d, c, _, rfl, hD, by decide, by decide, fun n zs n0 n1 D1 => ?_⟩
    have k1 := Kp.drw (S := [d]) (zs := zs) hD dd
    generalize upd H d (.lst zs) = H1 at D1 k1 ⊢
    obtain ⟨n', rfl⟩ := Int.eq_ofNat_of_zero_le n0
    obtain ⟨m, hm⟩ : ∃ m : Nat, (m : Int) = 1 + (n' : Int) := ⟨1 + n', by simp⟩
    have m1 : 1 ≤ m ∧ m ≤ 4 := by omega
    walk_at "rs"
    rw [← hm]
    refine ⟨d, c, _, rfl, D1, by omega, by omega, fun sp zs sp0 sp1 D2 => ?_⟩
    have k2 := k1.trans (Kp.drw (zs := zs) D1 dd)
    generalize upd H1 d (.lst zs) = H2 at D2 k2 ⊢
    obtain ⟨sp, rfl⟩ := Int.eq_ofNat_of_zero_le sp0
    have spm : sp < m := by omega
    walk_at "rs"
    refine ⟨rfl, fun H3 pl ps s3 fpl P3 pl1 pl2 => ?_⟩
    have D3 := D2.same s3
    have k3 := k2.trans (.same s3)
    have npd : pl ≠ d := (D2.nd fpl).symm
    have npc : pl ≠ c := (D2.nc fpl).symm
    have fplH : H pl = none := k2.free (notin1 npd) fpl
    walk_at "rs"
    intro C hC
    have fC3 : H2 C = none := s3.free hC
    have nCp : C ≠ pl := (ne_of_none P3.at_ hC).symm
    have nCd : C ≠ d := (D3.nd hC).symm
    refine lc_range (fun i H' => ∃ (ns qs : List Str), Kp [d, pl] H3 H' ∧ Drw H' d c ∧ H' C = some (.lst (ns.map V.str)) ∧ ns.length = i ∧ PoolAt H' pl qs ∧ qs.length + i = ps.length ∧ ns.Nodup ∧ ∀ x ∈ ns, x ∉ qs)
      ⟨[], ps, (Kp.refl _ _).new hC, D3.same (same_new hC), upd_same, rfl, ⟨(same_new hC) _ _ P3.at_, P3.nd, P3.ok⟩, rfl, List.nodup_nil, fun x hx => by cases hx⟩ (fun i H4 hi ⟨ns, qs, k4, D4, h4, l4, P4, l4', nd4, no4⟩ => ?_) (fun H4 ⟨ns, qs, k4, D4, h4, l4, P4, l4', nd4, no4⟩ => ?_)
    · have hi5 : i < 5 := by omega
      walk_at "rs"
      refine ⟨rfl, ?_⟩
      walk_at "rs"
      refine ⟨d, c, pl, qs, rfl, D4, npd, npc, P4, by omega, by omega, fun H5 x rs k5 D5 P5 hx hx2 hsub l5 ok5 => ?_⟩
      have h5 := k5.x _ _ (notin2 nCd nCp) h4
      refine ⟨_, h5, lt_line (by rw [List.length_map]; omega), ns ++ [x], rs, (k4.trans k5).mut hC h5, D5.upd nCd.symm (D3.nc hC), by rw [upd_same, List.map_append]; rfl, by rw [List.length_append, l4]; rfl, ⟨by rw [upd_ne nCp.symm]; exact P5.at_, P5.nd, P5.ok⟩, by omega, ?_, ?_⟩
      · rw [List.nodup_append]
        refine ⟨nd4, by simp, fun a ha b hb => ?_⟩
        rw [List.mem_singleton] at hb
        subst hb
        exact fun e => no4 a ha (e ▸ hx)
      · intro y hy
        rcases List.mem_append.mp hy with hy | hy
        · exact fun h => no4 y hy (hsub y h)
        · rw [List.mem_singleton] at hy
          subst hy
          exact hx2
    · have lm : ns.length = m + 1 := by omega
      have k4' : Kp [d] H H4 := (k3.mono (S' := [d, pl]) (by simp)).trans k4 |>.drop fplH
      have fCH : H C = none := k2.free (notin1 nCd) fC3
      walk_at "rs"
      rename_i chl hchl
      have fchH : H chl = none := k4'.free (notin1 (D4.nd hchl).symm) hchl
      have nchd : chl ≠ d := (D4.nd hchl).symm
      have nchC : chl ≠ C := (ne_of_none h4 hchl).symm
      refine fr (fun i σ H' => ∃ v6 v8 v9 v10 cs chs, σ = [some (.ref d), some (.int w), some (.int (m : Int)), some (.int (sp : Int)), some (.ref pl), some (.ref C), v6, some (.ref chl), v8, v9, v10] ∧ Kp [d] H H' ∧ Drw H' d c ∧ H' C = some (.lst (ns.map V.str)) ∧ H' chl = some (.lst cs) ∧ cs.length = i ∧ (chs : List Ch).length = i ∧
        (∀ (j : Nat) (v : V) (c : Ch), cs[j]? = some v → chs[j]? = some c → IsCh H' v c ∧ ns[j]? = some c.1 ∧ (1 ≤ c.2.1 ∧ c.2.1 ≤ 8 ∧ Word c.2.1 c.2.2) ∧ (j = sp → c.2.1 = w)))
        ⟨_, _, _, _, [], [], rfl, k4'.new hchl, D4.same (same_new hchl), same_new hchl _ _ h4, upd_same, rfl, rfl, fun j v c h => by simp at h⟩ ?_ ?_
      · rintro i σ H5 hi ⟨v6, v8, v9, v10, cs, chs, rfl, k5, D5, h5, hc5, lc5, lh5, r5⟩
        have him : i < m := by omega
        walk_at "rs"
        refine r_wide rfl rfl D5 w1 w8 fun wv H6 k6 D6 wv1 wv8 hwv => ?_
        have h6 := k6.x _ _ (notin1 nCd) h5
        have hc6 := k6.x _ _ (notin1 nchd) hc5
        obtain ⟨nm, hnm⟩ : ∃ nm, ns[i]? = some nm := ⟨_, List.getElem?_eq_getElem (by omega)⟩
        walk_at "rs"
        refine r_ixL (v := .str nm) (sl_of h6) (atI_lt (j := i) (by omega) (by rw [List.getElem?_map, hnm]; rfl)) ?_
        walk_at "rs"
        refine ⟨d, c, wv, rfl, D6, wv1, wv8, fun H7 u k7 D7 hu => ?_⟩
        have hc7 := k7.x _ _ (notin1 nchd) hc6
        walk_at "rs"
        rename_i tp htp
        have s8 := same_new (o := .tup [.str nm, .int wv, .int u]) htp
        have hc8 := s8 _ _ hc7
        refine r_append hc8 (lt_line (by omega)) ?_
        walk_at "rs"
        have k8 : Kp [d] H5 (upd H7 tp (.tup [.str nm, .int wv, .int u])) := (k6.trans k7).new htp
        have tq : Tp (upd H7 tp (.tup [.str nm, .int wv, .int u])) (upd (upd H7 tp (.tup [.str nm, .int wv, .int u])) chl (.lst (cs ++ [.ref tp]))) := Tp.set hc8
        refine ⟨_, _, _, _, cs ++ [.ref tp], chs ++ [(nm, wv, u)], rfl, (k5.trans k8).mut fchH hc8, (D7.same s8).upd nchd.symm (D4.nc hchl), ?_, upd_same, by rw [List.length_append, lc5]; rfl, by rw [List.length_append, lh5]; rfl, fun j v c hj hc => ?_⟩
        · rw [upd_ne nchC.symm]
          exact k8.x _ _ (notin1 nCd) h5
        · have hjl := getL hj
          rw [List.length_append] at hjl
          have hjl : j < cs.length + 1 := hjl
          by_cases hlt : j < cs.length
          · rw [List.getElem?_append_left hlt] at hj
            rw [List.getElem?_append_left (by omega)] at hc
            obtain ⟨⟨t, e, ht⟩, a1, a2, a3⟩ := r5 j v c hj hc
            exact ⟨⟨t, e, tq _ _ (k8.t _ _ ht)⟩, a1, a2, a3⟩
          · have : j = cs.length := by omega
            subst this
            rw [List.getElem?_concat_length] at hj
            rw [show cs.length = chs.length by omega, List.getElem?_concat_length] at hc
            cases hj
            cases hc
            refine ⟨⟨tp, rfl, tq _ _ upd_same⟩, by rw [lc5]; exact hnm, ⟨wv1, wv8, hu⟩, fun h => hwv ?_⟩
            rw [lc5] at h
            subst h
            rw [Int.zero_add]
            exact decide_eq_true rfl
      · rintro σ H5 ⟨v6, v8, v9, v10, cs, chs, rfl, k5, D5, h5, hc5, lc5, lh5, r5⟩
        have lc5 : cs.length = m := by omega
        have lh5 : chs.length = m := by omega
        obtain ⟨nm, hnm⟩ : ∃ nm, ns[m]? = some nm := ⟨_, List.getElem?_eq_getElem (by omega)⟩
        obtain ⟨nsp, hnsp⟩ : ∃ nsp, ns[sp]? = some nsp := ⟨_, List.getElem?_eq_getElem (by omega)⟩
        walk_at "rs"
        refine r_ixL (v := .str nm) (sl_of h5) (atI_lt (j := m) rfl (by rw [List.getElem?_map, hnm]; rfl)) ?_
        walk_at "rt"
        rename_i lt hlt
        have L6 : LimAt (upd H5 lt (.tup [.str "name", .str nm])) (.ref lt) w := ⟨lt, rfl, .inl ⟨nm, upd_same⟩⟩
        have s6 := same_new (o := .tup [.str "name", .str nm]) hlt
        have k6 := k5.trans (.same s6)
        have D6 := D5.same s6
        have h6 := s6 _ _ h5
        have hc6 := s6 _ _ hc5
        have r6 : ∀ (j : Nat) (v : V) (c : Ch), cs[j]? = some v → chs[j]? = some c → IsCh (upd H5 lt (.tup [.str "name", .str nm])) v c := fun j v c a b => by
          obtain ⟨⟨t, e, ht⟩, _⟩ := r5 j v c a b
          exact ⟨t, e, s6 _ _ ht⟩
        generalize upd H5 lt (.tup [.str "name", .str nm]) = H6 at L6 k6 D6 h6 hc6 r6 ⊢
        refine seq_nx (fun σ H' => ∃ lim, σ = [some (.ref d), some (.int w), some (.int (m : Int)), some (.int (sp : Int)), some (.ref pl), some (.ref C), v6, some (.ref chl), v8, some lim, v10] ∧ Kp [d] H H' ∧ Kp [d] H6 H' ∧ Drw H' d c ∧ LimAt H' lim w) ?_ (fun nx' hx => ?_)
        · rintro σ H7 ⟨lim, rfl, k7, k67, D7, L7⟩
          have h7 := k67.x _ _ (notin1 nCd) h6
          have hc7 := k67.x _ _ (notin1 nchd) hc6
          walk_at "rs"
          rename_i ol hol
          have s8 := same_new (o := .lst [.str "<", .str "<=", .str "!="]) hol
          refine ⟨d, c, ol, _, rfl, D7.same s8, (D7.nd hol).symm, sl_of upd_same, by simp, by decide +kernel, fun x zs hx D8 => ?_⟩
          have k8 : Kp [d] H7 (upd (upd H7 ol (.lst [.str "<", .str "<=", .str "!="])) d (.lst zs)) := (Kp.same s8).trans (.drw (D7.same s8) dd)
          generalize upd (upd H7 ol (.lst [.str "<", .str "<=", .str "!="])) d (.lst zs) = H8 at D8 k8 ⊢
          obtain ⟨op, hop, rfl⟩ : ∃ op : Str, (op = "<" ∨ op = "<=" ∨ op = "!=") ∧ x = .str op := by
            simp only [List.mem_cons, List.not_mem_nil, or_false] at hx
            rcases hx with rfl | rfl | rfl
            · exact ⟨_, .inl rfl, rfl⟩
            · exact ⟨_, .inr (.inl rfl), rfl⟩
            · exact ⟨_, .inr (.inr rfl), rfl⟩
          walk_at "rs"
          refine ⟨d, c, _, rfl, D8, by decide, by decide, fun num zs num0 num1 D9 => ?_⟩
          have k9 : Kp [d] H7 (upd H8 d (.lst zs)) := k8.trans (.drw D8 dd)
          generalize upd H8 d (.lst zs) = H9 at D9 k9 ⊢
          walk_at "rs"
          refine r_ixL (v := .str nsp) (sl_of (k9.x _ _ (notin1 nCd) h7)) (atI_lt (j := sp) rfl (by rw [List.getElem?_map, hnsp]; rfl)) ?_
          walk_at "rs"
          refine ⟨chl, cs, rfl, .inl ⟨sl_of (k9.x _ _ (notin1 nchd) hc7), fun ch hch => ?_⟩⟩
          have s10 := same_new (o := .tup cs) hch
          walk_at "rs"
          rename_i sh hsh rp hrp
          have ksh : Kp [d] H6 (upd (upd (upd H9 ch (.tup cs)) sh (.tup [.str "counting", .int num, .str nsp, .str op, lim, .ref ch])) rp (.tup [.ref sh, .int (sp : Int)])) := (k67.trans k9).trans (.same ((s10.trans (same_new hsh)).trans (same_new hrp)))
          have OS : OkSh ⟨nsp, op, chs, sp⟩ := by
            refine ⟨by show sp < chs.length; omega, fun c hc => ?_, fun j c hc hj e => ?_, fun c hc => ?_, hop, by show chs.length ≤ 4; omega⟩
            · have hc : chs[sp]? = some c := hc
              obtain ⟨v, hv⟩ : ∃ v, cs[sp]? = some v := ⟨_, List.getElem?_eq_getElem (by omega)⟩
              have := (r5 sp v c hv hc).2.1
              rw [hnsp] at this
              exact (Option.some.inj this).symm
            · have hc : chs[j]? = some c := hc
              have hj : j ≠ sp := hj
              have e : c.1 = nsp := e
              obtain ⟨v, hv⟩ : ∃ v, cs[j]? = some v := ⟨_, List.getElem?_eq_getElem (by have := getL hc; omega)⟩
              have h1 := (r5 j v c hv hc).2.1
              rw [e] at h1
              exact hj ((List.getElem?_inj (getL h1) nd4).mp (h1.trans hnsp.symm))
            · obtain ⟨j, hj⟩ := List.mem_iff_getElem?.mp (show c ∈ chs from hc)
              obtain ⟨v, hv⟩ : ∃ v, cs[j]? = some v := ⟨_, List.getElem?_eq_getElem (by have := getL hj; omega)⟩
              exact (r5 j v c hv hj).2.2.1
          have ew : Sh.w ⟨nsp, op, chs, sp⟩ = w := by
            have hg := OS.get
            have hg : chs[sp]? = some (Sh.at_ ⟨nsp, op, chs, sp⟩) := hg
            obtain ⟨v, hv⟩ : ∃ v, cs[sp]? = some v := ⟨_, List.getElem?_eq_getElem (by omega)⟩
            exact (r5 sp v _ hv hg).2.2.2 rfl
          have Lf : LimAt (upd (upd (upd H9 ch (.tup cs)) sh (.tup [.str "counting", .int num, .str nsp, .str op, lim, .ref ch])) rp (.tup [.ref sh, .int (sp : Int)])) lim w := L7.tp (k9.trans (.same ((s10.trans (same_new hsh)).trans (same_new hrp)))).t
          refine q _ _ (k7.trans (k9.trans (.same ((s10.trans (same_new hsh)).trans (same_new hrp))))) (D9.same ((s10.trans (same_new hsh)).trans (same_new hrp))) ⟨rp, sh, ch, ⟨nsp, op, chs, sp⟩, cs, lim, num, rfl, upd_same, OS, ⟨same_new hrp _ _ upd_same, at_new hrp (at_new hsh upd_same), by show cs.length = chs.length; omega, fun j v c a b => ?_⟩, by rw [ew]; exact Lf, ew⟩
          obtain ⟨t, e, ht⟩ := r6 j v c a b
          exact ⟨t, e, ksh.t _ _ ht⟩
        · walk_at "rs"
          refine ⟨d, c, _, rfl, D6, by decide, by decide, fun bb zs _ _ D7 => ?_⟩
          have k7 := Kp.drw (S := [d]) (zs := zs) D6 dd
          walk_at "rs"
          refine ite2 (fun h => ?_) (fun h => ?_)
          · walk_at "rs"
            refine ⟨d, c, w, rfl, D7, w1, w8, fun H8 u k8 D8 hu => ?_⟩
            walk_at "rs"
            rename_i lt2 hlt2
            exact hx _ _ ⟨.ref lt2, rfl, (k6.trans (k7.trans k8)).new hlt2, (k7.trans k8).new hlt2, D8.same (same_new hlt2), ⟨lt2, rfl, .inr ⟨u, w, upd_same, hu⟩⟩⟩
          · walk_at "rs"
            exact hx _ _ ⟨.ref lt, rfl, k6.trans k7, k7, D7, L6.tp k7.t⟩
end
end Zn
namespace Zn
open PySem PySem.Spec PyProof.Rows L2 TL
/-- words so far -/
def WdsTo (S : Sh) (ws : List Int) : Prop := ∀ (j : Nat) (c : Ch) (x : Int), S.chs[j]? = some c → ws[j]? = some x → Word c.2.1 x
theorem WdsTo.snoc {S : Sh} {ws : List Int} {c : Ch} {x : Int} (h : WdsTo S ws) (hc : S.chs[ws.length]? = some c) (hx : Word c.2.1 x) : WdsTo S (ws ++ [x]) := fun j c' x' hj hw => by
  by_cases hlt : j < ws.length
  · rw [List.getElem?_append_left hlt] at hw
    exact h j c' x' hj hw
  · have hjl := getL hw
    rw [List.length_append] at hjl
    have hjl : j < ws.length + 1 := hjl
    have : j = ws.length := by omega
    subst this
    rw [List.getElem?_concat_length] at hw
    cases hw
    rw [hc] at hj
    cases hj
    exact hx
theorem Wds.set {S : Sh} {ws : List Int} {x : Int} (OS : OkSh S) (h : Wds S ws) (hx : Word S.w x) : Wds S (ws.set S.spot x) :=
  ⟨by rw [List.length_set, h.len], fun j c y hc hy => by
    by_cases hj : j = S.spot
    · subst hj
      rw [OS.get] at hc
      cases hc
      rw [List.getElem?_set_self (by rw [h.len]; exact OS.lt)] at hy
      cases hy
      exact hx
    · rw [List.getElem?_set_ne (Ne.symm hj)] at hy
      exact h.wd j c y hc hy⟩
section
variable {P : Program} {w : World} {K : PySem.W.Frag} {mg : Str → Option Value} {base : Heap} {aR : Addr}
def spLimit : Sp := fun vs H Q _ => ∃ (d c sh ch : Addr) (S : Sh) (cs : List V) (lim : V) (num : Int), vs = [.ref d, .ref sh, .int S.w] ∧ Drw H d c ∧ OkSh S ∧ IsSh H sh S ch cs lim num ∧ LimAt H lim S.w ∧
  ∀ (H' : Hp) (l : Int), Kp [d] H H' → Drw H' d c → Q (.int l) H'
theorem ok_limit {f : Addr} {fd : FuncData} (F : Fun K "_law_limit" "_law_limit" s__law_limit f fd) (c__law_some_word : Cal P w K mg base "_law_some_word" 2 spSome) : FnOk P w K mg base CX0 3 f fd ["_law_d", "_law_shape_here", "_law_width"] spLimit := by
  refine F.ok sc__law_limit (fun vs H Q E h => ?_) (fun cdv A outer s H vs Q E hr h => ?_)
  · obtain ⟨d, c, sh, ch, S, cs, lim, num, rfl, _⟩ := h
    rfl
  · obtain ⟨d, c, sh, ch, S, cs, lim, num, rfl, hD, OS, IS, ⟨t, rfl, hl⟩, q⟩ := h
    refine ⟨_, 
      (pss_one (ps_ret (pe_ifExp (pt_cmpR op_eq (pe_ix (r := rIxT K) ix_tup (pe_ix (r := rIxT K) ix_tup (pv 1) pe_int (fun _ _ => rfl)) pe_int (fun _ _ => rfl)) pe_str (nomark _)) (pe_ix (r := rIxT K) ix_tup (pe_ix (r := rIxT K) ix_tup (pv 1) pe_int (fun _ _ => rfl)) pe_int (fun _ _ => rfl)) (Zn.pe_cal c__law_some_word (hr.mono (by decide)) (by rfl) (pa_cons (pv 0) (pa_cons (pv 2) pa_nil)))))), ?_⟩
    have hsh := IS.at_
    obtain ⟨w1, w8, _⟩ := OS.w1
    rcases hl with ⟨nm, ht⟩ | ⟨v, w', ht, hv⟩
    · walk_at "rs"
      refine ⟨d, c, _, rfl, hD, w1, w8, fun H1 n k1 D1 _ => q _ _ k1 D1⟩
    · walk_at "rs"
      exact q _ _ (.refl _ _) hD
def spWords : Sp := fun vs H Q _ => ∃ (d c sh ch : Addr) (l : Int) (S : Sh) (cs : List V) (lim : V) (num : Int), vs = [.ref d, .ref sh, .int (S.spot : Int), .int l] ∧ Drw H d c ∧ OkSh S ∧ IsSh H sh S ch cs lim num ∧
  ∀ (H' : Hp) (p : Addr) (ws : List Int), Kp [d] H H' → Drw H' d c → H' p = some (.tup (ws.map V.int)) → Wds S ws → Q (.ref p) H'
theorem ok_words {f : Addr} {fd : FuncData} (F : Fun K "_law_words" "_law_words" s__law_words f fd) (c__law_draw : Cal P w K mg base "_law_draw" 1 spDraw) (c__law_some_word : Cal P w K mg base "_law_some_word" 2 spSome) (T : Tx K mg aR) : FnOk P w K mg base CX0 3 f fd ["_law_d", "_law_shape_here", "_law_spot", "_law_limit_here"] spWords := by
  refine F.ok sc__law_words (fun vs H Q E h => ?_) (fun cdv A outer s H vs Q E hr h => ?_)
  · obtain ⟨d, c, sh, ch, l, S, cs, lim, num, rfl, _⟩ := h
    rfl
  · obtain ⟨d, c, sh, ch, l, S, cs, lim, num, rfl, hD, OS, IS, q⟩ := h
    refine ⟨_, 
      (pss_cons (ps_setLc (own := [("_law_change", 5)]) (i := 4) rfl sc__law_words.nd rfl rfl (sw_true rfl rfl rfl (by decide +kernel)) (pi_tup (pe_ix (r := rIxT K) ix_tup (pv 1) pe_int (fun _ _ => rfl))) (blkOk_by (N := ["_law_d", "_law_shape_here", "_law_spot", "_law_limit_here", "_law_words_here", "_law_change", "_law_full", "_law_way"]) (sc := defScope s__law_words) (by decide +kernel)) (fun _ _ _ _ _ => (pg_name (i := 5) sc__law_words.nd rfl (Or.inl rfl))) (fun _ _ _ _ _ => pts_nil) (fun _ _ _ _ _ => (Zn.pe_cal c__law_some_word (hr.mono (by decide)) (by rfl) (pa_cons (pv 0) (pa_cons (pe_ix (r := rIxT K) ix_tup (pv 5) pe_int (fun _ _ => rfl)) pa_nil)))))
      (pss_cons (ps_set (i := 6) sc__law_words.nd rfl (Or.inl rfl) (pe_op op_sub (pe_op op_shl pe_int (pe_ix (r := rIxT K) ix_tup (pe_ix (r := rIxT K) ix_tup (pe_ix (r := rIxT K) ix_tup (pv 1) pe_int (fun _ _ => rfl)) (pv 2) (fun _ _ => rfl)) pe_int (fun _ _ => rfl))) pe_int))
      (pss_cons (ps_set (i := 7) sc__law_words.nd rfl (Or.inl rfl) (Zn.pe_cal c__law_draw (hr.mono (by decide)) (by rfl) (pa_cons (pv 0) (pa_cons pe_int pa_nil))))
      (pss_cons (ps_if (pt_cmpR op_lt (pv 7) pe_int (nomark _)) 
       (pss_one (ps_asg (pe_op op_and (pe_op op_sub (pe_op op_add (pv 3) (pv 7)) pe_int) (pv 6)) (pg_sub (pv 4) (pv 2) set_list))) pss_nil)
      (pss_one (ps_ret (pe_callTy call_tuple_of (by rfl) T.z_tuple (by decide +kernel) (pa_cons (pv 4) pa_nil)))))))), ?_⟩
    have hsh := IS.at_
    obtain ⟨w1, w8, _⟩ := OS.w1
    have hl4 := OS.len
    have hcl := IS.len
    have hlt := OS.lt
    have hw2 := small0 (show 0 ≤ S.w by omega) w8
    walk_at "rs"
    refine r_ref ⟨_, st_of IS.ch⟩ fun C hC => ?_
    refine lcK walk_tup [d] (fun H' xs => ∃ ws : List Int, xs = ws.map V.int ∧ WdsTo S ws) (by omega) hC (notin1 (hD.nd hC).symm) hD (fun H' k => st_of (k.t _ _ IS.ch)) (fun _ _ _ _ h => h) ⟨[], rfl, fun j c x _ h => by simp at h⟩ (fun i x H1 H1' xs hi k1 D1 hx hl r1 hy put => ?_) (fun H1 xs k1 D1 hC1 hl1 r1 => ?_)
    · obtain ⟨rfl, hxi⟩ := hy
      obtain ⟨ws, rfl, hws⟩ := r1
      rw [List.length_map] at hl
      obtain ⟨c', hc⟩ : ∃ c, S.chs[i]? = some c := ⟨_, List.getElem?_eq_getElem (by omega)⟩
      obtain ⟨t, rfl, ht⟩ := IS.row i x c' hxi hc
      have ht1 := k1.t _ _ ht
      obtain ⟨c1, c8, cd⟩ := OS.wd c' (List.mem_of_getElem? hc)
      walk_at "rs"
      refine ⟨rfl, ?_⟩
      walk_at "rs"
      refine ⟨d, c, _, rfl, D1, c1, c8, fun H2 n k2 D2 hn => ?_⟩
      exact put _ _ k2 D2 ⟨ws ++ [n], by rw [List.map_append]; rfl, hws.snoc (by rw [hl]; exact hc) hn⟩
    · obtain ⟨ws, rfl, hws⟩ := r1
      rw [List.length_map] at hl1
      have WS : Wds S ws := ⟨by omega, hws⟩
      have IS1 := IS.tp k1.t
      have hsh1 := IS1.at_
      obtain ⟨t, et, ht⟩ := IS1.row S.spot cs[S.spot] S.at_ (List.getElem?_eq_getElem (by omega)) OS.get
      have ecs : cs[S.spot]? = some (.ref t) := by rw [List.getElem?_eq_getElem (by omega), et]
      have hch1 := IS1.ch
      have ht : H1 t = some (.tup [.str S.at_.1, .int S.w, .int S.d]) := ht
      have fC : H C = none := hC
      walk_at "rs"
      refine r_ixT (st_of hch1) (atI_lt (j := S.spot) rfl ecs) ?_
      walk_at "rs"
      refine ⟨d, c, _, rfl, D1, by decide, by decide, fun n zs n0 n1 D2 => ?_⟩
      have k2 : Kp [d] H1 (upd H1 d (.lst zs)) := .drw D1 (by simp)
      have hC2 := k2.x _ _ (notin1 (hD.nd hC).symm) hC1
      have k12 := k1.trans k2
      generalize upd H1 d (.lst zs) = H2 at D2 k12 hC2 ⊢
      walk_at "rs"
      refine ite2 (fun h => ?_) (fun h => ?_)
      · walk_at "rs"
        refine r_setL hC2 (ixN_at (by omega) (by rw [List.length_map, WS.len]; omega)) ?_
        rw [Int.toNat_natCast, ← List.map_set]
        have hm : Word S.w (Builtin.bitAnd (l + n - 1) (1 * 2 ^ S.w.toNat - 1)) := by
          have e : Builtin.bitAnd (l + n - 1) (1 * 2 ^ S.w.toNat - 1) = _ := mask_mod _ _
          rw [e]
          exact ⟨Int.emod_nonneg _ (Int.ne_of_gt (pow_pos' _)), Int.emod_lt_of_pos _ (pow_pos' _)⟩
        generalize Builtin.bitAnd (l + n - 1) (1 * 2 ^ S.w.toNat - 1) = y at hm ⊢
        have k3 := k12.mut (o := .lst ((ws.set S.spot y).map V.int)) fC hC2
        have D3 : Drw (upd H2 C (.lst ((ws.set S.spot y).map V.int))) d c := D2.upd (hD.nd hC) (hD.nc hC)
        have h3 : upd H2 C (.lst ((ws.set S.spot y).map V.int)) C = _ := upd_same
        generalize upd H2 C (.lst ((ws.set S.spot y).map V.int)) = H3 at k3 D3 h3 ⊢
        walk_at "rs"
        refine ⟨C, _, rfl, .inl ⟨sl_of h3, fun p hp => ?_⟩⟩
        exact q _ p _ (k3.new hp) (D3.same (same_new hp)) upd_same (WS.set OS hm)
      · walk_at "rs"
        refine ⟨C, _, rfl, .inl ⟨sl_of hC2, fun p hp => ?_⟩⟩
        exact q _ p ws (k12.new hp) (D2.same (same_new hp)) upd_same WS
def spEvery : Sp := fun vs H Q _ => ∃ (d c sh ch : Addr) (S : Sh) (cs : List V) (lim : V) (num : Int), vs = [.ref d, .ref sh, .int (S.spot : Int)] ∧ Drw H d c ∧ OkSh S ∧ IsSh H sh S ch cs lim num ∧ LimAt H lim S.w ∧ ∀ H', Q (.bl true) H'
theorem r_lims {b : Bool} {σ : L2.St} {H : Hp} {Q : VK} {n : Int} {t1 t2 : TE} (h1 : b = true → t1 σ H Q) (h2 : b = false → t2 σ H Q) : if b = true then t1 σ H Q else t2 σ H Q := by
  cases b
  · exact h2 rfl
  · exact h1 rfl
theorem ok_every {f : Addr} {fd : FuncData} (F : Fun K "_law_everywhere" "_law_everywhere" s__law_everywhere f fd) (c__law_right : Cal P w K mg base "_law_right" 6 spRight) (c__law_some_word : Cal P w K mg base "_law_some_word" 2 spSome) (T : Tx K mg aR) : FnOk P w K mg base CX0 7 f fd ["_law_d", "_law_shape_here", "_law_spot"] spEvery := by
  refine F.ok sc__law_everywhere (fun vs H Q E h => ?_) (fun cdv A outer s H vs Q E hr h => ?_)
  · obtain ⟨d, c, sh, ch, S, cs, lim, num, rfl, _⟩ := h
    rfl
  · obtain ⟨d, c, sh, ch, S, cs, lim, num, rfl, hD, OS, IS, ⟨t0, rfl, hl⟩, q⟩ := h
    refine ⟨_, 
      (pss_cons (ps_set (i := 3) sc__law_everywhere.nd rfl (Or.inl rfl) (pe_op op_shl pe_int (pe_ix (r := rIxT K) ix_tup (pe_ix (r := rIxT K) ix_tup (pe_ix (r := rIxT K) ix_tup (pv 1) pe_int (fun _ _ => rfl)) (pv 2) (fun _ _ => rfl)) pe_int (fun _ _ => rfl))))
      (pss_cons (ps_set (i := 4) sc__law_everywhere.nd rfl (Or.inl rfl) (pe_ifExp (pt_cmpR op_eq (pe_ix (r := rIxT K) ix_tup (pe_ix (r := rIxT K) ix_tup (pv 1) pe_int (fun _ _ => rfl)) pe_int (fun _ _ => rfl)) pe_str (nomark _)) (pe_listRg rfl (by rfl) T.z_list (prg_1 (by rfl) T.z_range (pv 3))) (pe_lst (pa_cons (pe_ix (r := rIxT K) ix_tup (pe_ix (r := rIxT K) ix_tup (pv 1) pe_int (fun _ _ => rfl)) pe_int (fun _ _ => rfl)) pa_nil))))
      (pss_cons (ps_setLc (own := [("_law_change", 6)]) (i := 5) rfl sc__law_everywhere.nd rfl rfl (sw_true rfl rfl rfl (by decide +kernel)) (pi_tup (pe_ix (r := rIxT K) ix_tup (pv 1) pe_int (fun _ _ => rfl))) (blkOk_by (N := ["_law_d", "_law_shape_here", "_law_spot", "_law_many", "_law_limits", "_law_others", "_law_change", "_law_limit_here", "_law_word"]) (sc := defScope s__law_everywhere) (by decide +kernel)) (fun _ _ _ _ _ => (pg_name (i := 6) sc__law_everywhere.nd rfl (Or.inl rfl))) (fun _ _ _ _ _ => pts_nil) (fun _ _ _ _ _ => (Zn.pe_cal c__law_some_word (hr.mono (by decide)) (by rfl) (pa_cons (pv 0) (pa_cons (pe_ix (r := rIxT K) ix_tup (pv 6) pe_int (fun _ _ => rfl)) pa_nil)))))
      (pss_cons (ps_for PassesOwn.never rfl (pi_list (pv 4)) (pg_name (i := 7) sc__law_everywhere.nd rfl (Or.inl rfl)) 
       (pss_one (ps_for PassesOwn.never rfl (pi_range1 (by rfl) T.z_range (pa_cons (pv 3) pa_nil)) (pg_name (i := 8) sc__law_everywhere.nd rfl (Or.inl rfl)) 
        (pss_one (ps_if (pt_not (pt_val (Zn.pe_cal c__law_right (hr.mono (by decide)) (by rfl) (pa_cons (pv 1) (pa_cons (pv 2) (pa_cons (pv 7) (pa_cons (pe_callTy call_tuple_of (by rfl) T.z_tuple (by decide +kernel) (pa_cons (pe_op op_cat (pe_op op_cat (pe_slice (r := rSlL K) sl_list (pv 5) po_none (po_some (pv 2))) (pe_lst (pa_cons (pv 8) pa_nil))) (pe_slice (r := rSlL K) sl_list (pv 5) (po_some (pe_op op_add (pv 2) pe_int)) po_none)) pa_nil)) pa_nil))))))) 
         (pss_one (ps_ret pe_bl)) pss_nil)))))
      (pss_one (ps_ret pe_bl)))))), ?_⟩
    have hsh := IS.at_
    have hch := IS.ch
    obtain ⟨w1, w8, _⟩ := OS.w1
    have hl4 := OS.len
    have hcl := IS.len
    have hlt := OS.lt
    have hw2 := small0 (show 0 ≤ S.w by omega) w8
    obtain ⟨t, et, ht⟩ := IS.row S.spot cs[S.spot] S.at_ (List.getElem?_eq_getElem (by omega)) OS.get
    have ecs : cs[S.spot]? = some (.ref t) := by rw [List.getElem?_eq_getElem (by omega), et]
    have ht : H t = some (.tup [.str S.at_.1, .int S.w, .int S.d]) := ht
    walk_at "rs"
    refine r_ixT (st_of hch) (atI_lt (j := S.spot) rfl ecs) ?_
    walk_at "rt"
    refine seq_nx (fun σ H' => ∃ lp, ∃ ls : List Int, σ = [some (.ref d), some (.ref sh), some (.int (S.spot : Int)), some (.int (1 * 2 ^ S.w.toNat)), some (.ref lp), none, none, none, none] ∧ Same H H' ∧ H' lp = some (.lst (ls.map V.int)) ∧ H lp = none ∧ ls.length ≤ 300) ?_ (fun nx' hx => ?_)
    rotate_left
    · rcases hl with ⟨nm, ht0⟩ | ⟨v, w', ht0, hv⟩
      · walk_at "rs"
        refine ⟨_, rfl, _, rfl, .of_le (by omega) (by omega) (by omega) (by omega), fun lp hlp => ?_⟩
        walk_at "rs"
        have e : rgV 0 (1 * 2 ^ S.w.toNat) = ((List.range (1 * 2 ^ S.w.toNat - 0 : Int).toNat).map fun i : Nat => 0 + (i : Int)).map V.int := by
          unfold rgV
          rw [List.map_map]
          rfl
        refine hx _ _ ⟨lp, _, rfl, same_new hlp, by rw [upd_same, e], hlp, ?_⟩
        rw [List.length_map, List.length_range]
        omega
      · walk_at "rs"
        rename_i lp hlp
        exact hx _ _ ⟨lp, [v], rfl, same_new hlp, upd_same, hlp, by show 1 ≤ 300; decide⟩
    rintro σ H1 ⟨lp, ls, rfl, s1, h1, fl_, ll⟩
    have IS1 := IS.tp (Same.tp s1)
    have hsh1 := IS1.at_
    have D1 := hD.same s1
    have nlpd : lp ≠ d := (hD.nd fl_).symm
    walk_at "rs"
    refine r_ref ⟨_, st_of IS1.ch⟩ fun C hC => ?_
    have nCd : C ≠ d := (D1.nd hC).symm
    refine lcK walk_tup [d] (fun H' xs => ∃ ws : List Int, xs = ws.map V.int ∧ WdsTo S ws) (by omega) hC (notin1 nCd) D1 (fun H' k => st_of (k.t _ _ IS1.ch)) (fun _ _ _ _ h => h) ⟨[], rfl, fun j c x _ h => by simp at h⟩ (fun i x H2 H2' xs hi k1 D2 hx hl' r1 hy put => ?_) (fun H2 xs k1 D2 hC1 hl1 r1 => ?_)
    · obtain ⟨rfl, hxi⟩ := hy
      obtain ⟨ws, rfl, hws⟩ := r1
      rw [List.length_map] at hl'
      obtain ⟨c', hc⟩ : ∃ c, S.chs[i]? = some c := ⟨_, List.getElem?_eq_getElem (by omega)⟩
      obtain ⟨t2, rfl, ht2⟩ := IS1.row i x c' hxi hc
      have ht2 := k1.t _ _ ht2
      obtain ⟨c1, c8, cd⟩ := OS.wd c' (List.mem_of_getElem? hc)
      walk_at "rs"
      refine ⟨rfl, ?_⟩
      walk_at "rs"
      refine ⟨d, c, _, rfl, D2, c1, c8, fun H3 n k2 D3 hn => ?_⟩
      exact put _ _ k2 D3 ⟨ws ++ [n], by rw [List.map_append]; rfl, hws.snoc (by rw [hl']; exact hc) hn⟩
    · obtain ⟨ws, rfl, hws⟩ := r1
      rw [List.length_map] at hl1
      have WS : Wds S ws := ⟨by omega, hws⟩
      have IS2 := IS1.tp k1.t
      have h2 := k1.x _ _ (notin1 nlpd) h1
      walk_at "rs"
      refine r_ref ⟨_, sl_of h2⟩ ?_
      refine fl (K := K) (a := lp) (xs := ls.map V.int) (fun i σ H' => ∃ v6 v7 v8, σ = [some (.ref d), some (.ref sh), some (.int (S.spot : Int)), some (.int (1 * 2 ^ S.w.toNat)), some (.ref lp), some (.ref C), v6, v7, v8] ∧ Same H2 H') ⟨_, _, _, rfl, Same.refl _⟩ (fun i σ H' _ ⟨_, _, _, _, s⟩ => sl_of (s _ _ h2)) ?_ ?_
      · rintro i x σ H3 hi ⟨v6, v7, v8, rfl, s3⟩
        obtain ⟨l, rfl, hl'⟩ := map_get hi
        walk_at "rs"
        refine fr (fun i σ H' => ∃ v6 v8, σ = [some (.ref d), some (.ref sh), some (.int (S.spot : Int)), some (.int (1 * 2 ^ S.w.toNat)), some (.ref lp), some (.ref C), v6, some (.int l), v8] ∧ Same H2 H') ⟨_, _, rfl, s3⟩ ?_ ?_
        · rintro j σ H4 hj ⟨v6, v8, rfl, s4⟩
          have hC4 := s4 _ _ hC1
          walk_at "rs"
          refine r_slL (sl_of hC4) fun p1 hp1 => ?_
          rw [cutV_to, ← List.map_take]
          walk_at "rs"
          rename_i p2 hp2
          refine r_cat (at_new hp2 upd_same) upd_same (len_ok (by rw [List.length_map, List.length_take, WS.len]; show _ + 1 ≤ _; omega)) fun p3 hp3 => ?_
          rw [cat_int1]
          have s5 : Same H4 (upd (upd (upd H4 p1 (.lst ((ws.take S.spot).map V.int))) p2 (.lst [.int (0 + (j : Int))])) p3 (.lst ((ws.take S.spot ++ [0 + (j : Int)]).map V.int))) := ((same_new hp1).trans (same_new hp2)).trans (same_new hp3)
          have h5 : (upd (upd (upd H4 p1 (.lst ((ws.take S.spot).map V.int))) p2 (.lst [.int (0 + (j : Int))])) p3 (.lst ((ws.take S.spot ++ [0 + (j : Int)]).map V.int))) p3 = _ := upd_same
          generalize upd (upd (upd H4 p1 (.lst ((ws.take S.spot).map V.int))) p2 (.lst [.int (0 + (j : Int))])) p3 (.lst ((ws.take S.spot ++ [0 + (j : Int)]).map V.int)) = H5 at s5 h5 ⊢
          walk_at "rs"
          refine r_slL (sl_of (s5 _ _ hC4)) fun p4 hp4 => ?_
          rw [show ((S.spot : Int) + 1) = ((S.spot + 1 : Nat) : Int) by simp, cutV_from, ← List.map_drop]
          refine r_cat (at_new hp4 h5) upd_same (len_ok (by rw [List.length_map, List.length_map, List.length_append, List.length_take, List.length_drop, WS.len]; show _ + 1 + _ ≤ _; omega)) fun p5 hp5 => ?_
          rw [cat_ints]
          have eset : ws.take S.spot ++ [0 + (j : Int)] ++ ws.drop (S.spot + 1) = ws.set S.spot (0 + (j : Int)) := by
            rw [List.set_eq_take_append_cons_drop, if_pos (by rw [WS.len]; exact hlt), List.append_assoc]
            rfl
          rw [eset]
          have s6 : Same H5 (upd (upd H5 p4 (.lst ((ws.drop (S.spot + 1)).map V.int))) p5 (.lst ((ws.set S.spot (0 + (j : Int))).map V.int))) := (same_new hp4).trans (same_new hp5)
          have h6 : (upd (upd H5 p4 (.lst ((ws.drop (S.spot + 1)).map V.int))) p5 (.lst ((ws.set S.spot (0 + (j : Int))).map V.int))) p5 = _ := upd_same
          generalize upd (upd H5 p4 (.lst ((ws.drop (S.spot + 1)).map V.int))) p5 (.lst ((ws.set S.spot (0 + (j : Int))).map V.int)) = H6 at s6 h6 ⊢
          walk_at "rs"
          refine ⟨p5, _, rfl, .inl ⟨sl_of h6, fun p6 hp6 => ?_⟩⟩
          have s7 := ((s4.trans s5).trans s6).trans (same_new (o := .tup ((ws.set S.spot (0 + (j : Int))).map V.int)) hp6)
          walk_at "rs"
          refine ⟨sh, p6, ch, l, num, _, cs, S, ws.set S.spot (0 + (j : Int)), rfl, OS, IS2.tp (Same.tp s7), upd_same, WS.set OS ⟨by omega, by omega⟩, fun H8 s8 => ?_⟩
          walk_at "rs"
          exact ⟨_, _, rfl, s7.trans s8⟩
        · rintro σ H4 ⟨v6, v8, rfl, s4⟩
          walk_at "rs"
          exact ⟨_, _, _, rfl, s4⟩
      · rintro σ H3 ⟨v6, v7, v8, rfl, s3⟩
        walk_at "rs"
        exact q _
end
end Zn
namespace Zn
open PySem PySem.Spec PyProof.Rows L2 TL
section
variable {P : Program} {w : World} {K : PySem.W.Frag} {mg : Str → Option Value} {base : Heap} {aR : Addr}
def spLaw (K : PySem.W.Frag) : Sp := fun vs H Q _ => ∃ (a : Addr) (ns : List Int), vs = [.ref a] ∧ SqL K H a (ns.map V.int) ∧ ns.length ≤ 63 ∧ ∀ H', Q (.bl true) H'
theorem ok_law {f : Addr} {fd : FuncData} (F : Fun K "law" "law" s_law f fd) (c__law_begin : Cal P w K mg base "_law_begin" 1 (spBegin K)) (c__law_draw : Cal P w K mg base "_law_draw" 1 spDraw) (c__law_shape : Cal P w K mg base "_law_shape" 3 spShape) (c__law_limit : Cal P w K mg base "_law_limit" 3 spLimit)
    (c__law_words : Cal P w K mg base "_law_words" 3 spWords) (c__law_right : Cal P w K mg base "_law_right" 6 spRight) (c__law_everywhere : Cal P w K mg base "_law_everywhere" 7 spEvery) (T : Tx K mg aR) :
    FnOk P w K mg base CX0 8 f fd ["_law_script"] (spLaw K) := by
  refine F.ok sc_law (fun vs H Q E h => ?_) (fun cdv A outer s H vs Q E hr h => ?_)
  · obtain ⟨a, ns, rfl, _⟩ := h
    rfl
  · obtain ⟨a, ns, rfl, hS, hl, q⟩ := h
    refine ⟨_, 
      (pss_cons (ps_set (i := 1) sc_law.nd rfl (Or.inr rfl) (Zn.pe_cal c__law_begin (hr.mono (by decide)) (by rfl) (pa_cons (pv 0) pa_nil)))
      (pss_cons (ps_setLc (own := [("_law_k", 3)]) (i := 2) rfl sc_law.nd rfl rfl (sw_true rfl rfl rfl (by decide +kernel)) (pi_range1 (by rfl) T.z_range (pa_cons (pe_op op_add pe_int (Zn.pe_cal c__law_draw (hr.mono (by decide)) (by rfl) (pa_cons (pv 1) (pa_cons pe_int pa_nil)))) pa_nil)) (blkOk_by (N := ["_law_script", "_law_d", "_law_made", "_law_k", "_law_turn", "_law_shape_here", "_law_spot", "_law_limit_here"]) (sc := defScope s_law) (by decide +kernel)) (fun _ _ _ _ _ => (pg_name (i := 3) sc_law.nd rfl (Or.inl rfl))) (fun _ _ _ _ _ => pts_nil) (fun _ _ _ _ _ => (Zn.pe_cal c__law_shape (hr.mono (by decide)) (by rfl) (pa_cons (pv 1) (pa_cons (pe_op op_add pe_int (Zn.pe_cal c__law_draw (hr.mono (by decide)) (by rfl) (pa_cons (pv 1) (pa_cons pe_int pa_nil)))) pa_nil)))))
      (pss_cons (ps_for PassesOwn.never rfl (pi_range1 (by rfl) T.z_range (pa_cons (pe_op op_add pe_int (Zn.pe_cal c__law_draw (hr.mono (by decide)) (by rfl) (pa_cons (pv 1) (pa_cons pe_int pa_nil)))) pa_nil)) (pg_name (i := 4) sc_law.nd rfl (Or.inl rfl)) 
       (pss_one (ps_for PassesOwn.never rfl (pi_list (pv 2)) (pg_tup (by rfl) (pgs_cons (pg_name (i := 5) sc_law.nd rfl (Or.inl rfl)) (pgs_cons (pg_name (i := 6) sc_law.nd rfl (Or.inl rfl)) pgs_nil))) 
        (pss_cons (ps_set (i := 7) sc_law.nd rfl (Or.inl rfl) (Zn.pe_cal c__law_limit (hr.mono (by decide)) (by rfl) (pa_cons (pv 1) (pa_cons (pv 5) (pa_cons (pe_ix (r := rIxT K) ix_tup (pe_ix (r := rIxT K) ix_tup (pe_ix (r := rIxT K) ix_tup (pv 5) pe_int (fun _ _ => rfl)) (pv 6) (fun _ _ => rfl)) pe_int (fun _ _ => rfl)) pa_nil)))))
        (pss_one (ps_if (pt_not (pt_val (Zn.pe_cal c__law_right (hr.mono (by decide)) (by rfl) (pa_cons (pv 5) (pa_cons (pv 6) (pa_cons (pv 7) (pa_cons (Zn.pe_cal c__law_words (hr.mono (by decide)) (by rfl) (pa_cons (pv 1) (pa_cons (pv 5) (pa_cons (pv 6) (pa_cons (pv 7) pa_nil))))) pa_nil))))))) 
         (pss_one (ps_ret pe_bl)) pss_nil))))))
      (pss_cons (ps_if (pt_cmpR op_eq (Zn.pe_cal c__law_draw (hr.mono (by decide)) (by rfl) (pa_cons (pv 1) (pa_cons pe_int pa_nil))) pe_int (nomark _)) 
       (pss_cons (ps_asg (Zn.pe_cal c__law_shape (hr.mono (by decide)) (by rfl) (pa_cons (pv 1) (pa_cons (pe_op op_add pe_int (Zn.pe_cal c__law_draw (hr.mono (by decide)) (by rfl) (pa_cons (pv 1) (pa_cons pe_int pa_nil)))) pa_nil))) (pg_tup (by rfl) (pgs_cons (pg_name (i := 5) sc_law.nd rfl (Or.inl rfl)) (pgs_cons (pg_name (i := 6) sc_law.nd rfl (Or.inl rfl)) pgs_nil))))
       (pss_one (ps_ret (Zn.pe_cal c__law_everywhere (hr.mono (by decide)) (by rfl) (pa_cons (pv 1) (pa_cons (pv 5) (pa_cons (pv 6) pa_nil))))))) pss_nil)
      (pss_one (ps_ret pe_bl)))))), ?_⟩
    have dd : ∀ d : Addr, d ∈ [d] := fun d => by simp
    walk_at "rs"
    refine ⟨a, ns, rfl, hS, hl, fun H1 d c s1 hd D1 => ?_⟩
    walk_at "rs"
    refine ⟨d, c, _, rfl, D1, by decide, by decide, fun n zs n0 n1 D2 => ?_⟩
    generalize upd H1 d (.lst zs) = H2 at D2 ⊢
    walk_at "rs"
    intro C hC
    have nCd : C ≠ d := (D2.nd hC).symm
    refine lcK walk_range [d] (fun H' xs => ∀ v ∈ xs, ∃ w, Made H' v w) (by omega) hC (notin1 nCd) D2 (fun _ _ => trivial) (fun H H' xs k h v hv => by obtain ⟨w, m⟩ := h v hv; exact ⟨w, m.tp k.t⟩) all_nil (fun i x H3 H3' xs hi k3 D3 hx hl' r3 hy put => ?_) (fun H3 xs k3 D3 hC3 hl3 r3 => ?_)
    · obtain ⟨rfl, rfl⟩ := hy
      walk_at "rs"
      refine ⟨rfl, ?_⟩
      walk_at "rs"
      refine ⟨d, c, _, rfl, D3, by decide, by decide, fun w zs w0 w1 D4 => ?_⟩
      have k4 : Kp [d] H3' (upd H3' d (.lst zs)) := .drw D3 (dd d)
      generalize upd H3' d (.lst zs) = H4 at D4 k4 ⊢
      walk_at "rs"
      refine ⟨d, c, _, rfl, D4, by omega, by omega, fun H5 v k5 D5 M5 => ?_⟩
      refine put _ _ (k4.trans k5) D5 fun u hu => ?_
      rcases List.mem_append.mp hu with hu | hu
      · obtain ⟨w', m⟩ := r3 u hu
        exact ⟨w', m.tp (k4.trans k5).t⟩
      · rw [List.mem_singleton] at hu
        subst hu
        exact ⟨_, M5⟩
    walk_at "rs"
    refine ⟨d, c, _, rfl, D3, by decide, by decide, fun n2 zs n20 n21 D4 => ?_⟩
    have k4 : Kp [d] H3 (upd H3 d (.lst zs)) := .drw D3 (dd d)
    have hC4 := k4.x _ _ (notin1 nCd) hC3
    have r4 : ∀ v ∈ xs, ∃ w, Made (upd H3 d (.lst zs)) v w := fun v hv => by obtain ⟨w, m⟩ := r3 v hv; exact ⟨w, m.tp k4.t⟩
    generalize upd H3 d (.lst zs) = H4 at D4 hC4 r4 ⊢
    walk_at "rs"
    refine fr (fun i σ H' => ∃ v3 v4 v5 v6 v7, σ = [some (.ref a), some (.ref d), some (.ref C), v3, v4, v5, v6, v7] ∧ Kp [d] H4 H' ∧ Drw H' d c) ⟨_, _, _, _, _, rfl, .refl _ _, D4⟩ ?_ ?_
    · rintro i σ H5 hi ⟨v3, v4, v5, v6, v7, rfl, k5, D5⟩
      walk_at "rs"
      refine r_ref ⟨_, sl_of (k5.x _ _ (notin1 nCd) hC4)⟩ ?_
      refine fl (K := K) (a := C) (xs := xs) (fun i σ H' => ∃ v3 v4 v5 v6 v7, σ = [some (.ref a), some (.ref d), some (.ref C), v3, v4, v5, v6, v7] ∧ Kp [d] H4 H' ∧ Drw H' d c) ⟨_, _, _, _, _, rfl, k5, D5⟩ (fun i σ H' _ ⟨_, _, _, _, _, _, k, _⟩ => sl_of (k.x _ _ (notin1 nCd) hC4)) ?_ ?_
      · rintro j x σ H6 hj ⟨v3, v4, v5, v6, v7, rfl, k6, D6⟩
        obtain ⟨w, M⟩ := r4 x (List.mem_of_getElem? hj)
        obtain ⟨p, sh, ch, S, cs, lim, num, rfl, hp, OS, IS, L, ew⟩ := M.tp k6.t
        have hcl : S.spot < cs.length := by rw [IS.len]; exact OS.lt
        obtain ⟨t, et, ht⟩ := IS.row S.spot cs[S.spot] S.at_ (List.getElem?_eq_getElem hcl) OS.get
        have ecs : cs[S.spot]? = some (.ref t) := by rw [List.getElem?_eq_getElem hcl, et]
        have ht : H6 t = some (.tup [.str S.at_.1, .int S.w, .int S.d]) := ht
        have hsh := IS.at_
        have hch := IS.ch
        walk_at "rs"
        refine r_ixT (st_of hch) (atI_lt (j := S.spot) rfl ecs) ?_
        walk_at "rs"
        refine ⟨d, c, sh, ch, S, cs, lim, num, rfl, D6, OS, IS, L, fun H7 l k7 D7 => ?_⟩
        walk_at "rs"
        refine ⟨d, c, sh, ch, l, S, cs, lim, num, rfl, D7, OS, IS.tp k7.t, fun H8 wp ws k8 D8 hwp WS => ?_⟩
        walk_at "rs"
        refine ⟨sh, wp, ch, l, num, lim, cs, S, ws, rfl, OS, (IS.tp k7.t).tp k8.t, hwp, WS, fun H9 s9 => ?_⟩
        walk_at "rs"
        exact ⟨_, _, _, _, _, rfl, ((k6.trans k7).trans k8).trans (.same s9), D8.same s9⟩
      · rintro σ H6 ⟨v3, v4, v5, v6, v7, rfl, k6, D6⟩
        walk_at "rs"
        exact ⟨_, _, _, _, _, rfl, k6, D6⟩
    · rintro σ H5 ⟨v3, v4, v5, v6, v7, rfl, k5, D5⟩
      walk_at "rs"
      refine ⟨d, c, _, rfl, D5, by decide, by decide, fun n6 zs n60 n61 D6 => ?_⟩
      generalize upd H5 d (.lst zs) = H6 at D6 ⊢
      walk_at "rs"
      refine ite2 (fun h => ?_) (fun h => ?_)
      · walk_at "rs"
        refine ⟨d, c, _, rfl, D6, by decide, by decide, fun n7 zs n70 n71 D7 => ?_⟩
        generalize upd H6 d (.lst zs) = H7 at D7 ⊢
        walk_at "rs"
        refine ⟨d, c, _, rfl, D7, by omega, by omega, fun H8 v k8 D8 M => ?_⟩
        obtain ⟨p, sh, ch, S, cs, lim, num, rfl, hp, OS, IS, L, ew⟩ := M
        walk_at "rs"
        exact ⟨d, c, sh, ch, S, cs, lim, num, rfl, D8, OS, IS, L, fun H9 => q _⟩
      · walk_at "rs"
        exact q _
end
end Zn
namespace Zn
open PySem PySem.Spec PyProof.Rows L2 TL
theorem all_mk {l : PySem.W.OpenLaw} {w : World} {K : PySem.W.Frag} {h : Heap} {mg : Str → Option Value} {fa : Addr} {f0 : Addr} {od0 an0 : Option Addr} {sl0 : Array (Option Value)} {oc0 kV0 dc0 pm0 cd0 ct0 : Value}
    {f1 : Addr} {od1 an1 : Option Addr} {sl1 : Array (Option Value)} {oc1 kV1 dc1 pm1 cd1 ct1 : Value}
    {f2 : Addr} {od2 an2 : Option Addr} {sl2 : Array (Option Value)} {oc2 kV2 dc2 pm2 cd2 ct2 : Value}
    {f3 : Addr} {od3 an3 : Option Addr} {sl3 : Array (Option Value)} {oc3 kV3 dc3 pm3 cd3 ct3 : Value}
    {f4 : Addr} {od4 an4 : Option Addr} {sl4 : Array (Option Value)} {oc4 kV4 dc4 pm4 cd4 ct4 : Value}
    {f5 : Addr} {od5 an5 : Option Addr} {sl5 : Array (Option Value)} {oc5 kV5 dc5 pm5 cd5 ct5 : Value}
    {f6 : Addr} {od6 an6 : Option Addr} {sl6 : Array (Option Value)} {oc6 kV6 dc6 pm6 cd6 ct6 : Value}
    {f7 : Addr} {od7 an7 : Option Addr} {sl7 : Array (Option Value)} {oc7 kV7 dc7 pm7 cd7 ct7 : Value}
    {f8 : Addr} {od8 an8 : Option Addr} {sl8 : Array (Option Value)} {oc8 kV8 dc8 pm8 cd8 ct8 : Value}
    {f9 : Addr} {od9 an9 : Option Addr} {sl9 : Array (Option Value)} {oc9 kV9 dc9 pm9 cd9 ct9 : Value}
    {f10 : Addr} {od10 an10 : Option Addr} {sl10 : Array (Option Value)} {oc10 kV10 dc10 pm10 cd10 ct10 : Value}
    {f11 : Addr} {od11 an11 : Option Addr} {sl11 : Array (Option Value)} {oc11 kV11 dc11 pm11 cd11 ct11 : Value}
    {f12 : Addr} {od12 an12 : Option Addr} {sl12 : Array (Option Value)} {oc12 kV12 dc12 pm12 cd12 ct12 : Value}
    {f13 : Addr} {od13 an13 : Option Addr} {sl13 : Array (Option Value)} {oc13 kV13 dc13 pm13 cd13 ct13 : Value}
    {f14 : Addr} {od14 an14 : Option Addr} {sl14 : Array (Option Value)} {oc14 kV14 dc14 pm14 cd14 ct14 : Value}
    {f15 : Addr} {od15 an15 : Option Addr} {sl15 : Array (Option Value)} {oc15 kV15 dc15 pm15 cd15 ct15 : Value}
    {f16 : Addr} {od16 an16 : Option Addr} {sl16 : Array (Option Value)} {oc16 kV16 dc16 pm16 cd16 ct16 : Value}
    {f17 : Addr} {od17 an17 : Option Addr} {sl17 : Array (Option Value)} {oc17 kV17 dc17 pm17 cd17 ct17 : Value}
    {f18 : Addr} {od18 an18 : Option Addr} {sl18 : Array (Option Value)} {oc18 kV18 dc18 pm18 cd18 ct18 : Value}
    {f19 : Addr} {od19 an19 : Option Addr} {sl19 : Array (Option Value)} {oc19 kV19 dc19 pm19 cd19 ct19 : Value}
    {f20 : Addr} {od20 an20 : Option Addr} {sl20 : Array (Option Value)} {oc20 kV20 dc20 pm20 cd20 ct20 : Value}
    {f21 : Addr} {od21 an21 : Option Addr} {sl21 : Array (Option Value)} {oc21 kV21 dc21 pm21 cd21 ct21 : Value}
    {aR : Addr} {odaR : Option Addr} {naR : Nat} {slaR : Array (Option Value)} {taR0 taR1 taR2 taR3 : Tok} (X : K.In h) (G : h.Ns mainGlobals mg) (hfa : mg "law" = some (.ref fa))
    (a0 : PySem.W.nsIn K mainGlobals "result" = some (some (.ref f0))) (l0 : K.lookup f0 = some ⟨oc0, od0, .func (PySem.W.fnOf "result" "result" (defArgs s_result) (defBody s_result) (defScope s_result) .none kV0 dc0 pm0 an0 cd0 ct0), sl0⟩) (c0 : PySem.W.codeIn K cd0 "result" = true) (k0 : PySem.W.keepIn K (.ref f0) = true)
    (a1 : PySem.W.nsIn K mainGlobals "_of_one" = some (some (.ref f1))) (l1 : K.lookup f1 = some ⟨oc1, od1, .func (PySem.W.fnOf "_of_one" "_of_one" (defArgs s__of_one) (defBody s__of_one) (defScope s__of_one) .none kV1 dc1 pm1 an1 cd1 ct1), sl1⟩) (c1 : PySem.W.codeIn K cd1 "_of_one" = true) (k1 : PySem.W.keepIn K (.ref f1) = true)
    (a2 : PySem.W.nsIn K mainGlobals "_related" = some (some (.ref f2))) (l2 : K.lookup f2 = some ⟨oc2, od2, .func (PySem.W.fnOf "_related" "_related" (defArgs s__related) (defBody s__related) (defScope s__related) .none kV2 dc2 pm2 an2 cd2 ct2), sl2⟩) (c2 : PySem.W.codeIn K cd2 "_related" = true) (k2 : PySem.W.keepIn K (.ref f2) = true)
    (a3 : PySem.W.nsIn K mainGlobals "_of_two" = some (some (.ref f3))) (l3 : K.lookup f3 = some ⟨oc3, od3, .func (PySem.W.fnOf "_of_two" "_of_two" (defArgs s__of_two) (defBody s__of_two) (defScope s__of_two) .none kV3 dc3 pm3 an3 cd3 ct3), sl3⟩) (c3 : PySem.W.codeIn K cd3 "_of_two" = true) (k3 : PySem.W.keepIn K (.ref f3) = true)
    (a4 : PySem.W.nsIn K mainGlobals "_divided" = some (some (.ref f4))) (l4 : K.lookup f4 = some ⟨oc4, od4, .func (PySem.W.fnOf "_divided" "_divided" (defArgs s__divided) (defBody s__divided) (defScope s__divided) .none kV4 dc4 pm4 an4 cd4 ct4), sl4⟩) (c4 : PySem.W.codeIn K cd4 "_divided" = true) (k4 : PySem.W.keepIn K (.ref f4) = true)
    (a5 : PySem.W.nsIn K mainGlobals "turns" = some (some (.ref f5))) (l5 : K.lookup f5 = some ⟨oc5, od5, .func (PySem.W.fnOf "turns" "turns" (defArgs s_turns) (defBody s_turns) (defScope s_turns) .none kV5 dc5 pm5 an5 cd5 ct5), sl5⟩) (c5 : PySem.W.codeIn K cd5 "turns" = true) (k5 : PySem.W.keepIn K (.ref f5) = true)
    (a6 : PySem.W.nsIn K mainGlobals "left_with" = some (some (.ref f6))) (l6 : K.lookup f6 = some ⟨oc6, od6, .func (PySem.W.fnOf "left_with" "left_with" (defArgs s_left_with) (defBody s_left_with) (defScope s_left_with) .none kV6 dc6 pm6 an6 cd6 ct6), sl6⟩) (c6 : PySem.W.codeIn K cd6 "left_with" = true) (k6 : PySem.W.keepIn K (.ref f6) = true)
    (a7 : PySem.W.nsIn K mainGlobals "_law_begin" = some (some (.ref f7))) (l7 : K.lookup f7 = some ⟨oc7, od7, .func (PySem.W.fnOf "_law_begin" "_law_begin" (defArgs s__law_begin) (defBody s__law_begin) (defScope s__law_begin) .none kV7 dc7 pm7 an7 cd7 ct7), sl7⟩) (c7 : PySem.W.codeIn K cd7 "_law_begin" = true) (k7 : PySem.W.keepIn K (.ref f7) = true)
    (a8 : PySem.W.nsIn K mainGlobals "_law_draw" = some (some (.ref f8))) (l8 : K.lookup f8 = some ⟨oc8, od8, .func (PySem.W.fnOf "_law_draw" "_law_draw" (defArgs s__law_draw) (defBody s__law_draw) (defScope s__law_draw) .none kV8 dc8 pm8 an8 cd8 ct8), sl8⟩) (c8 : PySem.W.codeIn K cd8 "_law_draw" = true) (k8 : PySem.W.keepIn K (.ref f8) = true)
    (a9 : PySem.W.nsIn K mainGlobals "_law_pick" = some (some (.ref f9))) (l9 : K.lookup f9 = some ⟨oc9, od9, .func (PySem.W.fnOf "_law_pick" "_law_pick" (defArgs s__law_pick) (defBody s__law_pick) (defScope s__law_pick) .none kV9 dc9 pm9 an9 cd9 ct9), sl9⟩) (c9 : PySem.W.codeIn K cd9 "_law_pick" = true) (k9 : PySem.W.keepIn K (.ref f9) = true)
    (a10 : PySem.W.nsIn K mainGlobals "_law_pop" = some (some (.ref f10))) (l10 : K.lookup f10 = some ⟨oc10, od10, .func (PySem.W.fnOf "_law_pop" "_law_pop" (defArgs s__law_pop) (defBody s__law_pop) (defScope s__law_pop) .none kV10 dc10 pm10 an10 cd10 ct10), sl10⟩) (c10 : PySem.W.codeIn K cd10 "_law_pop" = true) (k10 : PySem.W.keepIn K (.ref f10) = true)
    (a11 : PySem.W.nsIn K mainGlobals "_law_pool" = some (some (.ref f11))) (l11 : K.lookup f11 = some ⟨oc11, od11, .func (PySem.W.fnOf "_law_pool" "_law_pool" (defArgs s__law_pool) (defBody s__law_pool) (defScope s__law_pool) .none kV11 dc11 pm11 an11 cd11 ct11), sl11⟩) (c11 : PySem.W.codeIn K cd11 "_law_pool" = true) (k11 : PySem.W.keepIn K (.ref f11) = true)
    (a12 : PySem.W.nsIn K mainGlobals "_law_is_int" = some (some (.ref f12))) (l12 : K.lookup f12 = some ⟨oc12, od12, .func (PySem.W.fnOf "_law_is_int" "_law_is_int" (defArgs s__law_is_int) (defBody s__law_is_int) (defScope s__law_is_int) .none kV12 dc12 pm12 an12 cd12 ct12), sl12⟩) (c12 : PySem.W.codeIn K cd12 "_law_is_int" = true) (k12 : PySem.W.keepIn K (.ref f12) = true)
    (a13 : PySem.W.nsIn K mainGlobals "_law_holds" = some (some (.ref f13))) (l13 : K.lookup f13 = some ⟨oc13, od13, .func (PySem.W.fnOf "_law_holds" "_law_holds" (defArgs s__law_holds) (defBody s__law_holds) (defScope s__law_holds) .none kV13 dc13 pm13 an13 cd13 ct13), sl13⟩) (c13 : PySem.W.codeIn K cd13 "_law_holds" = true) (k13 : PySem.W.keepIn K (.ref f13) = true)
    (a14 : PySem.W.nsIn K mainGlobals "_law_stepped" = some (some (.ref f14))) (l14 : K.lookup f14 = some ⟨oc14, od14, .func (PySem.W.fnOf "_law_stepped" "_law_stepped" (defArgs s__law_stepped) (defBody s__law_stepped) (defScope s__law_stepped) .none kV14 dc14 pm14 an14 cd14 ct14), sl14⟩) (c14 : PySem.W.codeIn K cd14 "_law_stepped" = true) (k14 : PySem.W.keepIn K (.ref f14) = true)
    (a15 : PySem.W.nsIn K mainGlobals "_law_right" = some (some (.ref f15))) (l15 : K.lookup f15 = some ⟨oc15, od15, .func (PySem.W.fnOf "_law_right" "_law_right" (defArgs s__law_right) (defBody s__law_right) (defScope s__law_right) .none kV15 dc15 pm15 an15 cd15 ct15), sl15⟩) (c15 : PySem.W.codeIn K cd15 "_law_right" = true) (k15 : PySem.W.keepIn K (.ref f15) = true)
    (a16 : PySem.W.nsIn K mainGlobals "_law_some_word" = some (some (.ref f16))) (l16 : K.lookup f16 = some ⟨oc16, od16, .func (PySem.W.fnOf "_law_some_word" "_law_some_word" (defArgs s__law_some_word) (defBody s__law_some_word) (defScope s__law_some_word) .none kV16 dc16 pm16 an16 cd16 ct16), sl16⟩) (c16 : PySem.W.codeIn K cd16 "_law_some_word" = true) (k16 : PySem.W.keepIn K (.ref f16) = true)
    (a17 : PySem.W.nsIn K mainGlobals "_law_shape" = some (some (.ref f17))) (l17 : K.lookup f17 = some ⟨oc17, od17, .func (PySem.W.fnOf "_law_shape" "_law_shape" (defArgs s__law_shape) (defBody s__law_shape) (defScope s__law_shape) .none kV17 dc17 pm17 an17 cd17 ct17), sl17⟩) (c17 : PySem.W.codeIn K cd17 "_law_shape" = true) (k17 : PySem.W.keepIn K (.ref f17) = true)
    (a18 : PySem.W.nsIn K mainGlobals "_law_limit" = some (some (.ref f18))) (l18 : K.lookup f18 = some ⟨oc18, od18, .func (PySem.W.fnOf "_law_limit" "_law_limit" (defArgs s__law_limit) (defBody s__law_limit) (defScope s__law_limit) .none kV18 dc18 pm18 an18 cd18 ct18), sl18⟩) (c18 : PySem.W.codeIn K cd18 "_law_limit" = true) (k18 : PySem.W.keepIn K (.ref f18) = true)
    (a19 : PySem.W.nsIn K mainGlobals "_law_words" = some (some (.ref f19))) (l19 : K.lookup f19 = some ⟨oc19, od19, .func (PySem.W.fnOf "_law_words" "_law_words" (defArgs s__law_words) (defBody s__law_words) (defScope s__law_words) .none kV19 dc19 pm19 an19 cd19 ct19), sl19⟩) (c19 : PySem.W.codeIn K cd19 "_law_words" = true) (k19 : PySem.W.keepIn K (.ref f19) = true)
    (a20 : PySem.W.nsIn K mainGlobals "_law_everywhere" = some (some (.ref f20))) (l20 : K.lookup f20 = some ⟨oc20, od20, .func (PySem.W.fnOf "_law_everywhere" "_law_everywhere" (defArgs s__law_everywhere) (defBody s__law_everywhere) (defScope s__law_everywhere) .none kV20 dc20 pm20 an20 cd20 ct20), sl20⟩) (c20 : PySem.W.codeIn K cd20 "_law_everywhere" = true) (k20 : PySem.W.keepIn K (.ref f20) = true)
    (a21 : PySem.W.nsIn K mainGlobals "law" = some (some (.ref f21))) (l21 : K.lookup f21 = some ⟨oc21, od21, .func (PySem.W.fnOf "law" "law" (defArgs s_law) (defBody s_law) (defScope s_law) .none kV21 dc21 pm21 an21 cd21 ct21), sl21⟩) (c21 : PySem.W.codeIn K cd21 "law" = true) (k21 : PySem.W.keepIn K (.ref f21) = true)
    (gaR : PySem.W.nsIn K mainGlobals "RELATIONS" = some (some (.ref aR))) (laR : K.lookup aR = some ⟨.type "tuple", odaR, .seq #[.str "==" taR0, .str "!=" taR1, .str "<" taR2, .str "<=" taR3] naR, slaR⟩)
    (z_abs : PySem.W.nsIn K mainGlobals "abs" = some none) (z_all : PySem.W.nsIn K mainGlobals "all" = some none) (z_bool : PySem.W.nsIn K mainGlobals "bool" = some none) (z_int : PySem.W.nsIn K mainGlobals "int" = some none) (z_isinstance : PySem.W.nsIn K mainGlobals "isinstance" = some none) (z_len : PySem.W.nsIn K mainGlobals "len" = some none) (z_list : PySem.W.nsIn K mainGlobals "list" = some none) (z_range : PySem.W.nsIn K mainGlobals "range" = some none) (z_tuple : PySem.W.nsIn K mainGlobals "tuple" = some none) (z_zip : PySem.W.nsIn K mainGlobals "zip" = some none) :
    ∃ fd : FuncData, (∀ (s : Shared) (v : Value), BindsTo s fd ⟨[v], []⟩ [("_law_script", v)]) ∧ ∀ base : Heap, K.In base → base.Ns mainGlobals mg → FnOk l.prog w K mg base CX0 8 fa fd ["_law_script"] (spLaw K) := by
  have e := hfa.symm.trans (PySem.W.mg_of X G a21)
  cases e
  have T : Tx K mg aR := { z_abs := PySem.W.mg_none_of X G z_abs, z_all := PySem.W.mg_none_of X G z_all, z_bool := PySem.W.mg_none_of X G z_bool, z_int := PySem.W.mg_none_of X G z_int, z_isinstance := PySem.W.mg_none_of X G z_isinstance, z_len := PySem.W.mg_none_of X G z_len, z_list := PySem.W.mg_none_of X G z_list, z_range := PySem.W.mg_none_of X G z_range, z_tuple := PySem.W.mg_none_of X G z_tuple, z_zip := PySem.W.mg_none_of X G z_zip, g_RELATIONS := PySem.W.mg_of X G gaR, q_RELATIONS := fun H => .inr ⟨_, _, _, laR, rfl, rfl, Nat.le_of_ble_eq_true rfl, .cons ⟨_, rfl⟩ (.cons ⟨_, rfl⟩ (.cons ⟨_, rfl⟩ (.cons ⟨_, rfl⟩ (.nil))))⟩ }
  have F0 := fun_mk (st := s_result) l0 c0 k0
  have m0 := PySem.W.mg_of X G a0
  have F1 := fun_mk (st := s__of_one) l1 c1 k1
  have m1 := PySem.W.mg_of X G a1
  have F2 := fun_mk (st := s__related) l2 c2 k2
  have m2 := PySem.W.mg_of X G a2
  have F3 := fun_mk (st := s__of_two) l3 c3 k3
  have m3 := PySem.W.mg_of X G a3
  have F4 := fun_mk (st := s__divided) l4 c4 k4
  have m4 := PySem.W.mg_of X G a4
  have F5 := fun_mk (st := s_turns) l5 c5 k5
  have m5 := PySem.W.mg_of X G a5
  have F6 := fun_mk (st := s_left_with) l6 c6 k6
  have m6 := PySem.W.mg_of X G a6
  have F7 := fun_mk (st := s__law_begin) l7 c7 k7
  have m7 := PySem.W.mg_of X G a7
  have F8 := fun_mk (st := s__law_draw) l8 c8 k8
  have m8 := PySem.W.mg_of X G a8
  have F9 := fun_mk (st := s__law_pick) l9 c9 k9
  have m9 := PySem.W.mg_of X G a9
  have F10 := fun_mk (st := s__law_pop) l10 c10 k10
  have m10 := PySem.W.mg_of X G a10
  have F11 := fun_mk (st := s__law_pool) l11 c11 k11
  have m11 := PySem.W.mg_of X G a11
  have F12 := fun_mk (st := s__law_is_int) l12 c12 k12
  have m12 := PySem.W.mg_of X G a12
  have F13 := fun_mk (st := s__law_holds) l13 c13 k13
  have m13 := PySem.W.mg_of X G a13
  have F14 := fun_mk (st := s__law_stepped) l14 c14 k14
  have m14 := PySem.W.mg_of X G a14
  have F15 := fun_mk (st := s__law_right) l15 c15 k15
  have m15 := PySem.W.mg_of X G a15
  have F16 := fun_mk (st := s__law_some_word) l16 c16 k16
  have m16 := PySem.W.mg_of X G a16
  have F17 := fun_mk (st := s__law_shape) l17 c17 k17
  have m17 := PySem.W.mg_of X G a17
  have F18 := fun_mk (st := s__law_limit) l18 c18 k18
  have m18 := PySem.W.mg_of X G a18
  have F19 := fun_mk (st := s__law_words) l19 c19 k19
  have m19 := PySem.W.mg_of X G a19
  have F20 := fun_mk (st := s__law_everywhere) l20 c20 k20
  have m20 := PySem.W.mg_of X G a20
  have F21 := fun_mk (st := s_law) l21 c21 k21
  have m21 := PySem.W.mg_of X G a21
  refine ⟨PySem.W.fnOf "law" "law" (defArgs s_law) (defBody s_law) (defScope s_law) .none kV21 dc21 pm21 an21 cd21 ct21, fun s v => .of_eq rfl, fun base _ _ => ?_⟩
  have c__divided := cal_of (N := []) m4 F4 (fun _ _ _ _ _ _ us hl => match us, hl with | [_, _, _], _ => rfl) (ok_divided (P := l.prog) (w := w) (base := base) F4)
  have c__of_one := cal_of (N := []) m1 F1 (fun _ _ _ _ _ _ us hl => match us, hl with | [_, _], _ => rfl) (ok_of_one (P := l.prog) (w := w) (base := base) F1)
  have c__related := cal_of (N := []) m2 F2 (fun _ _ _ _ _ _ us hl => match us, hl with | [_, _, _], _ => rfl) (ok_related (P := l.prog) (w := w) (base := base) F2)
  have c__of_two := cal_of (N := []) m3 F3 (fun _ _ _ _ _ _ us hl => match us, hl with | [_, _, _, _], _ => rfl) (ok_of_two (P := l.prog) (w := w) (base := base) F3 c__divided)
  have c_result := cal_result (P := l.prog) (w := w) (base := base) F0 m0 c__of_one c__related c__of_two T.toTWord
  have c_turns := cal_of (N := []) m5 F5 (fun _ _ _ _ _ _ us hl => match us, hl with | [_, _, _], _ => rfl) (ok_turns (P := l.prog) (w := w) (base := base) F5 c_result T)
  have c_left_with := cal_of (N := []) m6 F6 (fun _ _ _ _ _ _ us hl => match us, hl with | [_, _, _], _ => rfl) (ok_left (P := l.prog) (w := w) (base := base) F6 c_turns T)
  have c__law_begin := cal_of (N := []) m7 F7 (fun _ _ _ _ _ _ us hl => match us, hl with | [_], _ => rfl) (ok_begin (P := l.prog) (w := w) (base := base) F7 T.toTDraw)
  have c__law_draw := cal_of (N := []) m8 F8 (fun _ _ _ _ _ _ us hl => match us, hl with | [_, _], _ => rfl) (ok_draw (P := l.prog) (w := w) (base := base) F8 T.toTDraw)
  have c__law_pick := cal_of (N := []) m9 F9 (fun _ _ _ _ _ _ us hl => match us, hl with | [_, _], _ => rfl) (ok_pick (P := l.prog) (w := w) (base := base) F9 c__law_draw T.toTDraw)
  have c__law_pop := cal_of (N := []) m10 F10 (fun _ _ _ _ _ _ us hl => match us, hl with | [_, _], _ => rfl) (ok_pop (P := l.prog) (w := w) (base := base) F10 c__law_draw T.toTDraw)
  have c__law_pool := cal_of (N := []) m11 F11 (fun _ _ _ _ _ _ us hl => match us, hl with | [], _ => rfl) (ok_pool (P := l.prog) (w := w) (base := base) F11 T.toTDraw)
  have c__law_is_int := cal_of (N := []) m12 F12 (fun _ _ _ _ _ _ us hl => match us, hl with | [_], _ => rfl) (ok_is_int (P := l.prog) (w := w) (base := base) F12 T)
  have c__law_holds := cal_of (N := []) m13 F13 (fun _ _ _ _ _ _ us hl => match us, hl with | [_, _, _], _ => rfl) (ok_holds (P := l.prog) (w := w) (base := base) F13)
  have c__law_stepped := cal_of (N := []) m14 F14 (fun _ _ _ _ _ _ us hl => match us, hl with | [_, _, _, _], _ => rfl) (ok_stepped (P := l.prog) (w := w) (base := base) F14 c__law_holds T)
  have c__law_right := cal_of (N := []) m15 F15 (fun _ _ _ _ _ _ us hl => match us, hl with | [_, _, _, _], _ => rfl) (ok_right (P := l.prog) (w := w) (base := base) F15 c_turns c_left_with c__law_stepped c__law_is_int T)
  have c__law_some_word := cal_of (N := []) m16 F16 (fun _ _ _ _ _ _ us hl => match us, hl with | [_, _], _ => rfl) (ok_some (P := l.prog) (w := w) (base := base) F16 c__law_draw)
  have c__law_shape := cal_of (N := []) m17 F17 (fun _ _ _ _ _ _ us hl => match us, hl with | [_, _], _ => rfl) (ok_shape (P := l.prog) (w := w) (base := base) F17 c__law_draw c__law_pick c__law_pop c__law_pool c__law_some_word T)
  have c__law_limit := cal_of (N := []) m18 F18 (fun _ _ _ _ _ _ us hl => match us, hl with | [_, _, _], _ => rfl) (ok_limit (P := l.prog) (w := w) (base := base) F18 c__law_some_word)
  have c__law_words := cal_of (N := []) m19 F19 (fun _ _ _ _ _ _ us hl => match us, hl with | [_, _, _, _], _ => rfl) (ok_words (P := l.prog) (w := w) (base := base) F19 c__law_draw c__law_some_word T)
  have c__law_everywhere := cal_of (N := []) m20 F20 (fun _ _ _ _ _ _ us hl => match us, hl with | [_, _, _], _ => rfl) (ok_every (P := l.prog) (w := w) (base := base) F20 c__law_right c__law_some_word T)
  exact ok_law F21 c__law_begin c__law_draw c__law_shape c__law_limit c__law_words c__law_right c__law_everywhere T
theorem walk {l : PySem.W.OpenLaw} {q : Program} {loose : List Str} {XP : (Str → Option Value) → Heap → Prop} {YP : World → Heap → Prop} {d : DefRec} {K : Params → PySem.W.Frag} (hn : l.most = some 63) (hdf : d.params.defaults = [])
    (hY : ∀ (w : World) (h : Heap), YP w h → (K w.params).In h)
    (F : ∀ (w : World) (mg : Str → Option Value) (fa : Addr) (h : Heap), (K w.params).In h → h.Ns mainGlobals mg → mg d.name = some (.ref fa) →
      ∃ fd : FuncData, (∀ (s : Shared) (u : Value), BindsTo s fd ⟨[u], []⟩ [("_law_script", u)]) ∧ ∀ base : Heap, (K w.params).In base → base.Ns mainGlobals mg → FnOk l.prog w (K w.params) mg base CX0 8 fa fd ["_law_script"] (spLaw (K w.params))) :
    PySem.W.WalkO q loose XP YP l.row.toRowW d [] (fun f vs => PySem.call f vs) :=
  L2.walk_of (n := 63) (k := 8) (x := "_law_script") (CX := fun _ => CX0) (sp := fun w => spLaw (K w.params)) hn (by decide) hdf ⟨rfl, by decide, by decide⟩ hY F (fun _ _ a ns hl _ hS => ⟨a, ns, rfl, hS, hl, fun _ => rfl⟩) fun _ _ _ _ _ z => z
end Zn

open PySem PySem.W PyProof.Rows in
set_option maxRecDepth 100000 in
set_option maxHeartbeats 0 in
theorem PySem.Challenge.cw_metorshut_k53_turns_holds : PySem.Challenge.rw_metorshut_k53_turns.Holds := by
  w_on; o_law; k_head; (case hw => w_witness2)
  k_fill
  refine Zn.walk (l := PySem.Challenge.rw_metorshut_k53_turns) rfl rfl (fun w h Y => PySem.W.kIn_of Y) ?F
  case F =>
    intro w mg fa h KX G hmg
    refine' Zn.all_mk KX G hmg ?a0 ?l0 ?c0 ?k0 ?a1 ?l1 ?c1 ?k1 ?a2 ?l2 ?c2 ?k2 ?a3 ?l3 ?c3 ?k3 ?a4 ?l4 ?c4 ?k4 ?a5 ?l5 ?c5 ?k5 ?a6 ?l6 ?c6 ?k6 ?a7 ?l7 ?c7 ?k7 ?a8 ?l8 ?c8 ?k8 ?a9 ?l9 ?c9 ?k9 ?a10 ?l10 ?c10 ?k10 ?a11 ?l11 ?c11 ?k11 ?a12 ?l12 ?c12 ?k12 ?a13 ?l13 ?c13 ?k13 ?a14 ?l14 ?c14 ?k14 ?a15 ?l15 ?c15 ?k15 ?a16 ?l16 ?c16 ?k16 ?a17 ?l17 ?c17 ?k17 ?a18 ?l18 ?c18 ?k18 ?a19 ?l19 ?c19 ?k19 ?a20 ?l20 ?c20 ?k20 ?a21 ?l21 ?c21 ?k21 ?gaR ?laR ?z_abs ?z_all ?z_bool ?z_int ?z_isinstance ?z_len ?z_list ?z_range ?z_tuple ?z_zip
    (case a0 => k_is)
    (case l0 => k_is)
    (case c0 => k_is)
    (case k0 => k_is)
    (case a1 => k_is)
    (case l1 => k_is)
    (case c1 => k_is)
    (case k1 => k_is)
    (case a2 => k_is)
    (case l2 => k_is)
    (case c2 => k_is)
    (case k2 => k_is)
    (case a3 => k_is)
    (case l3 => k_is)
    (case c3 => k_is)
    (case k3 => k_is)
    (case a4 => k_is)
    (case l4 => k_is)
    (case c4 => k_is)
    (case k4 => k_is)
    (case a5 => k_is)
    (case l5 => k_is)
    (case c5 => k_is)
    (case k5 => k_is)
    (case a6 => k_is)
    (case l6 => k_is)
    (case c6 => k_is)
    (case k6 => k_is)
    (case a7 => k_is)
    (case l7 => k_is)
    (case c7 => k_is)
    (case k7 => k_is)
    (case a8 => k_is)
    (case l8 => k_is)
    (case c8 => k_is)
    (case k8 => k_is)
    (case a9 => k_is)
    (case l9 => k_is)
    (case c9 => k_is)
    (case k9 => k_is)
    (case a10 => k_is)
    (case l10 => k_is)
    (case c10 => k_is)
    (case k10 => k_is)
    (case a11 => k_is)
    (case l11 => k_is)
    (case c11 => k_is)
    (case k11 => k_is)
    (case a12 => k_is)
    (case l12 => k_is)
    (case c12 => k_is)
    (case k12 => k_is)
    (case a13 => k_is)
    (case l13 => k_is)
    (case c13 => k_is)
    (case k13 => k_is)
    (case a14 => k_is)
    (case l14 => k_is)
    (case c14 => k_is)
    (case k14 => k_is)
    (case a15 => k_is)
    (case l15 => k_is)
    (case c15 => k_is)
    (case k15 => k_is)
    (case a16 => k_is)
    (case l16 => k_is)
    (case c16 => k_is)
    (case k16 => k_is)
    (case a17 => k_is)
    (case l17 => k_is)
    (case c17 => k_is)
    (case k17 => k_is)
    (case a18 => k_is)
    (case l18 => k_is)
    (case c18 => k_is)
    (case k18 => k_is)
    (case a19 => k_is)
    (case l19 => k_is)
    (case c19 => k_is)
    (case k19 => k_is)
    (case a20 => k_is)
    (case l20 => k_is)
    (case c20 => k_is)
    (case k20 => k_is)
    (case a21 => k_is)
    (case l21 => k_is)
    (case c21 => k_is)
    (case k21 => k_is)
    (case gaR => k_is)
    (case laR => k_is)
    (case z_abs => k_is)
    (case z_all => k_is)
    (case z_bool => k_is)
    (case z_int => k_is)
    (case z_isinstance => k_is)
    (case z_len => k_is)
    (case z_list => k_is)
    (case z_range => k_is)
    (case z_tuple => k_is)
    (case z_zip => k_is)
#print axioms PySem.Challenge.cw_metorshut_k53_turns_holds
