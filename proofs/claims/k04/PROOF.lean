import PyProof.Rows.All
import Wide.All
import OpenK.AllK
import Wide.FinOn
import HandS.ForMost
import HandS.More
import HandS.Star
import HandS.IsInst
import HandS.TupAny
import HandS.Text
import HandS.Iter
import PySem.Challenge.RW_metorshut_k04_tokens
set_option Elab.async false
set_option linter.all false
set_option maxRecDepth 100000
set_option maxHeartbeats 4000000
/-! my own layer over the modules: what a reading asks, taken step by step; callees by name -/
namespace Zn
open PySem PySem.Spec PyProof.Rows L2

section
variable {σ : L2.St} {H : Hp} {K : PySem.W.Frag} {Q : VK} {ta tb te tl : TE} {t u c : TT} {D : Ends} {t1 t2 : TS} {g : TG} {i : Nat} {v x y : V} {r : R2} {tr : TA}
theorem r_var (h : σ[i]? = some (some v)) (q : Q v H) : tVar i σ H Q := ⟨v, h, q⟩
theorem r_c (q : Q v H) : tC v σ H Q := q
theorem r_op (q : ta σ H fun x H1 => tb σ H1 fun y H2 => r x y H2 Q) : tOp r ta tb σ H Q := q
theorem r_un {f : V → Hp → VK → Prop} (q : ta σ H fun x H1 => f x H1 Q) : tUn f ta σ H Q := q
theorem r_test {Q : Bool → Hp → Prop} (q : te σ H fun x H' => ∃ k, x = .bl k ∧ Q k H') : tTest te σ H Q := q
theorem r_B {Q : Bool → Hp → Prop} (q : te σ H fun x H' => ∃ k, x = .bl k ∧ Q k H') : tB te σ H Q := q
theorem r_bl {b : Bool} {R : Bool → Prop} (q : R b) : ∃ k, V.bl b = V.bl k ∧ R k := ⟨b, rfl, q⟩
theorem r_I0 {g : Int → Int → V} {i j : Int} (q : Q (g i j) H) : rI0 g (.int i) (.int j) H Q := ⟨i, j, rfl, rfl, q⟩
theorem r_I {C : Int → Int → Prop} {g : Int → Int → V} {i j : Int} (h : C i j) (q : Q (g i j) H) : rI C g (.int i) (.int j) H Q := ⟨i, j, rfl, rfl, h, q⟩
theorem r_U {g : Int → V} {i : Int} (q : Q (g i) H) : rU g (.int i) H Q := ⟨i, rfl, q⟩
theorem r_ipI {f : Int → Int → Int} {i j : Int} (q : Q (.int (f i j)) H) : ipI f (.int i) (.int j) H Q := ⟨i, j, rfl, rfl, q⟩
theorem r_eq (h : scal x y = true) (q : Q (.bl (decide (x = y))) H) : rEq x y H Q := ⟨h, q⟩
theorem r_ne (h : scal x y = true) (q : Q (.bl (!decide (x = y))) H) : rNe x y H Q := ⟨h, q⟩
theorem r_seq (q : t1 { D with nx := t2 D } σ H) : tSeq t1 t2 D σ H := q
theorem r_asg (q : te σ H fun x H1 => g x σ H1 D.nx) : tAsg te g D σ H := q
theorem r_gname {Q : L2.St → Hp → Prop} (q : Q (σ.set i (some v)) H) : gName i v σ H Q := q
theorem r_gsub {to ti : TE} {s : TSet} {Q : L2.St → Hp → Prop} (q : to σ H fun o H1 => ti σ H1 fun i H2 => s o i v H2 fun H3 => Q σ H3) : gSub to ti s v σ H Q := q
theorem r_setL {p : Addr} {xs : List V} {k : Int} {j : Nat} {Q : Hp → Prop} (h : H p = some (.lst xs)) (e : ixN xs.length k = some j) (q : Q (upd H p (.lst (xs.set j v)))) : rSetL (.ref p) (.int k) v H Q := ⟨p, xs, k, j, rfl, rfl, h, e, q⟩
theorem r_ret (q : te σ H D.rt) : tRet te D σ H := q
theorem r_next (q : D.nx σ H) : tNext D σ H := q
theorem r_drop (q : te σ H fun _ H1 => D.nx σ H1) : tDrop te D σ H := q
theorem r_ifs (q : c σ H fun b H1 => if b = true then t1 D σ H1 else t2 D σ H1) : tIfS c t1 t2 D σ H := q
theorem r_if (q : t σ H fun c H1 => if c = true then ta σ H1 Q else tb σ H1 Q) : tIf t ta tb σ H Q := q
theorem r_cons {Q : List V → Hp → Prop} (q : ta σ H fun x H1 => tr σ H1 fun xs H2 => Q (x :: xs) H2) : tCons ta tr σ H Q := q
theorem r_nil {Q : List V → Hp → Prop} (q : Q [] H) : tNil σ H Q := q
theorem r_CB {f : List V → Hp → VK → Prop} (q : tr σ H fun vs H1 => f vs H1 Q) : tCB f tr σ H Q := q
theorem r_and {Q : Bool → Hp → Prop} (q : t σ H fun c H1 => if c = true then u σ H1 Q else Q false H1) : tAnd t u σ H Q := q
theorem r_or {Q : Bool → Hp → Prop} (q : t σ H fun c H1 => if c = true then Q true H1 else u σ H1 Q) : tOr t u σ H Q := q
theorem r_not {Q : Bool → Hp → Prop} (q : t σ H fun c H1 => Q (!c) H1) : tNot t σ H Q := q
theorem r_notV {b : Bool} (q : ta σ H fun x H1 => ∃ c, x = .bl c ∧ Q (.bl (!c)) H1) : tNotV ta σ H Q := q
theorem r_andV (q : ta σ H fun x H1 => ∃ c, x = .bl c ∧ if c = true then tb σ H1 Q else Q (.bl false) H1) : tAndV ta tb σ H Q := q
theorem r_orV (q : ta σ H fun x H1 => ∃ c, x = .bl c ∧ if c = true then Q (.bl true) H1 else tb σ H1 Q) : tOrV ta tb σ H Q := q
theorem r_notV' (q : ta σ H fun x H1 => ∃ c, x = .bl c ∧ Q (.bl (!c)) H1) : tNotV ta σ H Q := q
theorem r_ixL {p : Addr} {xs : List V} {i : Int} (h : SqL K H p xs) (e : atI xs i = some v) (q : Q v H) : rIxL K (.ref p) (.int i) H Q := ⟨p, xs, i, v, rfl, rfl, h, e, q⟩
theorem r_ixT {p : Addr} {xs : List V} {i : Int} (h : SqT K H p xs) (e : atI xs i = some v) (q : Q v H) : rIxT K (.ref p) (.int i) H Q := ⟨p, xs, i, v, rfl, rfl, h, e, q⟩
theorem r_in {neg : Bool} {p : Addr} {xs : List V} (h : SqL K H p xs ∨ SqT K H p xs) (e1 : flatV x = true) (e2 : xs.all flatV = true) (q : Q (.bl (if neg then !inV x xs else inV x xs)) H) : rIn K neg x (.ref p) H Q := ⟨p, xs, rfl, h, e1, e2, q⟩
theorem r_tup {xs : List V} {R : VK} (h : xs.length ≤ sizeLine) (q : ∀ p, H p = none → R (.ref p) (upd H p (.tup xs))) : xs.length ≤ sizeLine ∧ ∀ p, H p = none → R (.ref p) (upd H p (.tup xs)) := ⟨h, q⟩
theorem r_tTup (q : tr σ H fun xs H1 => xs.length ≤ sizeLine ∧ ∀ p, H1 p = none → Q (.ref p) (upd H1 p (.tup xs))) : tTup tr σ H Q := q
theorem r_tLst (q : tr σ H fun xs H1 => xs.length ≤ sizeLine ∧ ∀ p, H1 p = none → Q (.ref p) (upd H1 p (.lst xs))) : tLst tr σ H Q := q
theorem r_one {i : Int} {R : Int → Prop} (q : R i) : ∃ j, [V.int i] = [V.int j] ∧ R j := ⟨i, rfl, q⟩
theorem r_int1 {i : Int} {R : Int → Prop} {B : Bool → Prop} (q : R i) : (∃ j, [V.int i] = [V.int j] ∧ R j) ∨ ∃ k, [V.int i] = [V.bl k] ∧ B k := .inl ⟨i, rfl, q⟩
theorem r_int1b {b : Bool} {R : Int → Prop} {B : Bool → Prop} (q : B b) : (∃ j, [V.bl b] = [V.int j] ∧ R j) ∨ ∃ k, [V.bl b] = [V.bl k] ∧ B k := .inr ⟨b, rfl, q⟩
theorem r_aug {ti : TIp} (h : σ[i]? = some (some v)) (q : te σ H fun y H1 => ti v y H1 fun z H2 => D.nx (σ.set i (some z)) H2) : tAug i te ti D σ H := ⟨v, h, q⟩
theorem r_augS {to ti : TE} {tget : V → V → Hp → VK → Prop} {tip : TIp} {tset : TSet} (q : to σ H fun o H1 => ti σ H1 fun i H2 => tget o i H2 fun x H3 => te σ H3 fun y H4 => tip x y H4 fun z H5 => tset o i z H5 fun H6 => D.nx σ H6) : tAugS to ti te tget tip tset D σ H := q
theorem r_BM {T : String} {f : V → List V → Hp → VK → Prop} (q : ta σ H fun x H1 => tyV K T x H1 ∧ tr σ H1 fun xs H2 => f x xs H2 Q) : tBM K T f ta tr σ H Q := q
theorem r_BM0 {T : String} {f : V → List V → Hp → VK → Prop} (q : ta σ H fun x H1 => tyV K T x H1 ∧ f x [] H1 Q) : tBM0 K T f ta σ H Q := q
theorem r_tupd {a : Addr} {xs : List V} {n : Nat} {ts : TGs} {Q : L2.St → Hp → Prop} (h : SqT K H a xs) (e : xs.length = n) (q : ts xs σ H Q) : gTup K n ts (.ref a) σ H Q := ⟨a, xs, rfl, h, e, q⟩
theorem r_gcons {ts : TGs} {vs : List V} {Q : L2.St → Hp → Prop} (q : g v σ H fun σ' H' => ts vs σ' H' Q) : gCons g ts (v :: vs) σ H Q := ⟨v, vs, rfl, q⟩
theorem r_gnil {Q : L2.St → Hp → Prop} (q : Q σ H) : gNil [] σ H Q := ⟨rfl, q⟩
theorem r_par {j : Nat} {ta : TA} (q : ta σ H fun vs H1 => ∃ v w, vs = [v, w] ∧ D.nx ((σ.set i (some v)).set j (some w)) H1) : tPar i j ta D σ H := q
theorem r_len {p : Addr} {xs : List V} {R : List V → Prop} (h : SqL K H p xs ∨ SqT K H p xs) (q : R xs) : ∃ p' ys, [V.ref p] = [V.ref p'] ∧ (SqL K H p' ys ∨ SqT K H p' ys) ∧ R ys := ⟨p, xs, rfl, h, q⟩
theorem r_yes {Q : Bool → Hp → Prop} (q : Q true H) : tYes σ H Q := q
theorem sl_of {a : Addr} {xs : List V} (h : H a = some (.lst xs)) : SqL K H a xs := .inl (.inl h)
theorem st_of {a : Addr} {xs : List V} (h : H a = some (.tup xs)) : SqT K H a xs := .inl (.inl h)
end
theorem same_new' {H : Hp} {p : Addr} {o : HO} (h : H p = none) : Same H (upd H p o) := fun b x e => by
  rw [upd_ne (ne_of_none e h)]
  exact e
theorem r_iteT {c : Prop} [Decidable c] {A B : Prop} (h : c) (q : A) : if c then A else B := by
  rw [if_pos h]
  exact q
theorem r_iteF {c : Prop} [Decidable c] {A B : Prop} (h : ¬ c) (q : B) : if c then A else B := by
  rw [if_neg h]
  exact q
section
variable {σ : L2.St} {H : Hp} {K : PySem.W.Frag} {Q : VK} {ta tb te tl : TE} {t u c : TT} {D : Ends} {t1 t2 : TS} {g : TG} {i : Nat} {v x y : V} {r : R2} {tr : TA}
theorem r_tupN {xs : List V} {R : V → Hp → Prop} (h : xs.length ≤ sizeLine) (q : ∀ p, H p = none → R (.ref p) (upd H p (.tup xs))) : xs.length ≤ sizeLine ∧ ∀ p, H p = none → R (.ref p) (upd H p (.tup xs)) := ⟨h, q⟩
theorem r_two {v w : V} {R : V → V → Prop} (q : R v w) : ∃ a b, [v, w] = [a, b] ∧ R a b := ⟨v, w, rfl, q⟩
theorem r_twoI {i j : Int} {R : Int → Int → Prop} (q : R i j) : ∃ a b, [V.int i, V.int j] = [V.int a, V.int b] ∧ R a b := ⟨i, j, rfl, q⟩
theorem r_for {wi : TI} {tb : TS} (q : wi σ H fun J H1 => ∃ W : Nat → Nat → L2.St → Hp → Prop, (∃ m, W 0 m σ H1) ∧ ∀ i m σ H, W i m σ H → (J.stop i H ∧ D.nx σ H) ∨ (J.go i H ∧ ∃ N : L2.St → Hp → Prop, (∀ σ' H', N σ' H' → ∃ m', m' < m ∧ W (i + 1) m' σ' H') ∧ ∀ x H', J.yld i H x H' → g x σ H' fun σ2 H2 => tb { D with nx := N, ct := N, bk := D.nx } σ2 H2)) : tFor wi g tb D σ H := q
theorem r_rng1 {R : It → Hp → Prop} (q : tr σ H fun vs H1 => ∃ j : Int, vs = [.int j] ∧ -(2 ^ 62) ≤ j ∧ j < 2 ^ 62 ∧ R (Itr 0 j.toNat) H1) : iRng1 tr σ H R := q
theorem r_rng {j : Int} {R : Int → Prop} (h1 : -(2 ^ 62) ≤ j) (h2 : j < 2 ^ 62) (q : R j) : ∃ k : Int, [V.int j] = [V.int k] ∧ -(2 ^ 62) ≤ k ∧ k < 2 ^ 62 ∧ R k := ⟨j, rfl, h1, h2, q⟩
theorem r_lc {wi : TI} {te : TE} {vs : List Nat}
    (q : wi σ H fun J H1 => ∀ A, H1 A = none → ∃ Z : Nat → Nat → Hp → Prop, (∃ m, Z 0 m (upd H1 A (.lst [])))
      ∧ ∀ j m H, Z j m H → (J.stop j H ∧ Q (.ref A) H)
        ∨ (J.go j H ∧ ∃ Y : Hp → Prop, (∀ H', Y H' → ∃ m', m' < m ∧ Z (j + 1) m' H')
          ∧ ∀ x H', J.yld j H x H' → g x (wipe σ vs) H' fun σ2 H2 => wipe σ2 vs = wipe σ vs
            ∧ t σ2 H2 fun b H3 =>
              if b = true then te σ2 H3 fun y H4 => ∃ l, H4 A = some (.lst l) ∧ l.length < sizeLine ∧ Y (upd H4 A (.lst (l ++ [y])))
              else Y H3)) : tLc wi g t te vs σ H Q := q
theorem r_ilist {R : It → Hp → Prop} (q : tl σ H fun x H1 => ∃ a, x = .ref a ∧ (∃ xs, SqL K H1 a xs) ∧ R (Itl K a) H1) : iList K tl σ H R := q
theorem r_itup {R : It → Hp → Prop} (q : tl σ H fun x H1 => ∃ a, x = .ref a ∧ (∃ xs, SqT K H1 a xs) ∧ R (Itt K a) H1) : iTup K tl σ H R := q
theorem r_ref {p : Addr} {A R : Addr → Prop} (h : A p) (q : R p) : ∃ a, V.ref p = V.ref a ∧ A a ∧ R a := ⟨p, rfl, h, q⟩
theorem r_tyL {p : Addr} {xs : List V} {R : Prop} (h : SqL K H p xs) (q : R) : tyV K "list" (.ref p) H ∧ R := ⟨.inl ⟨rfl, _, h⟩, q⟩
theorem r_tyS {s : Str} {R : Prop} (q : R) : tyV K "str" (.str s) H ∧ R := ⟨rfl, q⟩
theorem r_append {p : Addr} {xs : List V} {y : V} (h : H p = some (.lst xs)) (e : xs.length < sizeLine) (q : Q .non (upd H p (.lst (xs ++ [y])))) : rAppend (.ref p) [y] H Q := ⟨p, xs, y, rfl, rfl, h, e, q⟩
theorem r_extend {p b : Addr} {xs zs : List V} (h : H p = some (.lst xs)) (hb : H b = some (.lst zs)) (e : xs.length + zs.length ≤ sizeLine) (q : Q .non (upd H p (.lst (xs ++ zs)))) : rExtend (.ref p) [.ref b] H Q := ⟨p, b, xs, zs, rfl, rfl, h, hb, e, q⟩
theorem r_popAt {p : Addr} {xs : List V} {i : Int} {y : V} (h : H p = some (.lst xs)) (h0 : 0 ≤ i) (h1 : i < (xs.length : Int)) (h2 : xs.length ≤ 1000000) (hy : xs[i.toNat]? = some y) (q : Q y (upd H p (.lst (xs.eraseIdx i.toNat)))) : rPopAt (.ref p) [.int i] H Q :=
  ⟨p, xs, i, i.toNat, y, rfl, rfl, h, by omega, by omega, seqIndex_of h0 h1, hy, q⟩
theorem r_cat {p b : Addr} {xs zs : List V} (h : H p = some (.lst xs)) (hb : H b = some (.lst zs)) (e : xs.length + zs.length ≤ sizeLine) (q : ∀ c, H c = none → Q (.ref c) (upd H c (.lst (xs ++ zs)))) : rCat (.ref p) (.ref b) H Q := ⟨p, b, xs, zs, rfl, rfl, h, hb, e, q⟩
theorem r_isi {x c : V} {t u : Value} {b : Bool} (hc : ClsV c u) (ht : TyX K H x t) (hk : PySem.W.kitOne K t u = some b) (q : Q (.bl b) H) : rIsi K [x, c] H Q := ⟨x, c, t, u, b, rfl, hc, ht, hk, q⟩
theorem r_catA {p b : Addr} {xs ys : List V} (h1 : SqT K H p xs) (h2 : SqT K H b ys) (q : rCatA K (.ref p) (.ref b) H Q) : rCatA K (.ref p) (.ref b) H Q := q
theorem at_new {p a : Addr} {o u : HO} (hp : H p = none) (h : H a = some u) : upd H p o a = some u := same_new' hp _ _ h
theorem r_listOf {p : Addr} {xs : List V} {R : V → Hp → Prop} (h : SqL K H p xs ∨ SqT K H p xs) (q : ∀ l, H l = none → R (.ref l) (upd H l (.lst xs))) : ∃ p' ys, [V.ref p] = [V.ref p'] ∧ (SqL K H p' ys ∨ SqT K H p' ys) ∧ ∀ l, H l = none → R (.ref l) (upd H l (.lst ys)) := ⟨p, xs, rfl, h, q⟩
theorem r_slL {p : Addr} {xs : List V} {lo hi : Option Int} (h : SqL K H p xs) (q : ∀ l, H l = none → Q (.ref l) (upd H l (.lst (cutV xs lo hi)))) : rSlL K (.ref p) lo hi H Q := ⟨p, xs, rfl, h, q⟩
theorem r_sl {f : V → Option Int → Option Int → Hp → VK → Prop} {tlo thi : TO} (q : te σ H fun x H1 => tlo σ H1 fun l H2 => thi σ H2 fun u H3 => f x l u H3 Q) : tSl f te tlo thi σ H Q := q
theorem r_noP {Q : Option Int → Hp → Prop} (q : Q none H) : tNoPart σ H Q := q
theorem r_part {Q : Option Int → Hp → Prop} (q : te σ H fun x H1 => ∃ i, x = .int i ∧ Q (some i) H1) : tPart te σ H Q := q
theorem r_eI {i : Int} {R : Int → Prop} (q : R i) : ∃ j, V.int i = V.int j ∧ R j := ⟨i, rfl, q⟩
end
theorem len_ok {n : Nat} (h : n ≤ 100000) : n ≤ sizeLine := Nat.le_trans h (by decide)
theorem r_al {n : Nat} {H : Hp} {R : Addr → Prop} (h : n ≤ sizeLine) (q : ∀ p, H p = none → R p) : n ≤ sizeLine ∧ ∀ p, H p = none → R p := ⟨h, q⟩
theorem pow2_pos (n : Nat) : (0 : Int) < 1 * 2 ^ n := by
  rw [Int.one_mul]
  exact Int.pow_pos (by decide)
theorem mulR {i j : Int} (h1 : -(2 ^ 64) < j) (h2 : j < 2 ^ 64) : CMul i j := .inr ⟨h1, h2⟩
theorem mulL {i j : Int} (h1 : -(2 ^ 64) < i) (h2 : i < 2 ^ 64) : CMul i j := .inl ⟨h1, h2⟩

/-! ### loops, what follows and what is handed back told apart -/
section
variable {K : PySem.W.Frag} {a : Addr} {xs : List V} {g : TG} {tb : TS} {nx : L2.St → Hp → Prop} {rt : VK} {σ : L2.St} {H : Hp}
theorem fl (Pv : Nat → L2.St → Hp → Prop) (h0 : Pv 0 σ H) (hl : ∀ i σ H, i ≤ xs.length → Pv i σ H → SqL K H a xs)
    (hs : ∀ i x σ H, xs[i]? = some x → Pv i σ H → g x σ H fun σ2 H2 => tb { nx := Pv (i + 1), rt := rt, bk := nx, ct := Pv (i + 1) } σ2 H2) (hd : ∀ σ H, Pv xs.length σ H → nx σ H) :
    ∃ W : Nat → Nat → L2.St → Hp → Prop, (∃ m, W 0 m σ H) ∧ ∀ i m σ H, W i m σ H →
      ((Itl K a).stop i H ∧ nx σ H) ∨ ((Itl K a).go i H ∧ ∃ N : L2.St → Hp → Prop, (∀ σ' H', N σ' H' → ∃ m', m' < m ∧ W (i + 1) m' σ' H') ∧ ∀ x H', (Itl K a).yld i H x H' → g x σ H' fun σ2 H2 => tb { nx := N, rt := rt, bk := nx, ct := N } σ2 H2) :=
  for_list (D := { nx := nx, rt := rt, bk := nx, ct := nx }) Pv h0 hl hs hd
theorem ft (Pv : Nat → L2.St → Hp → Prop) (h0 : Pv 0 σ H) (hl : ∀ i σ H, i ≤ xs.length → Pv i σ H → SqT K H a xs)
    (hs : ∀ i x σ H, xs[i]? = some x → Pv i σ H → g x σ H fun σ2 H2 => tb { nx := Pv (i + 1), rt := rt, bk := nx, ct := Pv (i + 1) } σ2 H2) (hd : ∀ σ H, Pv xs.length σ H → nx σ H) :
    ∃ W : Nat → Nat → L2.St → Hp → Prop, (∃ m, W 0 m σ H) ∧ ∀ i m σ H, W i m σ H →
      ((Itt K a).stop i H ∧ nx σ H) ∨ ((Itt K a).go i H ∧ ∃ N : L2.St → Hp → Prop, (∀ σ' H', N σ' H' → ∃ m', m' < m ∧ W (i + 1) m' σ' H') ∧ ∀ x H', (Itt K a).yld i H x H' → g x σ H' fun σ2 H2 => tb { nx := N, rt := rt, bk := nx, ct := N } σ2 H2) :=
  for_tup (D := { nx := nx, rt := rt, bk := nx, ct := nx }) Pv h0 hl hs hd
theorem fr {lo : Int} {n : Nat} (Pv : Nat → L2.St → Hp → Prop) (h0 : Pv 0 σ H)
    (hs : ∀ i σ H, i < n → Pv i σ H → g (.int (lo + i)) σ H fun σ2 H2 => tb { nx := Pv (i + 1), rt := rt, bk := nx, ct := Pv (i + 1) } σ2 H2) (hd : ∀ σ H, Pv n σ H → nx σ H) :
    ∃ W : Nat → Nat → L2.St → Hp → Prop, (∃ m, W 0 m σ H) ∧ ∀ i m σ H, W i m σ H →
      ((Itr lo n).stop i H ∧ nx σ H) ∨ ((Itr lo n).go i H ∧ ∃ N : L2.St → Hp → Prop, (∀ σ' H', N σ' H' → ∃ m', m' < m ∧ W (i + 1) m' σ' H') ∧ ∀ x H', (Itr lo n).yld i H x H' → g x σ H' fun σ2 H2 => tb { nx := N, rt := rt, bk := nx, ct := N } σ2 H2) :=
  for_range (D := { nx := nx, rt := rt, bk := nx, ct := nx }) Pv h0 hs hd
end
/-! ### lists of any values read by a written place -/
theorem atI_lt {xs : List V} {i : Int} {v : V} {j : Nat} (e : i = (j : Int)) (h : xs[j]? = some v) : atI xs i = some v := by
  rw [e]
  exact atI_nat h
/-- o[i] of a list, for o[i] op= e -/
theorem pget_list {X : Cx} : PGet X (rIxL X.K) := by
  intro pins s σ H o i ov iv Q I ro ri h
  obtain ⟨p, xs, k, z, rfl, rfl, hq, he, q⟩ := h
  cases ro
  obtain ⟨t, rfl⟩ := ri
  obtain ⟨its, r, pl, hz⟩ := I.list hq
  obtain ⟨j, h1, h2, h3, h4, h5⟩ := atI_get he
  obtain ⟨w, ew, rw'⟩ := r.get h2
  have hl := r.length
  have hn := line63
  have fin : EP X pins σ Q w s := ⟨z, H, I, rw', q⟩
  by_cases h0 : 0 ≤ k
  · have hj : k.toNat = j := by
      rw [seqIndex_of h0 h5] at h1
      exact Option.some.inj h1
    exact wpAny_getItem_list pl.isList h0 (by omega) (by rw [hj]; simpa using ew) fin
  · have hj : (k + (its.toArray.size : Int)).toNat = j := by
      rw [seqIndex_neg (by omega) h4] at h1
      rw [List.size_toArray, ← hl]
      exact Option.some.inj h1
    exact wpAny_getItem_list_neg pl.isList (by omega) (by rw [List.size_toArray] <;> omega) (by omega) (by rw [hj]; simpa using ew) fin

/-! ### a def of the module, by its name -/
def Cal (P : Program) (w : World) (K : PySem.W.Frag) (mg : Str → Option Value) (base : Heap) (x : Str) (k : Nat) (sp : Sp) : Prop :=
  ∃ f, mg x = some (.ref f) ∧ FnR P w K mg base CX0 k f sp ∧ PySem.W.keepIn K (.ref f) = true
section
variable {P : Program} {w : World} {K : PySem.W.Frag} {mg : Str → Option Value} {base : Heap}
def tCal (sp : Sp) (t : TA) : TE := fun σ H Q => t σ H fun vs H1 => sp vs H1 Q E0
theorem pe_cal {X : Cx} {x : Str} {k : Nat} {sp : Sp} {e : Expr} {es : List Expr} {t : TA} {p pos : Pos} (C : Cal X.prog X.w X.K X.mg X.base x k sp) (hr : Room k X.A) (hg : Gl X x) (ha : PA X (e :: es) t)
    (hdb : (x == ("__debug__" : Str)) = false := by decide) (he : starEach (e :: es) X.env = (false, eval e X.env) :: starEach es X.env := by rfl)
    (hpl : (backTo pos (starEach es X.env)).any (·.1) = false := by rfl) : PE X (.Call (.Name x p) (e :: es) [] pos) (tCal sp t) := by
  obtain ⟨f, hm, F, hk⟩ := C
  refine ⟨fun pins s σ H Q I h => ?_⟩
  refine wpAny_Call_Name_kw (ld_glob I hg hm ?_ hdb)
  refine PySem.W.callWith_K (h₀ := X.base) I.ok.mod.kin hk (thn (ha.run pos pins s σ H _ I h) fun us s1 ⟨vs, H1, I1, r, q⟩ => ⟨I1.kIn, ?_⟩) he hpl
  exact wpAny_call (run_fnR F hr pass0 I1 r q)
theorem pe_cal0 {X : Cx} {x : Str} {k : Nat} {sp : Sp} {p pos : Pos} (C : Cal X.prog X.w X.K X.mg X.base x k sp) (hr : Room k X.A) (hg : Gl X x)
    (hdb : (x == ("__debug__" : Str)) = false := by decide) : PE X (.Call (.Name x p) [] [] pos) (tCal sp tNil) := by
  obtain ⟨f, hm, F, hk⟩ := C
  refine ⟨fun pins s σ H Q I h => ?_⟩
  refine wpAny_Call_Name_kw (ld_glob I hg hm ?_ hdb)
  exact PySem.W.callWith_K0 I.kIn hk (wpAny_call (run_fnR (us := []) F hr pass0 I .nil h))
theorem r_cal {sp : Sp} {t : TA} {σ : L2.St} {H : Hp} {Q : VK} (q : t σ H fun vs H1 => sp vs H1 Q E0) : tCal sp t σ H Q := q
/-- from a def of the text to its call -/
theorem cal_of {x : Str} {st : Stmt} {f : Addr} {fd : FuncData} {N ps : List Str} {k : Nat} {sp : Sp} (hm : mg x = some (.ref f)) (F : Fun K x x st f fd)
    (hb : ∀ (kV doc pm : Value) (an : Option Addr) (cdv ct : Value) (us : List Value), us.length = ps.length → bindArgs (PySem.W.fnOf x x (defArgs st) (defBody st) (defScope st) .none kV doc pm an cdv ct) ⟨us, []⟩ = pure (ps.zip us))
    (G : FnOk P w K mg base CX0 k f fd ps sp) : Cal P w K mg base x k sp := by
  refine ⟨f, hm, ?_, F.kp⟩
  refine (G.raw (F.binds hb) .nil).imp fun vs H Q E h => ?_
  show sp (vs ++ []) H Q E
  rw [List.append_nil]
  exact h
end
/-! ### heaps -/
theorem same_new {H : Hp} {p : Addr} {o : HO} (h : H p = none) : Same H (upd H p o) := fun b x e => by
  rw [upd_ne (ne_of_none e h)]
  exact e
/-- all but what stands at d is as it was -/
def Keep (d : Addr) (H H' : Hp) : Prop := ∀ b o, b ≠ d → H b = some o → H' b = some o
theorem Keep.refl (d : Addr) (H : Hp) : Keep d H H := fun _ _ _ h => h
theorem Keep.trans {d : Addr} {H H1 H2 : Hp} (a : Keep d H H1) (b : Keep d H1 H2) : Keep d H H2 := fun c o n h => b c o n (a c o n h)
theorem Same.keep {d : Addr} {H H1 : Hp} (a : Same H H1) : Keep d H H1 := fun c o _ h => a c o h
theorem keep_upd {d : Addr} {H : Hp} {o : HO} : Keep d H (upd H d o) := fun b x n e => by
  rw [upd_ne n]
  exact e
theorem Keep.seq {K : PySem.W.Frag} {d : Addr} {H H' : Hp} {a : Addr} {xs : List V} (e : Keep d H H') (n : a ≠ d) (h : SqL K H a xs) : SqL K H' a xs := by
  rcases h with (h | ⟨o, h⟩) | h
  · exact .inl (.inl (e _ _ n h))
  · exact .inl (.inr ⟨o, e _ _ n h⟩)
  · exact .inr h
end Zn
namespace Zn
open PySem
def topS (i : Nat) : Stmt := PySem.Challenge.pw_metorshut_k04_tokens.main.body.getD i (.Pass ⟨0, 0, 0, 0⟩)
end Zn
local macro_rules | `(tactic| walk_at "fd") => `(tactic| (repeat (first | assumption | exact L2.upd_same | refine' Zn.at_new (by assumption) ?_)))
local macro_rules | `(tactic| walk_at "sm") => `(tactic| (repeat (first | assumption | exact L2.Same.refl _ | refine L2.Same.trans ?_ (Zn.same_new (by assumption)))))

local macro_rules | `(tactic| walk_at "rd1") => `(tactic| first
  | (with_reducible refine Zn.r_seq ?_)
  | (with_reducible refine Zn.r_asg ?_)
  | (with_reducible refine Zn.r_ret ?_)
  | (with_reducible refine Zn.r_ifs ?_)
  | (with_reducible refine Zn.r_test ?_)
  | (with_reducible refine Zn.r_op ?_)
  | ((with_reducible refine' Zn.r_var ?hv ?_); (case hv => exact rfl))
  | (with_reducible refine Zn.r_c ?_)
  | (with_reducible refine Zn.r_gname ?_)
  | (with_reducible refine Zn.r_I0 ?_)
  | (with_reducible refine Zn.r_bl ?_)
  | ((with_reducible refine Zn.r_eq ?hs ?_); (case hs => exact rfl))
  | ((with_reducible refine Zn.r_ne ?hs ?_); (case hs => exact rfl))
  | (with_reducible refine Zn.r_CB ?_)
  | (with_reducible refine Zn.r_cal ?_)
  | (with_reducible refine Zn.r_cons ?_)
  | (with_reducible refine Zn.r_nil ?_)
  | (with_reducible refine Zn.r_tTup ?_)
  | (with_reducible refine Zn.r_tLst ?_)
  | (with_reducible refine Zn.r_B ?_)
  | (with_reducible refine Zn.r_if ?_)
  | (with_reducible refine Zn.r_un ?_)
  | (with_reducible refine Zn.r_U ?_)
  | (with_reducible refine Zn.r_int1 ?_)
  | (with_reducible refine Zn.r_int1b ?_)
  | (with_reducible refine Zn.r_one ?_)
  | (with_reducible refine Zn.r_gsub ?_)
  | ((with_reducible refine' Zn.r_aug ?hv ?_); (case hv => exact rfl))
  | (with_reducible refine Zn.r_augS ?_)
  | (with_reducible refine Zn.r_ipI ?_)
  | (with_reducible refine Zn.r_and ?_)
  | (with_reducible refine Zn.r_or ?_)
  | (with_reducible refine Zn.r_not ?_)
  | (with_reducible refine Zn.r_andV ?_)
  | (with_reducible refine Zn.r_orV ?_)
  | (with_reducible refine Zn.r_notV' ?_)
  | (with_reducible refine Zn.r_BM ?_)
  | (with_reducible refine Zn.r_BM0 ?_)
  | (with_reducible refine Zn.r_par ?_)
  | (with_reducible refine Zn.r_gcons ?_)
  | (with_reducible refine Zn.r_gnil ?_)
  | (with_reducible refine Zn.r_drop ?_)
  | (with_reducible refine Zn.r_yes ?_)
  | ((with_reducible refine' Zn.r_len ?h ?_); (case h => first | exact .inl (Zn.sl_of (by assumption)) | exact .inr (Zn.st_of (by assumption)) | exact .inl (by assumption) | exact .inr (by assumption)))
  | (with_reducible refine Zn.r_for ?_)
  | (with_reducible refine Zn.r_lc ?_)
  | (with_reducible refine Zn.r_rng1 ?_)
  | (with_reducible refine Zn.r_ilist ?_)
  | (with_reducible refine Zn.r_itup ?_)
  | (with_reducible refine Zn.r_two ?_)
  | (with_reducible refine Zn.r_twoI ?_)
  | (with_reducible refine Zn.r_sl ?_)
  | (with_reducible refine Zn.r_noP ?_)
  | (with_reducible refine Zn.r_part ?_)
  | (with_reducible refine Zn.r_eI ?_)
  | (with_reducible refine Zn.r_tyS ?_)
  | ((with_reducible refine' Zn.r_tyL ?h ?_); (case h => first | exact Zn.sl_of (by walk_at "fd") | assumption))
  | ((with_reducible refine Zn.r_iteT ?h ?_); (case h => first | assumption | decide +kernel | exact rfl))
  | ((with_reducible refine Zn.r_iteF ?h ?_); (case h => first | assumption | decide +kernel | exact (fun h => Bool.noConfusion (show false = true from h))))
  | ((with_reducible refine Zn.r_rng ?h1 ?h2 ?_); (case h1 => first | omega | decide); (case h2 => first | omega | decide))
  | ((with_reducible refine' Zn.r_in ?h ?e1 ?e2 ?_); (case h => first | exact .inr (Zn.st_of (by walk_at "fd")) | exact .inl (Zn.sl_of (by walk_at "fd")) | exact .inl (by assumption) | exact .inr (by assumption)); (case e1 => rfl); (case e2 => rfl))
  | ((with_reducible refine Zn.r_al ?h ?_); (case h => exact Zn.len_ok (Nat.le_of_ble_eq_true rfl)); intro p hp)
  | (with_reducible refine Zn.r_next ?_)
  | ((with_reducible refine Zn.r_I ?hc ?_); (case hc => first | assumption | exact Zn.pow2_pos _ | omega | decide | exact Zn.mulR (by decide) (by decide) | exact Zn.mulL (by decide) (by decide) | exact ⟨by decide, by decide⟩ | exact ⟨by decide, by decide, by decide⟩ | exact Zn.mulR (by omega) (by omega) | exact Zn.mulL (by omega) (by omega) | exact ⟨by omega, by omega⟩ | exact ⟨by omega, by omega, by omega⟩))
  | ((with_reducible refine' Zn.r_setL ?h ?e ?_); (case h => walk_at "fd"); (case e => exact rfl))
  | ((with_reducible refine' Zn.r_ixL ?h ?e ?_); (case h => first | exact Zn.sl_of (by walk_at "fd") | assumption); (case e => exact rfl))
  | ((with_reducible refine' Zn.r_ixT ?h ?e ?_); (case h => first | exact Zn.st_of (by walk_at "fd") | assumption); (case e => exact rfl))
  | ((with_reducible refine' Zn.r_tupd ?h ?e ?_); (case h => first | exact Zn.st_of (by walk_at "fd") | assumption); (case e => exact rfl)))
local macro_rules | `(tactic| walk_at "rd") => `(tactic| ((try dsimp only); (repeat ((walk_at "rd1"); (try dsimp only)))))
namespace Zn
open PySem PySem.Spec PyProof.Rows L2
abbrev s__law_begin : Stmt := topS 9
theorem sc__law_begin : FnScope ["_law_script", "_law_cell"] ["_law_script"] (defScope s__law_begin) := ⟨rfl, rfl, rfl, by decide +kernel, rfl, by decide +kernel, by decide +kernel⟩

abbrev s__law_draw : Stmt := topS 10
theorem sc__law_draw : FnScope ["_law_d", "_law_many", "_law_found", "_law_size", "_law_cell"] ["_law_d", "_law_many"] (defScope s__law_draw) := ⟨rfl, rfl, rfl, by decide +kernel, rfl, by decide +kernel, by decide +kernel⟩

/-- what the drawer keeps: its own list at d, the script's ints at c -/
def DL (H : Hp) (d c : Addr) : Prop := ∃ (at_ rest st last : Int), H d = some (.lst [.ref c, .int at_, .int rest, .int st, .int last]) ∧ 0 ≤ at_ ∧ 0 ≤ rest ∧ 0 ≤ st ∧ st < 2147483647
structure Drw (H : Hp) (d c : Addr) : Prop where
  dl : DL H d c
  ne : c ≠ d
  cl : ∃ ns : List Int, H c = some (.lst (ns.map V.int))
theorem Drw.same {H H' : Hp} {d c : Addr} (D : Drw H d c) (s : Same H H') : Drw H' d c := by
  obtain ⟨⟨a, r, st, l, h1, h2⟩, ne, ns, h3⟩ := D
  exact ⟨⟨a, r, st, l, s _ _ h1, h2⟩, ne, ns, s _ _ h3⟩
theorem Drw.get {H : Hp} {d c : Addr} (D : Drw H d c) : ∃ xs, H d = some (.lst xs) := by
  obtain ⟨⟨a, r, st, l, h1, _⟩, _⟩ := D
  exact ⟨_, h1⟩
theorem Drw.upd {H : Hp} {d c a : Addr} {o : HO} (D : Drw H d c) (n1 : d ≠ a) (n2 : c ≠ a) : Drw (upd H a o) d c := by
  obtain ⟨⟨at_, r, st, l, h1, h2⟩, ne, ns, h3⟩ := D
  exact ⟨⟨at_, r, st, l, (upd_ne n1).trans h1, h2⟩, ne, ns, (upd_ne n2).trans h3⟩
theorem Drw.nd {H : Hp} {d c a : Addr} (D : Drw H d c) (h : H a = none) : d ≠ a := by
  obtain ⟨xs, e⟩ := D.get
  exact ne_of_none e h
theorem Drw.nc {H : Hp} {d c a : Addr} (D : Drw H d c) (h : H a = none) : c ≠ a := by
  obtain ⟨ns, e⟩ := D.cl
  exact ne_of_none e h
/-- a draw: a number below many; only the drawer's own list changes -/
def spDraw : Sp := fun vs H Q _ => ∃ (d c : Addr) (many : Int), vs = [.ref d, .int many] ∧ Drw H d c ∧ 1 ≤ many ∧ many < 1073741824 ∧
  ∀ (n : Int) (xs : List V), 0 ≤ n → n < many → Drw (upd H d (.lst xs)) d c → Q (.int n) (upd H d (.lst xs))
def spBegin (K : PySem.W.Frag) : Sp := fun vs H Q _ => ∃ (a : Addr) (ns : List Int), vs = [.ref a] ∧ SqL K H a (ns.map V.int) ∧ ns.length ≤ 63 ∧
  ∀ (H' : Hp) (d c : Addr), Same H H' → H d = none → Drw H' d c → Q (.ref d) H'
/-- the names that the drawer reads -/
structure TDraw (mg : Str → Option Value) : Prop where
  z_int : mg "int" = none
  z_len : mg "len" = none
  z_abs : mg "abs" = none
section
variable {P : Program} {w : World} {K : PySem.W.Frag} {mg : Str → Option Value} {base : Heap}
theorem ok_begin {f : Addr} {fd : FuncData} (F : Fun K "_law_begin" "_law_begin" s__law_begin f fd) (T : TDraw mg) : FnOk P w K mg base CX0 1 f fd ["_law_script"] (spBegin K) := by
  refine F.ok sc__law_begin (fun vs H Q E h => ?_) (fun cdv A outer s H vs Q E hr h => ?_)
  · obtain ⟨a, ns, rfl, _⟩ := h
    rfl
  · obtain ⟨a, ns, rfl, hS, hlen, q⟩ := h
    refine ⟨_, 
      (pss_one (ps_ret (pe_lst (pa_cons (pe_lc (own := [("_law_cell", 1)]) rfl sc__law_begin.nd (pi_list (pv 0)) (blkOk_by (N := ["_law_script", "_law_cell"]) (sc := defScope s__law_begin) (by decide +kernel)) (fun _ _ _ _ _ => (pg_name (i := 1) sc__law_begin.nd rfl (Or.inl rfl))) (fun _ _ _ _ _ => pts_nil) (fun _ _ _ _ _ => (pe_callTy call_int1 (by rfl) T.z_int (by decide +kernel) (pa_cons (pv 1) pa_nil)))) (pa_cons pe_int (pa_cons pe_int (pa_cons pe_int (pa_cons pe_int pa_nil)))))))), ?_⟩
    walk_at "rd"
    refine r_ref ⟨_, hS⟩ fun c hc => ?_
    refine lc_list (K := K) (a := a) (xs := ns.map V.int) (fun i H' => Same H H' ∧ H' c = some (.lst ((ns.take i).map V.int))) ⟨same_new hc, upd_same⟩ (fun i H' _ h => h.1.seq hS) (fun i x H' hi h => ?_) (fun H' h => ?_)
    · obtain ⟨u, rfl, hu⟩ : ∃ u, x = V.int u ∧ ns[i]? = some u := by
        rw [List.getElem?_map] at hi
        cases e : ns[i]? with
        | none => rw [e] at hi; cases hi
        | some u => rw [e] at hi; exact ⟨u, (Option.some.inj hi).symm, rfl⟩
      walk_at "rd"
      refine ⟨rfl, ?_⟩
      walk_at "rd"
      refine ⟨_, h.2, ?_, ?_, ?_⟩
      · rw [List.length_map, List.length_take]
        exact Nat.lt_of_le_of_lt (Nat.min_le_right _ _) (small1000 (by omega))
      · exact fun b o e => by
          rw [upd_ne (ne_of_none e hc)]
          exact h.1 _ _ e
      · rw [upd_same, List.take_add_one, hu, List.map_append]
        rfl
    · rw [List.length_map, List.take_of_length_le (Nat.le_refl _)] at h
      walk_at "rd"
      rename_i d hd
      have ncd : c ≠ d := ne_of_none h.2 hd
      refine q _ d c (h.1.trans (same_new hd)) (h.1.free hd) ⟨⟨0, 0, 7, 2, upd_same, by decide⟩, ncd, ns, by rw [upd_ne ncd]; exact h.2⟩
theorem ok_draw {f : Addr} {fd : FuncData} (F : Fun K "_law_draw" "_law_draw" s__law_draw f fd) (T : TDraw mg) : FnOk P w K mg base CX0 1 f fd ["_law_d", "_law_many"] spDraw := by
  refine F.ok sc__law_draw (fun vs H Q E h => ?_) (fun cdv A outer s H vs Q E hr h => ?_)
  · obtain ⟨d, c, m, rfl, _⟩ := h
    rfl
  · obtain ⟨d, c, m, rfl, ⟨⟨at_, rest, st, last, hd, a0, r0, s0, s1⟩, ncd, ns, hc⟩, m1, m2, q⟩ := h
    have hD : CDiv rest m := ⟨by omega, m2⟩
    have hm0 : 0 < m := by omega
    refine ⟨_, 
      (pss_cons (ps_if (pt_cmpR op_gt (pe_ix (r := rIxL K) ix_list (pv 0) pe_int (fun _ _ => rfl)) pe_int (nomark _)) 
       (pss_cons (ps_set (i := 2) sc__law_draw.nd rfl (Or.inl rfl) (pe_ix (r := rIxL K) ix_list (pv 0) pe_int (fun _ _ => rfl)))
       (pss_cons (ps_asg (pe_op op_fdiv (pv 2) (pv 1)) (pg_sub (pv 0) pe_int set_list))
       (pss_one (ps_ret (pe_op op_mod (pe_callTy call_int1 (by rfl) T.z_int (by decide +kernel) (pa_cons (pv 2) pa_nil)) (pv 1)))))) pss_nil)
      (pss_cons (ps_set (i := 3) sc__law_draw.nd rfl (Or.inl rfl) pe_int)
      (pss_cons (ps_if (pt_cmpR op_lt (pe_ix (r := rIxL K) ix_list (pv 0) pe_int (fun _ _ => rfl)) (pe_callB call_len_seq (by rfl) T.z_len (by decide +kernel) (pa_cons (pe_ix (r := rIxL K) ix_list (pv 0) pe_int (fun _ _ => rfl)) pa_nil)) (nomark _)) 
       (pss_cons (ps_set (i := 4) sc__law_draw.nd rfl (Or.inl rfl) (pe_ix (r := rIxL K) ix_list (pe_ix (r := rIxL K) ix_list (pv 0) pe_int (fun _ _ => rfl)) (pe_ix (r := rIxL K) ix_list (pv 0) pe_int (fun _ _ => rfl)) (fun _ _ => rfl)))
       (pss_one (ps_set (i := 3) sc__law_draw.nd rfl (Or.inl rfl) (pe_op op_add (pe_op op_mul pe_int (pe_callB call_abs (by rfl) T.z_abs (by decide +kernel) (pa_cons (pv 4) pa_nil))) (pe_callTy call_int1 (by rfl) T.z_int (by decide +kernel) (pa_cons (pe_cmpR op_lt (pv 4) pe_int (nomark _)) pa_nil)))))) pss_nil)
      (pss_cons (ps_augS (pv 0) pe_int Zn.pget_list pe_int ip_add set_list)
      (pss_cons (ps_if (pt_cmpR op_ge (pv 3) (pe_op op_mul pe_int (pe_op op_pow pe_int pe_int)) (nomark _)) 
       (pss_cons (ps_set (i := 2) sc__law_draw.nd rfl (Or.inl rfl) (pe_op op_mod (pe_callTy call_int1 (by rfl) T.z_int (by decide +kernel) (pa_cons (pe_op op_fdiv (pv 3) pe_int) pa_nil)) (pe_op op_shl pe_int pe_int)))
       (pss_cons (ps_asg (pe_op op_fdiv (pv 2) (pv 1)) (pg_sub (pv 0) pe_int set_list))
       (pss_one (ps_ret (pe_op op_mod (pe_callTy call_int1 (by rfl) T.z_int (by decide +kernel) (pa_cons (pv 2) pa_nil)) (pv 1)))))) pss_nil)
      (pss_cons (ps_asg (pe_op op_mod (pe_callTy call_int1 (by rfl) T.z_int (by decide +kernel) (pa_cons (pe_op op_add (pe_op op_add (pe_op op_add (pe_op op_mul (pe_ix (r := rIxL K) ix_list (pv 0) pe_int (fun _ _ => rfl)) pe_int) (pe_op op_mul (pe_op op_mod (pe_callTy call_int1 (by rfl) T.z_int (by decide +kernel) (pa_cons (pv 3) pa_nil)) pe_int) pe_int)) (pe_op op_mul (pe_ix (r := rIxL K) ix_list (pv 0) pe_int (fun _ _ => rfl)) pe_int)) pe_int) pa_nil)) pe_int) (pg_sub (pv 0) pe_int set_list))
      (pss_one (ps_ret (pe_op op_mod (pe_callTy call_int1 (by rfl) T.z_int (by decide +kernel) (pa_cons (pe_op op_fdiv (pe_ix (r := rIxL K) ix_list (pv 0) pe_int (fun _ _ => rfl)) pe_int) pa_nil)) (pv 1)))))))))), ?_⟩
    walk_at "rd"
    refine ite2 (fun h1 => ?_) (fun h1 => ?_)
    · have h1 : 0 < rest := of_decide_eq_true h1
      walk_at "rd"
      refine q _ _ (Int.emod_nonneg _ (by omega)) (Int.emod_lt_of_pos _ (by omega)) ⟨⟨at_, rest / m, st, last, upd_same, a0, Int.ediv_nonneg r0 (by omega), s0, s1⟩, ncd, ns, by rw [upd_ne ncd]; exact hc⟩
    · walk_at "rd"
      refine ite2 (fun h2 => ?_) (fun h2 => ?_)
      · have h2 : at_ < ((ns.map V.int).length : Int) := of_decide_eq_true h2
        rw [List.length_map] at h2
        have hj : at_.toNat < ns.length := by omega
        walk_at "rd"
        refine r_ixL (v := V.int ns[at_.toNat]) (sl_of hc) (atI_lt (j := at_.toNat) (by omega) (by rw [List.getElem?_map, List.getElem?_eq_getElem hj]; rfl)) ?_
        walk_at "rd"
        refine ite2 (fun h3 => ?_) (fun h3 => ?_)
        · walk_at "rd"
          rw [upd_upd]
          have e0 : ∀ z : Int, 0 ≤ z % (1 * 2 ^ Int.toNat 6000) := fun z => Int.emod_nonneg z (Int.ne_of_gt (pow2_pos (Int.toNat 6000)))
          refine q _ _ (Int.emod_nonneg _ (by omega)) (Int.emod_lt_of_pos _ (by omega)) ⟨⟨at_ + 1, _, st, last, upd_same, by omega, Int.ediv_nonneg (e0 _) (by omega), s0, s1⟩, ncd, ns, by rw [upd_ne ncd]; exact hc⟩
        · walk_at "rd"
          rw [upd_upd]
          refine q _ _ (Int.emod_nonneg _ (by omega)) (Int.emod_lt_of_pos _ (by omega)) ⟨⟨at_ + 1, rest, _, last, upd_same, by omega, r0, Int.emod_nonneg _ (by decide), Int.emod_lt_of_pos _ (by decide)⟩, ncd, ns, by rw [upd_ne ncd]; exact hc⟩
      · walk_at "rd"
        rw [upd_upd]
        refine q _ _ (Int.emod_nonneg _ (by omega)) (Int.emod_lt_of_pos _ (by omega)) ⟨⟨at_ + 1, rest, _, last, upd_same, by omega, r0, Int.emod_nonneg _ (by decide), Int.emod_lt_of_pos _ (by decide)⟩, ncd, ns, by rw [upd_ne ncd]; exact hc⟩
end
end Zn
/-! more readings: texts, while, chains -/
namespace Zn
open PySem PySem.Spec PyProof.Rows L2 TL
section
variable {σ : L2.St} {H : Hp} {K : PySem.W.Frag} {Q : VK} {ta tb te tc : TE} {t u c : TT} {D : Ends} {t1 t2 : TS} {g : TG} {i : Nat} {v x y : V} {r r' : R2} {tr : TA}
theorem r_chain (q : ta σ H fun x H1 => tb σ H1 fun y H2 => r x y H2 fun z H3 => ∃ k, z = .bl k ∧
    (if k = true then tc σ H3 fun v H4 => r' y v H4 Q else Q (.bl false) H3)) : tChain r r' ta tb tc σ H Q := q
theorem r_ss {a b : Str} {R : Str → Str → Prop} (q : R a b) : ∃ i j, V.str a = V.str i ∧ V.str b = V.str j ∧ R i j := ⟨a, b, rfl, rfl, q⟩
theorem r_sign {c : Nat} {z : Str} {R : Nat → Str → Prop} (q : R c z) : ∃ (d : Nat) (y : Str), V.str ⟨#[c]⟩ = V.str ⟨#[d]⟩ ∧ V.str z = V.str y ∧ R d y := ⟨c, z, rfl, rfl, q⟩
theorem r_ixS {z : Str} {i : Int} {c : Nat} (h : z.length ≤ sizeLine) (e : atI z.cps.toList i = some c) (q : Q (.str ⟨#[c]⟩) H) : rIxS (.str z) (.int i) H Q := ⟨z, i, c, rfl, rfl, h, e, q⟩
theorem r_slS {z : Str} {lo hi : Option Int} (h : z.length ≤ sizeLine) (q : Q (.str (cutS z lo hi)) H) : rSlS (.str z) lo hi H Q := ⟨z, rfl, h, q⟩
theorem r_lenS {z : Str} {R : Str → Prop} (q : R z) : ∃ y, [V.str z] = [V.str y] ∧ R y := ⟨z, rfl, q⟩
theorem r_istr {R : It → Hp → Prop} (q : te σ H fun v H1 => ∃ x, v = .str x ∧ R (Its x) H1) : iStr te σ H R := q
theorem r_1s {z : Str} {R : Str → Prop} (q : R z) : ∃ y, V.str z = V.str y ∧ R y := ⟨z, rfl, q⟩
theorem r_62 {j : Int} {R : Prop} (h1 : -(2 ^ 62) ≤ j) (h2 : j < 2 ^ 62) (q : R) : -(2 ^ 62) ≤ j ∧ j < 2 ^ 62 ∧ R := ⟨h1, h2, q⟩
theorem r_M1 {f : V → List V → Hp → VK → Prop} (q : ta σ H fun x H1 => (∃ a, x = .str a) ∧ tb σ H1 fun y H2 => f x [y] H2 Q) : tM1 f ta tb σ H Q := q
theorem r_exS {z : Str} {R : Prop} (q : R) : (∃ a, V.str z = V.str a) ∧ R := ⟨⟨z, rfl⟩, q⟩
theorem r_s1 {a b : Str} {R : Str → Str → Prop} (q : R a b) : ∃ i j, V.str a = V.str i ∧ [V.str b] = [V.str j] ∧ R i j := ⟨a, b, rfl, rfl, q⟩
theorem r_lz {n : Nat} {R : Prop} (h : n ≤ sizeLine) (q : R) : n ≤ sizeLine ∧ R := ⟨h, q⟩
theorem r_inY {p : Addr} {xs : List V} (h : SqL K H p xs ∨ SqT K H p xs) (e1 : flatV x = true) (e2 : xs.all flatV = true) (q : Q (.bl (inV x xs)) H) : rIn K false x (.ref p) H Q := ⟨p, xs, rfl, h, e1, e2, q⟩
theorem r_inN {p : Addr} {xs : List V} (h : SqL K H p xs ∨ SqT K H p xs) (e1 : flatV x = true) (e2 : xs.all flatV = true) (q : Q (.bl (!inV x xs)) H) : rIn K true x (.ref p) H Q := ⟨p, xs, rfl, h, e1, e2, q⟩
theorem r_while (q : ∃ Z : Nat → L2.St → Hp → Prop, (∃ m, Z m σ H) ∧ ∀ m σ H, Z m σ H → t σ H fun b H1 =>
    if b = true then ∃ Y : L2.St → Hp → Prop, (∀ σ' H', Y σ' H' → ∃ m', m' < m ∧ Z m' σ' H') ∧ t1 { D with nx := Y, ct := Y, bk := D.nx } σ H1
    else D.nx σ H1) : tWhile t t1 D σ H := q
theorem Same.mut {H H' : Hp} {g : Addr} {o : HO} (s : Same H H') (hg : H g = none) : Same H (upd H' g o) := fun b x e => by
  rw [upd_ne (ne_of_none e hg)]
  exact s _ _ e
theorem keep_new {d : Addr} {H H1 : Hp} {p : Addr} {o : HO} (s : Keep d H H1) (h : H1 p = none) : Keep d H (upd H1 p o) := s.trans (Same.keep (same_new h))
theorem Keep.free {d : Addr} {H H1 : Hp} {p : Addr} (s : Keep d H H1) (n : p ≠ d) (h : H1 p = none) : H p = none := by
  cases e : H p with
  | none => rfl
  | some x =>
    have := s _ _ n e
    rw [h] at this
    cases this
theorem Keep.mut {d : Addr} {H H1 : Hp} {p : Addr} {o : HO} (s : Keep d H H1) (h : H p = none) : Keep d H (upd H1 p o) := fun b x n e => by
  rw [upd_ne (ne_of_none e h)]
  exact s _ _ n e
theorem map_get {ns : List Int} {i : Nat} {x : V} (hi : (ns.map V.int)[i]? = some x) : ∃ u, x = V.int u ∧ ns[i]? = some u := by
  rw [List.getElem?_map] at hi
  cases e : ns[i]? with
  | none => rw [e] at hi; cases hi
  | some u => rw [e] at hi; exact ⟨u, (Option.some.inj hi).symm, rfl⟩
/-- the parts of a text -/
theorem tl_cut {z : Str} {a b : Int} (h0 : 0 ≤ a) (h1 : 0 ≤ b) : tl (cutS z (some a) (some b)) = ((tl z).drop a.toNat).take (b.toNat - a.toNat) := by
  show ((tl z).drop (HT.sIx z.length 0 (some a))).take (HT.sIx z.length z.length (some b) - HT.sIx z.length 0 (some a)) = _
  obtain ⟨n, rfl⟩ := Int.eq_ofNat_of_zero_le h0
  obtain ⟨m, rfl⟩ := Int.eq_ofNat_of_zero_le h1
  rw [HT.sIx_nat, HT.sIx_nat, len_tl, Int.toNat_natCast, Int.toNat_natCast]
  by_cases h : n ≤ (tl z).length
  · rw [Nat.min_eq_left h]
    by_cases h2 : m ≤ (tl z).length
    · rw [Nat.min_eq_left h2]
    · rw [Nat.min_eq_right (by omega), List.take_of_length_le (by rw [List.length_drop]; omega), List.take_of_length_le (by rw [List.length_drop]; omega)]
  · rw [List.drop_of_length_le (by omega), List.drop_of_length_le (by omega), List.take_nil, List.take_nil]
theorem tl_cut_to {z : Str} {b : Int} (h1 : 0 ≤ b) : tl (cutS z none (some b)) = (tl z).take b.toNat := by
  have := tl_cut (z := z) (Int.le_refl 0) h1
  show ((tl z).drop (HT.sIx z.length 0 none)).take (HT.sIx z.length z.length (some b) - HT.sIx z.length 0 none) = _
  have e : HT.sIx z.length 0 (some 0) = 0 := HT.sIx_nat _ _ 0 |>.trans (by simp)
  have e2 : HT.sIx z.length 0 none = 0 := rfl
  rw [e2, ← e]
  exact this
end
end Zn
local macro_rules | `(tactic| walk_at "rs1") => `(tactic| first
  | (with_reducible refine Zn.r_ss ?_)
  | (with_reducible refine Zn.r_chain ?_)
  | (with_reducible refine Zn.r_M1 ?_)
  | (with_reducible refine Zn.r_exS ?_)
  | (with_reducible refine Zn.r_s1 ?_)
  | (with_reducible refine Zn.r_sign ?_)
  | ((with_reducible refine Zn.r_slS ?h ?_); (case h => first | assumption | omega))
  | (with_reducible refine Zn.r_lenS ?_)
  | (with_reducible refine Zn.r_istr ?_)
  | (with_reducible refine Zn.r_1s ?_)
  | ((with_reducible refine Zn.r_62 ?h1 ?h2 ?_); (case h1 => first | omega | decide); (case h2 => first | omega | decide))
  | ((with_reducible refine' Zn.r_inY ?h ?e1 ?e2 ?_); (case h => first | exact .inr (Zn.st_of (by walk_at "fd")) | exact .inl (Zn.sl_of (by walk_at "fd")) | exact .inl (by assumption) | exact .inr (by assumption)); (case e1 => rfl); (case e2 => rfl))
  | ((with_reducible refine' Zn.r_inN ?h ?e1 ?e2 ?_); (case h => first | exact .inr (Zn.st_of (by walk_at "fd")) | exact .inl (Zn.sl_of (by walk_at "fd")) | exact .inl (by assumption) | exact .inr (by assumption)); (case e1 => rfl); (case e2 => rfl))
  | (with_reducible refine Zn.r_while ?_)
  | (walk_at "rd1")
  | ((with_reducible refine Zn.r_lz ?h ?_); (case h => first | assumption | omega)))
local macro_rules | `(tactic| walk_at "rs") => `(tactic| ((try dsimp only); (repeat ((walk_at "rs1"); (try dsimp only)))))
namespace Zn
open PySem PySem.Spec PyProof.Rows L2 TL
abbrev s_tokens_of : Stmt := topS 3
theorem sc_tokens_of : FnScope ["text", "tokens", "at", "end", "token"] ["text"] (defScope s_tokens_of) := ⟨rfl, rfl, rfl, by decide +kernel, rfl, by decide +kernel, by decide +kernel⟩

abbrev s__end_of : Stmt := topS 4
theorem sc__end_of : FnScope ["text", "at", "end"] ["text", "at"] (defScope s__end_of) := ⟨rfl, rfl, rfl, by decide +kernel, rfl, by decide +kernel, by decide +kernel⟩

abbrev s__runs_on : Stmt := topS 5
theorem sc__runs_on : FnScope ["character"] ["character"] (defScope s__runs_on) := ⟨rfl, rfl, rfl, by decide +kernel, rfl, by decide +kernel, by decide +kernel⟩

abbrev s__is_small : Stmt := topS 6
theorem sc__is_small : FnScope ["character"] ["character"] (defScope s__is_small) := ⟨rfl, rfl, rfl, by decide +kernel, rfl, by decide +kernel, by decide +kernel⟩

abbrev s__is_digit : Stmt := topS 7
theorem sc__is_digit : FnScope ["character"] ["character"] (defScope s__is_digit) := ⟨rfl, rfl, rfl, by decide +kernel, rfl, by decide +kernel, by decide +kernel⟩

abbrev s__law_pick : Stmt := topS 11
theorem sc__law_pick : FnScope ["_law_d", "_law_row"] ["_law_d", "_law_row"] (defScope s__law_pick) := ⟨rfl, rfl, rfl, by decide +kernel, rfl, by decide +kernel, by decide +kernel⟩

abbrev s__law_rare : Stmt := topS 12
theorem sc__law_rare : FnScope ["_law_d", "_law_many"] ["_law_d", "_law_many"] (defScope s__law_rare) := ⟨rfl, rfl, rfl, by decide +kernel, rfl, by decide +kernel, by decide +kernel⟩

abbrev s__law_reserved : Stmt := topS 13
theorem sc__law_reserved : FnScope ["_law_text"] [] (defScope s__law_reserved) := ⟨rfl, rfl, rfl, by decide +kernel, rfl, by decide +kernel, by decide +kernel⟩

abbrev s__law_signs : Stmt := topS 14
theorem sc__law_signs : FnScope [] [] (defScope s__law_signs) := ⟨rfl, rfl, rfl, by decide +kernel, rfl, by decide +kernel, by decide +kernel⟩

abbrev s__law_any_name : Stmt := topS 15
theorem sc__law_any_name : FnScope ["_law_d", "_law_letters", "_law_signs_here", "_law_shape", "_law_found", "_law_k"] ["_law_d"] (defScope s__law_any_name) := ⟨rfl, rfl, rfl, by decide +kernel, rfl, by decide +kernel, by decide +kernel⟩

abbrev s__law_any_number : Stmt := topS 16
theorem sc__law_any_number : FnScope ["_law_d", "_law_shape"] ["_law_d"] (defScope s__law_any_number) := ⟨rfl, rfl, rfl, by decide +kernel, rfl, by decide +kernel, by decide +kernel⟩

abbrev s__law_cut_tokens : Stmt := topS 17
theorem sc__law_cut_tokens : FnScope ["_law_text", "_law_runs", "_law_found", "_law_inside", "_law_used", "_law_k"] ["_law_text"] (defScope s__law_cut_tokens) := ⟨rfl, rfl, rfl, by decide +kernel, rfl, by decide +kernel, by decide +kernel⟩

abbrev s__law_gap : Stmt := topS 18
theorem sc__law_gap : FnScope ["_law_d"] ["_law_d"] (defScope s__law_gap) := ⟨rfl, rfl, rfl, by decide +kernel, rfl, by decide +kernel, by decide +kernel⟩

abbrev s__law_piece : Stmt := topS 19
theorem sc__law_piece : FnScope ["_law_d", "_law_way", "_law_runs", "_law_k"] ["_law_d"] (defScope s__law_piece) := ⟨rfl, rfl, rfl, by decide +kernel, rfl, by decide +kernel, by decide +kernel⟩

abbrev s_law : Stmt := topS 20
theorem sc_law : FnScope ["_law_script", "_law_d", "_law_text", "_law_k", "_law_sign", "_law_cut", "_law_part", "_law_told", "_law_token"] ["_law_script"] (defScope s_law) := ⟨rfl, rfl, rfl, by decide +kernel, rfl, by decide +kernel, by decide +kernel⟩

/-! ### the tokens of a text -/
def run (c : Nat) : Bool := (decide (97 ≤ c) && decide (c ≤ 122)) || (decide (48 ≤ c) && decide (c ≤ 57)) || (decide (65 ≤ c) && decide (c ≤ 90))
def longs : List (List Nat) := [[61, 61], [33, 61], [60, 61], [60, 60], [62, 62]]
def spaces : List (List Nat) := [[32], [10]]
/-- how long the first piece is -/
def lex : List Nat → Nat
  | [] => 0
  | c :: r => if run c = true then 1 + (r.takeWhile run).length else if (c :: r.take 1) ∈ longs then 2 else 1
theorem lex_pos {L : List Nat} (h : L ≠ []) : 1 ≤ lex L := by
  cases L with
  | nil => exact absurd rfl h
  | cons c r =>
    show 1 ≤ if run c = true then 1 + (r.takeWhile run).length else if (c :: r.take 1) ∈ longs then 2 else 1
    split
    · omega
    · split <;> omega
theorem lex_le (L : List Nat) : lex L ≤ L.length := by
  cases L with
  | nil => exact Nat.le_refl _
  | cons c r =>
    show (if run c = true then 1 + (r.takeWhile run).length else if (c :: r.take 1) ∈ longs then 2 else 1) ≤ r.length + 1
    split
    · have := (List.takeWhile_prefix run (l := r)).length_le
      omega
    · split
      · rename_i h
        cases r with
        | nil => exact absurd h (by simp [longs])
        | cons d r => simp
      · omega
def tok1 (L : List Nat) : List (List Nat) := if L.take (lex L) ∈ spaces then [] else [L.take (lex L)]
def toks (L : List Nat) : List (List Nat) := if h : L = [] then [] else tok1 L ++ toks (L.drop (lex L))
termination_by L.length
decreasing_by
  have := lex_pos h
  have h2 : 0 < L.length := List.length_pos_iff.mpr h
  rw [List.length_drop]
  omega
theorem toks_nil : toks [] = [] := by rw [toks]; rfl
theorem toks_step {L : List Nat} (h : L ≠ []) : toks L = tok1 L ++ toks (L.drop (lex L)) := by
  rw [toks, dif_neg h]
theorem lt1 (a b : Nat) : decide ([a] < [b]) = decide (a < b) := by
  rw [decide_eq_decide]
  constructor
  · intro h
    cases h with
    | rel h => exact h
    | cons h => cases h
  · exact fun h => .rel h
/-! ### promises -/
structure Tx (K : PySem.W.Frag) (mg : Str → Option Value) (aL aS : Addr) : Prop extends TDraw mg where
  z_all : mg "all" = none
  z_isinstance : mg "isinstance" = none
  z_list : mg "list" = none
  z_range : mg "range" = none
  z_str : mg "str" = none
  z_sum : mg "sum" = none
  z_tuple : mg "tuple" = none
  g_LONG_SIGNS : mg "LONG_SIGNS" = some (.ref aL)
  q_LONG_SIGNS : ∀ H, SqT K H aL [.str "==", .str "!=", .str "<=", .str "<<", .str ">>"]
  g_SPACES : mg "SPACES" = some (.ref aS)
  q_SPACES : ∀ H, SqT K H aS [.str " ", .str "\n"]
section
variable {P : Program} {w : World} {K : PySem.W.Frag} {mg : Str → Option Value} {base : Heap} {aL aS : Addr}
theorem Tx.r_LONG_SIGNS (_ : Tx K mg aL aS) : RelV (.ref aL) (.ref aL) := rfl
theorem Tx.r_SPACES (_ : Tx K mg aL aS) : RelV (.ref aS) (.ref aS) := rfl
/-- one sign -/
def spSign (p : Nat → Bool) : Sp := fun vs H Q _ => ∃ c, vs = [.str ⟨#[c]⟩] ∧ Q (.bl (p c)) H
def small (c : Nat) : Bool := !decide (c < 97) && !decide (122 < c)
def digit (c : Nat) : Bool := !decide (c < 48) && !decide (57 < c)
theorem run_is (c : Nat) : (small c || (digit c || (!decide (c < 65) && !decide (90 < c)))) = run c := by
  unfold small digit run
  simp only [← Nat.not_le, decide_not, Bool.not_not, Bool.or_assoc]
theorem ok_is_small {f : Addr} {fd : FuncData} (F : Fun K "_is_small" "_is_small" s__is_small f fd) : FnOk P w K mg base CX0 1 f fd ["character"] (spSign small) := by
  refine F.ok sc__is_small (fun vs H Q E h => ?_) (fun cdv A outer s H vs Q E hr h => ?_)
  · obtain ⟨c, rfl, _⟩ := h
    rfl
  · obtain ⟨c, rfl, q⟩ := h
    refine ⟨_, 
      (pss_one (ps_ret (pe_chain op_le_str op_le_str pe_str (pv 0) pe_str))), ?_⟩
    walk_at "rs"
    have q : Q (.bl (!decide (c < 97) && !decide (122 < c))) H := q
    rw [← lt1, ← lt1] at q
    refine ite2 (fun h => ?_) (fun h => ?_)
    · walk_at "rs"
      rw [show (!decide ([c] < [97])) = true from h] at q
      exact q
    · rw [show (!decide ([c] < [97])) = false from eq_false_of_ne_true h] at q
      exact q
theorem ok_is_digit {f : Addr} {fd : FuncData} (F : Fun K "_is_digit" "_is_digit" s__is_digit f fd) : FnOk P w K mg base CX0 1 f fd ["character"] (spSign digit) := by
  refine F.ok sc__is_digit (fun vs H Q E h => ?_) (fun cdv A outer s H vs Q E hr h => ?_)
  · obtain ⟨c, rfl, _⟩ := h
    rfl
  · obtain ⟨c, rfl, q⟩ := h
    refine ⟨_, 
      (pss_one (ps_ret (pe_chain op_le_str op_le_str pe_str (pv 0) pe_str))), ?_⟩
    walk_at "rs"
    have q : Q (.bl (!decide (c < 48) && !decide (57 < c))) H := q
    rw [← lt1, ← lt1] at q
    refine ite2 (fun h => ?_) (fun h => ?_)
    · walk_at "rs"
      rw [show (!decide ([c] < [48])) = true from h] at q
      exact q
    · rw [show (!decide ([c] < [48])) = false from eq_false_of_ne_true h] at q
      exact q
theorem ok_runs_on {f : Addr} {fd : FuncData} (F : Fun K "_runs_on" "_runs_on" s__runs_on f fd) (c__is_small : Cal P w K mg base "_is_small" 1 (spSign small)) (c__is_digit : Cal P w K mg base "_is_digit" 1 (spSign digit)) : FnOk P w K mg base CX0 2 f fd ["character"] (spSign run) := by
  refine F.ok sc__runs_on (fun vs H Q E h => ?_) (fun cdv A outer s H vs Q E hr h => ?_)
  · obtain ⟨c, rfl, _⟩ := h
    rfl
  · obtain ⟨c, rfl, q⟩ := h
    refine ⟨_, 
      (pss_one (ps_ret (pe_or (Zn.pe_cal c__is_small (hr.mono (by decide)) (by rfl) (pa_cons (pv 0) pa_nil)) (pe_or (Zn.pe_cal c__is_digit (hr.mono (by decide)) (by rfl) (pa_cons (pv 0) pa_nil)) (pe_one (pe_chain op_le_str op_le_str pe_str (pv 0) pe_str)))))), ?_⟩
    walk_at "rs"
    rw [← run_is] at q
    refine ⟨c, rfl, ?_⟩
    walk_at "rs"
    refine ite2 (fun h => ?_) (fun h => ?_)
    · rw [h] at q
      exact q
    · have h := eq_false_of_ne_true h
      rw [h, Bool.false_or] at q
      walk_at "rs"
      refine ⟨c, rfl, ?_⟩
      walk_at "rs"
      refine ite2 (fun h => ?_) (fun h => ?_)
      · rw [h] at q
        exact q
      · have h := eq_false_of_ne_true h
        rw [h, Bool.false_or, ← lt1, ← lt1] at q
        walk_at "rs"
        refine ite2 (fun h => ?_) (fun h => ?_)
        · walk_at "rs"
          rw [show (!decide ([c] < [65])) = true from h] at q
          exact q
        · rw [show (!decide ([c] < [65])) = false from eq_false_of_ne_true h] at q
          exact q
/-- where the piece that begins at a place ends -/
def spEnd : Sp := fun vs H Q _ => ∃ (z : Str) (n : Nat), vs = [.str z, .int (n : Int)] ∧ z.length ≤ 1000000 ∧ n < (tl z).length ∧ Q (.int ((n + lex ((tl z).drop n) : Nat) : Int)) H
theorem in_strs (z : Str) : ∀ ts : List Str, inV (.str z) (ts.map V.str) = decide (tl z ∈ ts.map tl)
  | [] => rfl
  | t :: ts => by
    show ((t == z) || inV (.str z) (ts.map V.str)) = _
    rw [in_strs z ts]
    by_cases h : t = z
    · subst h; simp
    · have : tl z ≠ tl t := fun e => h (ext_tl e).symm
      simp [h, this]
theorem in_longs (z : Str) : inV (.str z) [.str "==", .str "!=", .str "<=", .str "<<", .str ">>"] = decide (tl z ∈ longs) := in_strs z ["==", "!=", "<=", "<<", ">>"]
theorem in_spaces (z : Str) : inV (.str z) [.str " ", .str "\n"] = decide (tl z ∈ spaces) := in_strs z [" ", "\n"]
theorem lex_not {c : Nat} {r : List Nat} (h : run c = false) : lex (c :: r) = if (c :: r.take 1) ∈ longs then 2 else 1 := by
  show (if run c = true then _ else _) = _
  rw [h]
  rfl
theorem lex_run {c : Nat} {r : List Nat} (h : run c = true) : lex (c :: r) = 1 + (r.takeWhile run).length := by
  show (if run c = true then _ else _) = _
  rw [h]
  rfl
theorem ok_end_of {f : Addr} {fd : FuncData} (F : Fun K "_end_of" "_end_of" s__end_of f fd) (c__runs_on : Cal P w K mg base "_runs_on" 2 (spSign run)) (T : Tx K mg aL aS) : FnOk P w K mg base CX0 3 f fd ["text", "at"] spEnd := by
  refine F.ok sc__end_of (fun vs H Q E h => ?_) (fun cdv A outer s H vs Q E hr h => ?_)
  · obtain ⟨z, n, rfl, _⟩ := h
    rfl
  · obtain ⟨z, n, rfl, hz, hn, q⟩ := h
    refine ⟨_, 
      (pss_cons (ps_if (pt_not (pt_val (Zn.pe_cal c__runs_on (hr.mono (by decide)) (by rfl) (pa_cons (pe_ix ix_str (pv 0) (pv 1) (fun _ _ => rfl)) pa_nil)))) 
       (pss_one (ps_ret (pe_ifExp (pt_cmpR (r := rIn K false) op_in_seq (pe_slice sl_str (pv 0) (po_some (pv 1)) (po_some (pe_op op_add (pv 1) pe_int))) (pe_glob (by rfl) T.g_LONG_SIGNS T.r_LONG_SIGNS) (by rfl)) (pe_op op_add (pv 1) pe_int) (pe_op op_add (pv 1) pe_int)))) pss_nil)
      (pss_cons (ps_set (i := 2) sc__end_of.nd rfl (Or.inl rfl) (pv 1))
      (pss_cons (ps_while PassesOwn.never (PW.pt (pw_and (pt_cmpR op_lt (pv 2) (pe_callB call_len_str (by rfl) T.z_len (by decide +kernel) (pa_cons (pv 0) pa_nil)) (nomark _)) (pw_and1 (pt_val (Zn.pe_cal c__runs_on (hr.mono (by decide)) (by rfl) (pa_cons (pe_ix ix_str (pv 0) (pv 2) (fun _ _ => rfl)) pa_nil)))))) 
       (pss_one (ps_aug (i := 2) sc__end_of.nd rfl (Or.inl rfl) pe_int ip_add)))
      (pss_one (ps_ret (pv 2)))))), ?_⟩
    have hs : z.length ≤ sizeLine := Nat.le_trans hz (by decide)
    obtain ⟨c, hc⟩ := getElem_drop_cons hn
    have hcn : z.cps.toList[n]? = some c := by
      have := congrArg (·[0]?) hc
      simpa using this
    walk_at "rs"
    refine r_ixS hs (atI_nat hcn) ?_
    walk_at "rs"
    refine ⟨c, rfl, ?_⟩
    walk_at "rs"
    refine ite2 (fun h => ?_) (fun h => ?_)
    · have hr : run c = false := by
        cases e : run c with
        | false => rfl
        | true => rw [e] at h; cases h
      have hq := T.q_LONG_SIGNS H
      have e2 : tl (cutS z (some (n : Int)) (some ((n : Int) + 2))) = c :: ((tl z).drop (n + 1)).take 1 := by
        rw [tl_cut (by omega) (by omega)]
        have e : ((n : Int) + 2).toNat - (n : Int).toNat = 2 := by omega
        rw [e, Int.toNat_natCast, show List.drop n (tl z) = _ from hc]
        rfl
      have q2 : ∀ k : Bool, (decide (c :: ((tl z).drop (n + 1)).take 1 ∈ longs) = k) → Q (.int ((n : Int) + if k = true then 2 else 1)) H := fun k hk => by
        rw [hc, lex_not hr] at q
        subst hk
        by_cases hm : c :: ((tl z).drop (n + 1)).take 1 ∈ longs
        · rw [if_pos hm] at q
          rw [if_pos (decide_eq_true hm)]
          exact q
        · rw [if_neg hm] at q
          rw [if_neg (by simpa using hm)]
          exact q
      walk_at "rs"
      rw [in_longs, e2]
      refine ite2 (fun h => ?_) (fun h => ?_)
      · walk_at "rs"
        exact q2 true h
      · walk_at "rs"
        exact q2 false (eq_false_of_ne_true h)
    · have hr : run c = true := by
        cases e : run c with
        | true => rfl
        | false => rw [e] at h; exact absurd rfl h
      walk_at "rs"
      refine ⟨fun m σ H' => H' = H ∧ ∃ e : Nat, σ = [some (.str z), some (.int (n : Int)), some (.int (e : Int))] ∧ n ≤ e ∧ e ≤ (tl z).length ∧ m = (tl z).length - e ∧ (e - n) + (((tl z).drop e).takeWhile run).length = (((tl z).drop n).takeWhile run).length, ⟨_, rfl, n, rfl, Nat.le_refl _, Nat.le_of_lt hn, rfl, by omega⟩, ?_⟩
      rintro m σ H' ⟨rfl, e, rfl, h1, h2, rfl, h3⟩
      walk_at "rs"
      have hlz := len_tl z
      refine ite2 (fun h4 => ?_) (fun h4 => ?_)
      · have h4 : (e : Int) < z.length := of_decide_eq_true h4
        have he : e < (tl z).length := by omega
        obtain ⟨c2, hc2⟩ := getElem_drop_cons he
        have hcn2 : z.cps.toList[e]? = some c2 := by
          have := congrArg (·[0]?) hc2
          simpa using this
        walk_at "rs"
        refine r_ixS hs (atI_nat hcn2) ?_
        walk_at "rs"
        refine ⟨c2, rfl, ?_⟩
        walk_at "rs"
        refine ite2 (fun h5 => ?_) (fun h5 => ?_)
        · refine ⟨_, fun _ _ h => h, ?_⟩
          walk_at "rs"
          have e3 : ((tl z).drop e).takeWhile run = c2 :: ((tl z).drop (e + 1)).takeWhile run := by
            rw [hc2, List.takeWhile_cons, if_pos h5]
          rw [e3, List.length_cons] at h3
          refine ⟨_, ?_, rfl, e + 1, rfl, by omega, by omega, rfl, by omega⟩
          omega
        · walk_at "rs"
          have e3 : ((tl z).drop e).takeWhile run = [] := by
            rw [hc2, List.takeWhile_cons, if_neg h5]
          rw [e3] at h3
          rw [hc, List.takeWhile_cons, if_pos hr, List.length_cons] at h3
          rw [hc, lex_run hr] at q
          have e4 : e = n + (1 + (List.takeWhile run (List.drop (n + 1) (tl z))).length) := by
            simp only [List.length_nil] at h3
            omega
          rw [e4]
          exact q
      · have h4 : ¬ (e : Int) < z.length := fun k => h4 (decide_eq_true k)
        walk_at "rs"
        have e3 : ((tl z).drop e) = [] := List.drop_of_length_le (by omega)
        rw [e3] at h3
        rw [hc, List.takeWhile_cons, if_pos hr, List.length_cons] at h3
        rw [hc, lex_run hr] at q
        have e4 : e = n + (1 + (List.takeWhile run (List.drop (n + 1) (tl z))).length) := by
          simp only [List.takeWhile_nil, List.length_nil] at h3
          omega
        rw [e4]
        exact q
end
end Zn
namespace Zn
open PySem PySem.Spec PyProof.Rows L2 TL
section
variable {P : Program} {w : World} {K : PySem.W.Frag} {mg : Str → Option Value} {base : Heap} {aL aS : Addr}
def spToks : Sp := fun vs H Q _ => ∃ z : Str, vs = [.str z] ∧ z.length ≤ 1000000 ∧
  ∀ (H' : Hp) (p : Addr) (ts : List Str), Same H H' → H' p = some (.tup (ts.map V.str)) → ts.length ≤ z.length → ts.map tl = toks (tl z) → Q (.ref p) H'
theorem tok1_in {z : Str} {n : Nat} (hn : n < (tl z).length) : tl (cutS z (some (n : Int)) (some ((n + lex ((tl z).drop n) : Nat) : Int))) = ((tl z).drop n).take (lex ((tl z).drop n)) := by
  rw [tl_cut (by omega) (by omega)]
  have e : ((n + lex ((tl z).drop n) : Nat) : Int).toNat - (n : Int).toNat = lex ((tl z).drop n) := by omega
  rw [e, Int.toNat_natCast]
theorem ok_tokens_of {f : Addr} {fd : FuncData} (F : Fun K "tokens_of" "tokens_of" s_tokens_of f fd) (c__end_of : Cal P w K mg base "_end_of" 3 spEnd) (T : Tx K mg aL aS) : FnOk P w K mg base CX0 4 f fd ["text"] spToks := by
  refine F.ok sc_tokens_of (fun vs H Q E h => ?_) (fun cdv A outer s H vs Q E hr h => ?_)
  · obtain ⟨z, rfl, _⟩ := h
    rfl
  · obtain ⟨z, rfl, hz, q⟩ := h
    refine ⟨_, 
      (pss_cons (ps_set (i := 1) sc_tokens_of.nd rfl (Or.inl rfl) (pe_lst pa_nil))
      (pss_cons (ps_set (i := 2) sc_tokens_of.nd rfl (Or.inl rfl) pe_int)
      (pss_cons (ps_while PassesOwn.never (pt_cmpR op_lt (pv 2) (pe_callB call_len_str (by rfl) T.z_len (by decide +kernel) (pa_cons (pv 0) pa_nil)) (nomark _)) 
       (pss_cons (ps_set (i := 3) sc_tokens_of.nd rfl (Or.inl rfl) (Zn.pe_cal c__end_of (hr.mono (by decide)) (by rfl) (pa_cons (pv 0) (pa_cons (pv 2) pa_nil))))
       (pss_cons (ps_set (i := 4) sc_tokens_of.nd rfl (Or.inl rfl) (pe_slice sl_str (pv 0) (po_some (pv 2)) (po_some (pv 3))))
       (pss_cons (ps_if (pt_cmpR (r := rIn K true) op_notIn_seq (pv 4) (pe_glob (by rfl) T.g_SPACES T.r_SPACES) (by rfl)) 
        (pss_one (ps_expr (pe_bm PySem.F.plainAttrs_list PySem.F.slot_list_append PySem.F.type_list_append mt_append (pv 1) (pa_cons (pv 4) pa_nil)))) pss_nil)
       (pss_one (ps_set (i := 2) sc_tokens_of.nd rfl (Or.inl rfl) (pv 3)))))))
      (pss_one (ps_ret (pe_callTy call_tuple_of (by rfl) T.z_tuple (by decide +kernel) (pa_cons (pv 1) pa_nil))))))), ?_⟩
    have hs : z.length ≤ sizeLine := Nat.le_trans hz (by decide)
    have hlz := len_tl z
    walk_at "rs"
    rename_i g hg
    refine ⟨fun m σ H' => ∃ (n : Nat) (ts : List Str) (v3 v4 : Option V), σ = [some (.str z), some (.ref g), some (.int (n : Int)), v3, v4] ∧ Same H H' ∧ H' g = some (.lst (ts.map V.str)) ∧ n ≤ (tl z).length ∧ m = (tl z).length - n ∧ ts.length ≤ n ∧ ts.map tl ++ toks ((tl z).drop n) = toks (tl z), ⟨_, 0, [], _, _, rfl, same_new hg, upd_same, Nat.zero_le _, rfl, Nat.le_refl _, rfl⟩, ?_⟩
    rintro m σ H' ⟨n, ts, v3, v4, rfl, s1, hg1, h1, rfl, hl1, h2⟩
    walk_at "rs"
    refine ite2 (fun h => ?_) (fun h => ?_)
    · have h : (n : Int) < z.length := of_decide_eq_true h
      have hn : n < (tl z).length := by omega
      have hne : (tl z).drop n ≠ [] := by
        intro e
        have := congrArg List.length e
        rw [List.length_drop, List.length_nil] at this
        omega
      have hp := lex_pos hne
      have hle := lex_le ((tl z).drop n)
      rw [List.length_drop] at hle
      refine ⟨_, fun _ _ h => h, ?_⟩
      walk_at "rs"
      refine ⟨z, n, rfl, hz, hn, ?_⟩
      have hq := T.q_SPACES H'
      walk_at "rs"
      rw [in_spaces, tok1_in hn]
      refine ite2 (fun h => ?_) (fun h => ?_)
      · have h : ¬ ((tl z).drop n).take (lex ((tl z).drop n)) ∈ spaces := by simpa using h
        walk_at "rs"
        refine r_append hg1 (by rw [List.length_map]; exact Nat.lt_of_le_of_lt (show ts.length ≤ 1000000 by omega) (by decide)) ?_
        walk_at "rs"
        refine ⟨_, ?_, n + lex ((tl z).drop n), ts ++ [cutS z (some (n : Int)) (some ((n + lex ((tl z).drop n) : Nat) : Int))], _, _, rfl, Same.mut s1 hg, ?_, by omega, rfl, ?_, ?_⟩
        · omega
        · rw [upd_same, List.map_append]; rfl
        · rw [List.length_append, List.length_singleton]; omega
        · rw [← h2, toks_step hne, tok1, if_neg h, List.map_append, List.drop_drop, List.append_assoc, List.map_singleton, tok1_in hn]
      · have h : ((tl z).drop n).take (lex ((tl z).drop n)) ∈ spaces := by simpa using h
        walk_at "rs"
        refine ⟨_, ?_, n + lex ((tl z).drop n), ts, _, _, rfl, s1, hg1, by omega, rfl, by omega, ?_⟩
        · omega
        · rw [← h2, toks_step hne, tok1, if_pos h, List.drop_drop]
          rfl
    · have h : ¬ (n : Int) < z.length := fun k => h (decide_eq_true k)
      walk_at "rs"
      refine ⟨g, _, rfl, .inl ⟨sl_of hg1, fun p hp => ?_⟩⟩
      refine q _ p ts (s1.trans (same_new hp)) upd_same (by omega) ?_
      rw [← h2, List.drop_of_length_le (by omega), toks_nil, List.append_nil]
end
end Zn
namespace Zn
open PySem PySem.Spec PyProof.Rows L2 TL
section
variable {P : Program} {w : World} {K : PySem.W.Frag} {mg : Str → Option Value} {base : Heap} {aL aS : Addr}
def RUNS : Str := "abcdefghijklmnopqrstuvwxyzABCDEFGHIJKLMNOPQRSTUVWXYZ0123456789"
theorem runs_mem (c : Nat) : decide (c ∈ RUNS.cps.toList) = run c := by
  by_cases h : c < 123
  · have : ∀ c < 123, decide (c ∈ RUNS.cps.toList) = run c := by decide +kernel
    exact this c h
  · have h1 : run c = false := by
      unfold run
      have a : ¬ c ≤ 122 := by omega
      have b : ¬ c ≤ 57 := by omega
      have d : ¬ c ≤ 90 := by omega
      simp [a, b, d]
    have h2 : ∀ x ∈ RUNS.cps.toList, x < 123 := by decide +kernel
    rw [h1]
    exact decide_eq_false fun hm => h (h2 c hm)
theorem ixN_last (n : Nat) : ixN (n + 1) (-1) = some n := by
  unfold ixN
  rw [if_neg (by decide)]
  have : ((-1 : Int) + ((n + 1 : Nat) : Int)).toNat = n := by omega
  simp
  omega
theorem drop_takeWhile {p : Nat → Bool} : ∀ r : List Nat, r.drop (r.takeWhile p).length = r.dropWhile p
  | [] => rfl
  | c :: r => by
    rw [List.takeWhile_cons, List.dropWhile_cons]
    split
    · exact drop_takeWhile r
    · rfl
theorem take_takeWhile {p : Nat → Bool} : ∀ r : List Nat, r.take (r.takeWhile p).length = r.takeWhile p
  | [] => rfl
  | c :: r => by
    rw [List.takeWhile_cons]
    split
    · exact congrArg (c :: ·) (take_takeWhile r)
    · rfl
theorem toks_run {c : Nat} {r : List Nat} (h : run c = true) : toks (c :: r) = (c :: r.takeWhile run) :: toks (r.dropWhile run) := by
  rw [toks_step (by simp), tok1, lex_run h]
  have e : (c :: r).take (1 + (r.takeWhile run).length) = c :: r.takeWhile run := by
    rw [Nat.add_comm, List.take_succ_cons, take_takeWhile]
  have e2 : (c :: r).drop (1 + (r.takeWhile run).length) = r.dropWhile run := by
    rw [Nat.add_comm, List.drop_succ_cons, drop_takeWhile]
  rw [e, e2, if_neg]
  · rfl
  · intro hm
    simp only [spaces, List.mem_cons, List.not_mem_nil, or_false] at hm
    rcases hm with hm | hm <;> (have := (List.cons.inj hm).1; subst this; exact absurd h (by decide))
theorem toks_long {c : Nat} {r : List Nat} (h : run c = false) (hl : c :: r.take 1 ∈ longs) : toks (c :: r) = (c :: r.take 1) :: toks (r.drop 1) := by
  rw [toks_step (by simp), tok1, lex_not h, if_pos hl]
  have e : (c :: r).take 2 = c :: r.take 1 := rfl
  have e2 : (c :: r).drop 2 = r.drop 1 := rfl
  rw [e, e2, if_neg]
  · rfl
  · intro hm
    simp only [spaces, List.mem_cons, List.not_mem_nil, or_false] at hm
    rcases hm with hm | hm <;> (rw [hm] at hl; exact absurd hl (by decide))
theorem toks_one {c : Nat} {r : List Nat} (h : run c = false) (hl : ¬ c :: r.take 1 ∈ longs) : toks (c :: r) = (if [c] ∈ spaces then [] else [[c]]) ++ toks r := by
  rw [toks_step (by simp), tok1, lex_not h, if_neg hl]
  rfl
def spCut : Sp := fun vs H Q _ => ∃ z : Str, vs = [.str z] ∧ z.length ≤ 1000000 ∧
  ∀ (H' : Hp) (p : Addr) (ts : List Str), Same H H' → H' p = some (.lst (ts.map V.str)) → ts.map tl = toks (tl z) → Q (.ref p) H'
/-- what the law's own reader knows at a place -/
inductive At_ (L : List Nat) (k : Nat) : List Str → Bool → Bool → Prop
  | used {ts : List Str} (h : ts.map tl ++ toks (L.drop (k + 1)) = toks L) : At_ L k ts false true
  | out {ts : List Str} (h : ts.map tl ++ toks (L.drop k) = toks L) : At_ L k ts false false
  | inside {ts : List Str} {w : Str} (hw : (tl w).length ≤ k) (h : ts.map tl ++ (tl w ++ (L.drop k).takeWhile run) :: toks ((L.drop k).dropWhile run) = toks L) : At_ L k (ts ++ [w]) true false
theorem At_.done {L : List Nat} {k : Nat} {ts : List Str} {a b : Bool} (h : At_ L k ts a b) (hk : L.length ≤ k) : ts.map tl = toks L := by
  cases h with
  | used h => rw [List.drop_of_length_le (by omega), toks_nil, List.append_nil] at h; exact h
  | out h => rw [List.drop_of_length_le (by omega), toks_nil, List.append_nil] at h; exact h
  | inside _ h =>
    rw [List.drop_of_length_le (by omega), List.takeWhile_nil, List.dropWhile_nil, toks_nil, List.append_nil] at h
    rw [List.map_append]
    exact h
theorem At_.left {L : List Nat} {k c : Nat} {ts : List Str} {a : Bool} (h : At_ L k ts a false) (e : L.drop k = c :: L.drop (k + 1)) (hr : run c = false) : ts.map tl ++ toks (L.drop k) = toks L := by
  cases h with
  | out h => exact h
  | inside _ h =>
    rw [e, List.takeWhile_cons, List.dropWhile_cons, hr] at h
    rw [List.map_append, List.append_assoc, e]
    simpa using h
theorem ok_cut_tokens {f : Addr} {fd : FuncData} (F : Fun K "_law_cut_tokens" "_law_cut_tokens" s__law_cut_tokens f fd) (T : Tx K mg aL aS) : FnOk P w K mg base CX0 1 f fd ["_law_text"] spCut := by
  refine F.ok sc__law_cut_tokens (fun vs H Q E h => ?_) (fun cdv A outer s H vs Q E hr h => ?_)
  · obtain ⟨z, rfl, _⟩ := h
    rfl
  · obtain ⟨z, rfl, hz, q⟩ := h
    refine ⟨_, 
      (pss_cons (ps_set (i := 1) sc__law_cut_tokens.nd rfl (Or.inl rfl) pe_str)
      (pss_cons (ps_set (i := 2) sc__law_cut_tokens.nd rfl (Or.inl rfl) (pe_lst pa_nil))
      (pss_cons (ps_set (i := 3) sc__law_cut_tokens.nd rfl (Or.inl rfl) pe_bl)
      (pss_cons (ps_set (i := 4) sc__law_cut_tokens.nd rfl (Or.inl rfl) pe_bl)
      (pss_cons (ps_for PassesOwn.never rfl (pi_range1 (by rfl) T.z_range (pa_cons (pe_callB call_len_str (by rfl) T.z_len (by decide +kernel) (pa_cons (pv 0) pa_nil)) pa_nil)) (pg_name (i := 5) sc__law_cut_tokens.nd rfl (Or.inl rfl)) 
       (pss_one (ps_if (pt_val (pv 4)) 
        (pss_one (ps_set (i := 4) sc__law_cut_tokens.nd rfl (Or.inl rfl) pe_bl)) 
        (pss_one (ps_if (pt_cmpR op_in_sign (pe_ix ix_str (pv 0) (pv 5) (fun _ _ => rfl)) (pv 1) (by rfl)) 
         (pss_cons (ps_if (pt_val (pv 3)) 
          (pss_one (ps_asg (pe_op op_add_str (pe_ix (r := rIxL K) ix_list (pv 2) (pe_un un_neg pe_int) (fun _ _ => rfl)) (pe_ix ix_str (pv 0) (pv 5) (fun _ _ => rfl))) (pg_sub (pv 2) (pe_un un_neg pe_int) set_list))) 
          (pss_one (ps_expr (pe_bm PySem.F.plainAttrs_list PySem.F.slot_list_append PySem.F.type_list_append mt_append (pv 2) (pa_cons (pe_ix ix_str (pv 0) (pv 5) (fun _ _ => rfl)) pa_nil)))))
         (pss_one (ps_set (i := 3) sc__law_cut_tokens.nd rfl (Or.inl rfl) pe_bl))) 
         (pss_cons (ps_set (i := 3) sc__law_cut_tokens.nd rfl (Or.inl rfl) pe_bl)
         (pss_one (ps_if (pt_cmpR (r := rIn K false) op_in_seq (pe_slice sl_str (pv 0) (po_some (pv 5)) (po_some (pe_op op_add (pv 5) pe_int))) (pe_tup (pa_cons pe_str (pa_cons pe_str (pa_cons pe_str (pa_cons pe_str (pa_cons pe_str pa_nil)))))) (by rfl)) 
          (pss_cons (ps_expr (pe_bm PySem.F.plainAttrs_list PySem.F.slot_list_append PySem.F.type_list_append mt_append (pv 2) (pa_cons (pe_slice sl_str (pv 0) (po_some (pv 5)) (po_some (pe_op op_add (pv 5) pe_int))) pa_nil)))
          (pss_one (ps_set (i := 4) sc__law_cut_tokens.nd rfl (Or.inl rfl) pe_bl))) 
          (pss_one (ps_if (pt_cmpR (r := rIn K true) op_notIn_seq (pe_ix ix_str (pv 0) (pv 5) (fun _ _ => rfl)) (pe_tup (pa_cons pe_str (pa_cons pe_str pa_nil))) (by rfl)) 
           (pss_one (ps_expr (pe_bm PySem.F.plainAttrs_list PySem.F.slot_list_append PySem.F.type_list_append mt_append (pv 2) (pa_cons (pe_ix ix_str (pv 0) (pv 5) (fun _ _ => rfl)) pa_nil)))) pss_nil))))))))))
      (pss_one (ps_ret (pv 2)))))))), ?_⟩
    have hs : z.length ≤ sizeLine := Nat.le_trans hz (by decide)
    have hlz := len_tl z
    walk_at "rs"
    rename_i g hg
    have hzn : (z.length : Int).toNat = z.length := by omega
    refine fr (fun k σ H' => ∃ (ts : List Str) (a b : Bool) (v5 : Option V), σ = [some (.str z), some (.str RUNS), some (.ref g), some (.bl a), some (.bl b), v5] ∧ Same H H' ∧ H' g = some (.lst (ts.map V.str)) ∧ ts.length ≤ k ∧ At_ (tl z) k ts a b) ?_ ?_ ?_
    · exact ⟨[], false, false, none, rfl, same_new hg, upd_same, Nat.le_refl _, .out rfl⟩
    · rintro k σ H' hk ⟨ts, a, b, v5, rfl, s1, hg1, hl, hA⟩
      rw [hzn] at hk
      have hk2 : k < (tl z).length := by omega
      obtain ⟨c, hc⟩ := getElem_drop_cons hk2
      have hcn : z.cps.toList[k]? = some c := by
        have := congrArg (·[0]?) hc
        simpa using this
      have hcn' : atI z.cps.toList (0 + (k : Int)) = some c := by rw [Int.zero_add]; exact atI_nat hcn
      have hss : ∀ x : Str, inV (.str x) [.str "==", .str "!=", .str "<=", .str "<<", .str ">>"] = decide (tl x ∈ longs) := in_longs
      walk_at "rs"
      refine ite2 (fun hb => ?_) (fun hb => ?_)
      · subst hb
        walk_at "rs"
        cases hA with
        | used h => exact ⟨ts, false, false, _, rfl, s1, hg1, by omega, .out h⟩
      · have hb := eq_false_of_ne_true hb
        subst hb
        walk_at "rs"
        refine r_ixS hs hcn' ?_
        walk_at "rs"
        rw [show decide (c ∈ RUNS.cps.toList) = run c from runs_mem c]
        have hlt : ∀ t : List Str, t.length ≤ k → (t.map V.str).length < sizeLine := fun t ht => by
          rw [List.length_map]
          exact Nat.lt_of_le_of_lt (show t.length ≤ 1000000 by omega) (by decide)
        refine ite2 (fun hrun => ?_) (fun hrun => ?_)
        · walk_at "rs"
          refine ite2 (fun ha => ?_) (fun ha => ?_)
          · subst ha
            cases hA with
            | @inside ts w hw h =>
              have hlen : ((ts ++ [w]).map V.str).length = ts.length + 1 := by simp
              have hlast : ((ts ++ [w]).map V.str)[ts.length]? = some (.str w) := by simp
              have hat : atI ((ts ++ [w]).map V.str) (-1) = some (.str w) := by
                unfold atI
                rw [hlen, ixN_last]
                exact hlast
              have hix : ixN ((ts ++ [w]).map V.str).length (-1) = some ts.length := by rw [hlen, ixN_last]
              walk_at "rs"
              refine r_ixL (sl_of hg1) hat ?_
              walk_at "rs"
              refine r_ixS hs hcn' ?_
              walk_at "rs"
              refine ⟨by rw [len_tl, len_tl]; exact Nat.le_trans (show (tl w).length + 1 ≤ 2000000 by omega) (by decide), ?_⟩
              walk_at "rs"
              refine r_setL hg1 hix ?_
              walk_at "rs"
              refine ⟨ts ++ [w ++ ⟨#[c]⟩], true, false, _, rfl, Same.mut s1 hg, ?_, ?_, .inside ?_ ?_⟩
              · rw [upd_same, List.map_append, List.map_append]
                congr 1
                congr 1
                rw [List.set_append_right _ _ (by simp)]
                simp
              · rw [List.length_append, List.length_singleton] at hl ⊢
                omega
              · rw [tl_append, List.length_append]
                show (tl w).length + 1 ≤ k + 1
                omega
              · rw [hc, List.takeWhile_cons, List.dropWhile_cons, if_pos hrun, if_pos hrun] at h
                rw [tl_append, List.append_assoc]
                exact h
          · have ha := eq_false_of_ne_true ha
            subst ha
            walk_at "rs"
            refine r_ixS hs hcn' ?_
            walk_at "rs"
            refine r_append hg1 (hlt ts hl) ?_
            walk_at "rs"
            refine ⟨ts ++ [⟨#[c]⟩], true, false, _, rfl, Same.mut s1 hg, ?_, ?_, .inside ?_ ?_⟩
            · rw [upd_same, List.map_append]
              rfl
            · rw [List.length_append, List.length_singleton]
              omega
            · show 1 ≤ k + 1
              omega
            · cases hA with
              | out h =>
                rw [hc, toks_run hrun] at h
                exact h
        · have hrun := eq_false_of_ne_true hrun
          have hL := hA.left hc hrun
          have e2 : tl (cutS z (some (0 + (k : Int))) (some (0 + (k : Int) + 2))) = c :: ((tl z).drop (k + 1)).take 1 := by
            rw [tl_cut (by omega) (by omega)]
            have e : (0 + (k : Int) + 2).toNat - (0 + (k : Int)).toNat = 2 := by omega
            have e' : (0 + (k : Int)).toNat = k := by omega
            rw [e, e', show List.drop k (tl z) = _ from hc]
            rfl
          walk_at "rs"
          rename_i p hp
          have s2 : Same H' (upd H' p (.tup [.str "==", .str "!=", .str "<=", .str "<<", .str ">>"])) := same_new hp
          rw [hss, e2]
          refine ite2 (fun hm => ?_) (fun hm => ?_)
          · have hm : c :: ((tl z).drop (k + 1)).take 1 ∈ longs := of_decide_eq_true hm
            walk_at "rs"
            refine r_append (s2 _ _ hg1) (hlt ts hl) ?_
            walk_at "rs"
            refine ⟨ts ++ [cutS z (some (0 + (k : Int))) (some (0 + (k : Int) + 2))], false, true, _, rfl, Same.mut (s1.trans s2) hg, ?_, ?_, .used ?_⟩
            · rw [upd_same, List.map_append]
              rfl
            · rw [List.length_append, List.length_singleton]
              omega
            · rw [List.map_append, List.append_assoc, List.map_singleton, e2, ← hL, hc, toks_long hrun hm, List.drop_drop]
              rfl
          · have hm : ¬ c :: ((tl z).drop (k + 1)).take 1 ∈ longs := fun k => hm (decide_eq_true k)
            walk_at "rs"
            refine r_ixS hs hcn' ?_
            walk_at "rs"
            rename_i p2 hp2
            have s3 : Same H' (upd (upd H' p (.tup [.str "==", .str "!=", .str "<=", .str "<<", .str ">>"])) p2 (.tup [.str " ", .str "\n"])) := s2.trans (same_new hp2)
            rw [show inV (.str ⟨#[c]⟩) [.str " ", .str "\n"] = decide ([c] ∈ spaces) from in_spaces _]
            have hL2 := hL
            rw [hc, toks_one hrun hm] at hL2
            refine ite2 (fun hsp => ?_) (fun hsp => ?_)
            · have hsp : ¬ [c] ∈ spaces := by simpa using hsp
              walk_at "rs"
              refine r_ixS hs hcn' ?_
              walk_at "rs"
              refine r_append (s3 _ _ hg1) (hlt ts hl) ?_
              walk_at "rs"
              refine ⟨ts ++ [⟨#[c]⟩], false, false, _, rfl, Same.mut (s1.trans s3) hg, ?_, ?_, .out ?_⟩
              · rw [upd_same, List.map_append]
                rfl
              · rw [List.length_append, List.length_singleton]
                omega
              · rw [if_neg hsp] at hL2
                rw [List.map_append, List.append_assoc]
                exact hL2
            · have hsp : [c] ∈ spaces := by simpa using hsp
              walk_at "rs"
              rw [if_pos hsp] at hL2
              exact ⟨ts, false, false, _, rfl, s1.trans s3, s3 _ _ hg1, by omega, .out hL2⟩
    · rintro σ H' ⟨ts, a, b, v5, rfl, s1, hg1, hl, hA⟩
      walk_at "rs"
      exact q _ g ts s1 hg1 (hA.done (by omega))
end
end Zn
namespace Zn
open PySem PySem.Spec PyProof.Rows L2 TL
/-- signs that a text can have -/
def okB (z : Str) : Bool := (tl z).all (decide <| · < 1114112)
theorem ok_app {a b : Str} (h1 : okB a = true) (h2 : okB b = true) : okB (a ++ b) = true := by
  unfold okB at *
  rw [tl_append, List.all_append, h1, h2]
  rfl
theorem ok_sub {a b : Str} (h : okB a = true) (s : ∀ x ∈ tl b, x ∈ tl a) : okB b = true :=
  List.all_eq_true.mpr fun x hx => List.all_eq_true.mp h x (s x hx)
theorem ok_cut {z : Str} {lo hi : Option Int} (h : okB z = true) : okB (cutS z lo hi) = true :=
  ok_sub h fun _ hx => List.mem_of_mem_drop (List.mem_of_mem_take hx)
theorem ok_one {z : Str} {c : Nat} (h : okB z = true) (m : c ∈ tl z) : okB ⟨#[c]⟩ = true :=
  ok_sub h fun x hx => by
    have : x ∈ [c] := hx
    rw [List.mem_singleton] at this
    subst this
    exact m
section
variable {P : Program} {w : World} {K : PySem.W.Frag} {mg : Str → Option Value} {base : Heap} {aL aS : Addr}
/-- one of a row, by a draw -/
def spPick (K : PySem.W.Frag) : Sp := fun vs H Q _ => ∃ (d c : Addr) (r : V), vs = [.ref d, r] ∧ Drw H d c ∧
  ((∃ a xs, r = .ref a ∧ a ≠ d ∧ SqL K H a xs ∧ xs ≠ [] ∧ xs.length ≤ 1000 ∧ ∀ x zs, x ∈ xs → Drw (upd H d (.lst zs)) d c → Q x (upd H d (.lst zs)))
    ∨ ∃ z : Str, r = .str z ∧ tl z ≠ [] ∧ z.length ≤ 1000 ∧ ∀ s zs, s ∈ tl z → Drw (upd H d (.lst zs)) d c → Q (.str ⟨#[s]⟩) (upd H d (.lst zs)))
theorem ok_pick {f : Addr} {fd : FuncData} (F : Fun K "_law_pick" "_law_pick" s__law_pick f fd) (c__law_draw : Cal P w K mg base "_law_draw" 1 spDraw) (T : Tx K mg aL aS) : FnOk P w K mg base CX0 2 f fd ["_law_d", "_law_row"] (spPick K) := by
  refine F.ok sc__law_pick (fun vs H Q E h => ?_) (fun cdv A outer s H vs Q E hr h => ?_)
  · obtain ⟨d, c, r, rfl, _⟩ := h
    rfl
  · obtain ⟨d, c, r, rfl, hD, h⟩ := h
    rcases h with ⟨a, xs, rfl, nad, hS, hne, hl, q⟩ | ⟨z, rfl, hne, hl, q⟩
    · have hpos := List.length_pos_iff.mpr hne
      refine ⟨_, 
      (pss_one (ps_ret (pe_ix (r := rIxL K) ix_list (pv 1) (Zn.pe_cal c__law_draw (hr.mono (by decide)) (by rfl) (pa_cons (pv 0) (pa_cons (pe_callB call_len_seq (by rfl) T.z_len (by decide +kernel) (pa_cons (pv 1) pa_nil)) pa_nil))) (fun _ _ => rfl)))), ?_⟩
      walk_at "rs"
      refine ⟨d, c, _, rfl, hD, by omega, by omega, fun n zs n0 n1 D1 => ?_⟩
      have hj : n.toNat < xs.length := by omega
      refine r_ixL (v := xs[n.toNat]) ((keep_upd (d := d)).seq nad hS) (atI_lt (j := n.toNat) (by omega) (List.getElem?_eq_getElem hj)) ?_
      exact q _ _ (List.getElem_mem _) D1
    · have hpos := List.length_pos_iff.mpr hne
      have hlz := len_tl z
      have hs : z.length ≤ sizeLine := Nat.le_trans hl (by decide)
      refine ⟨_, 
      (pss_one (ps_ret (pe_ix ix_str (pv 1) (Zn.pe_cal c__law_draw (hr.mono (by decide)) (by rfl) (pa_cons (pv 0) (pa_cons (pe_callB call_len_str (by rfl) T.z_len (by decide +kernel) (pa_cons (pv 1) pa_nil)) pa_nil))) (fun _ _ => rfl)))), ?_⟩
      walk_at "rs"
      refine ⟨d, c, _, rfl, hD, by omega, by omega, fun n zs n0 n1 D1 => ?_⟩
      have hj : n.toNat < (tl z).length := by omega
      refine r_ixS hs (c := (tl z)[n.toNat]) ?_ ?_
      · have hh := atI_nat (List.getElem?_eq_getElem hj)
        rw [Int.toNat_of_nonneg n0] at hh
        exact hh
      · exact q _ _ (List.getElem_mem _) D1
def spRare : Sp := fun vs H Q _ => ∃ (d c : Addr) (m : Int), vs = [.ref d, .int m] ∧ Drw H d c ∧ 1 ≤ m ∧ m < 1073741824 ∧ ∀ (b : Bool) (zs : List V), Drw (upd H d (.lst zs)) d c → Q (.bl b) (upd H d (.lst zs))
theorem ok_rare {f : Addr} {fd : FuncData} (F : Fun K "_law_rare" "_law_rare" s__law_rare f fd) (c__law_draw : Cal P w K mg base "_law_draw" 1 spDraw) (T : Tx K mg aL aS) : FnOk P w K mg base CX0 2 f fd ["_law_d", "_law_many"] spRare := by
  refine F.ok sc__law_rare (fun vs H Q E h => ?_) (fun cdv A outer s H vs Q E hr h => ?_)
  · obtain ⟨d, c, r, rfl, _⟩ := h
    rfl
  · obtain ⟨d, c, m, rfl, hD, m0, m1, q⟩ := h
    refine ⟨_, 
      (pss_one (ps_ret (pe_cmpR op_eq (Zn.pe_cal c__law_draw (hr.mono (by decide)) (by rfl) (pa_cons (pv 0) (pa_cons (pv 1) pa_nil))) (pe_op op_fdiv (pv 1) pe_int) (nomark _)))), ?_⟩
    walk_at "rs"
    refine ⟨d, c, _, rfl, hD, m0, m1, fun n zs n0 n1 D1 => ?_⟩
    walk_at "rs"
    exact q _ _ D1
/-- a new list of texts -/
def spStrs (n : Nat) : Sp := fun vs H Q _ => vs = [] ∧ ∀ (H' : Hp) (p : Addr) (ts : List Str), Same H H' → H p = none → H' p = some (.lst (ts.map V.str)) → ts ≠ [] → ts.length ≤ 100 → (∀ t ∈ ts, t.length ≤ n ∧ okB t = true) → Q (.ref p) H'
theorem ok_reserved {f : Addr} {fd : FuncData} (F : Fun K "_law_reserved" "_law_reserved" s__law_reserved f fd) (T : Tx K mg aL aS) : FnOk P w K mg base CX0 1 f fd [] (spStrs 8) := by
  refine F.ok sc__law_reserved (fun vs H Q E h => ?_) (fun cdv A outer s H vs Q E hr h => ?_)
  · obtain ⟨rfl, _⟩ := h
    rfl
  · obtain ⟨rfl, q⟩ := h
    refine ⟨_, 
      (pss_cons (ps_set (i := 0) sc__law_reserved.nd rfl (Or.inl rfl) pe_str)
      (pss_one (ps_ret (pe_bm PySem.F.plainAttrs_str PySem.F.slot_str_split PySem.F.type_str_split mt_split (pe_op op_add_str (pv 0) pe_str) (pa_cons pe_str pa_nil))))), ?_⟩
    walk_at "rs"
    refine ⟨by decide +kernel, ?_⟩
    walk_at "rs"
    refine ⟨by decide +kernel, by decide +kernel, fun p hp => ?_⟩
    walk_at "rs"
    refine q _ p _ (same_new hp) hp upd_same (by decide +kernel) (by decide +kernel) (by decide +kernel)
theorem ok_signs {f : Addr} {fd : FuncData} (F : Fun K "_law_signs" "_law_signs" s__law_signs f fd) (T : Tx K mg aL aS) : FnOk P w K mg base CX0 1 f fd [] (spStrs 2) := by
  refine F.ok sc__law_signs (fun vs H Q E h => ?_) (fun cdv A outer s H vs Q E hr h => ?_)
  · obtain ⟨rfl, _⟩ := h
    rfl
  · obtain ⟨rfl, q⟩ := h
    refine ⟨_, 
      (pss_one (ps_ret (pe_bm PySem.F.plainAttrs_str PySem.F.slot_str_split PySem.F.type_str_split mt_split pe_str (pa_cons pe_str pa_nil)))), ?_⟩
    walk_at "rs"
    refine ⟨by decide +kernel, by decide +kernel, fun p hp => ?_⟩
    walk_at "rs"
    refine q _ p _ (same_new hp) hp upd_same (by decide +kernel) (by decide +kernel) (by decide +kernel)
end
end Zn
namespace Zn
open PySem PySem.Spec PyProof.Rows L2 TL
theorem ite_nx {c : Prop} [Decidable c] {A B : TS} {nx : L2.St → Hp → Prop} {rt : VK} {bk ct : L2.St → Hp → Prop} {σ : L2.St} {H : Hp} (Post : L2.St → Hp → Prop) (hq : ∀ σ' H', Post σ' H' → nx σ' H')
    (ha : c → ∀ nx', (∀ σ' H', Post σ' H' → nx' σ' H') → A ⟨nx', rt, bk, ct⟩ σ H) (hb : ¬ c → ∀ nx', (∀ σ' H', Post σ' H' → nx' σ' H') → B ⟨nx', rt, bk, ct⟩ σ H) :
    if c then A ⟨nx, rt, bk, ct⟩ σ H else B ⟨nx, rt, bk, ct⟩ σ H := by
  split
  · exact ha ‹_› nx hq
  · exact hb ‹_› nx hq
theorem strs_in {ts : List Str} {x : V} (h : x ∈ ts.map V.str) : ∃ t ∈ ts, x = .str t := by
  obtain ⟨t, h1, h2⟩ := List.mem_map.mp h
  exact ⟨t, h1, h2.symm⟩
theorem ints_in {ts : List Int} {x : V} (h : x ∈ ts.map V.int) : ∃ t ∈ ts, x = .int t := by
  obtain ⟨t, h1, h2⟩ := List.mem_map.mp h
  exact ⟨t, h1, h2.symm⟩
theorem all_flat (ts : List Str) : (ts.map V.str).all flatV = true := by
  rw [List.all_map]
  exact List.all_eq_true.mpr fun _ _ => rfl
theorem cut_to_len {z : Str} {b : Int} (h : 0 ≤ b) : ((cutS z none (some b)).length : Int) ≤ b := by
  rw [len_tl, tl_cut_to h, List.length_take]
  omega
theorem app_len (a b : Str) : (a ++ b).length = a.length + b.length := by
  rw [len_tl, tl_append, List.length_append, ← len_tl, ← len_tl]
theorem joinL_len : ∀ ps : List (List Nat), (joinL [] ps).length = (ps.map (·.length)).sum
  | [] => rfl
  | [p] => by simp [joinL]
  | p :: q :: ps => by
    have := joinL_len (q :: ps)
    simp only [joinL, List.length_append, List.map_cons, List.sum_cons, List.length_nil] at this ⊢
    omega
section
variable {P : Program} {w : World} {K : PySem.W.Frag} {mg : Str → Option Value} {base : Heap} {aL aS : Addr}
/-- a text of at most n signs -/
def spText (n : Nat) : Sp := fun vs H Q _ => ∃ d c : Addr, vs = [.ref d] ∧ Drw H d c ∧ ∀ (H' : Hp) (z : Str), Keep d H H' → Drw H' d c → z.length ≤ n → okB z = true → Q (.str z) H'
def spNum : Sp := fun vs H Q _ => ∃ d c : Addr, vs = [.ref d] ∧ Drw H d c ∧ ∀ (H' : Hp) (n : Nat), Keep d H H' → Drw H' d c → n < 1000 → Q (.int (n : Int)) H'
theorem ok_gap {f : Addr} {fd : FuncData} (F : Fun K "_law_gap" "_law_gap" s__law_gap f fd) (c__law_pick : Cal P w K mg base "_law_pick" 2 (spPick K)) (T : Tx K mg aL aS) : FnOk P w K mg base CX0 3 f fd ["_law_d"] (spText 2) := by
  refine F.ok sc__law_gap (fun vs H Q E h => ?_) (fun cdv A outer s H vs Q E hr h => ?_)
  · obtain ⟨d, c, rfl, _⟩ := h
    rfl
  · obtain ⟨d, c, rfl, hD, q⟩ := h
    refine ⟨_, 
      (pss_one (ps_ret (Zn.pe_cal c__law_pick (hr.mono (by decide)) (by rfl) (pa_cons (pv 0) (pa_cons (pe_lst (pa_cons pe_str (pa_cons pe_str (pa_cons pe_str (pa_cons pe_str (pa_cons pe_str (pa_cons pe_str pa_nil))))))) pa_nil))))), ?_⟩
    walk_at "rs"
    rename_i p hp
    refine ⟨d, c, _, rfl, hD.same (same_new hp), .inl ⟨p, _, rfl, (hD.nd hp).symm, sl_of upd_same, by simp, by decide, fun x zs hx D2 => ?_⟩⟩
    obtain ⟨t, ht, rfl⟩ := strs_in (ts := ["", "", " ", "\n", "  ", " \n"]) hx
    have : ∀ t ∈ (["", "", " ", "\n", "  ", " \n"] : List Str), t.length ≤ 2 ∧ okB t = true := by decide +kernel
    exact q _ t ((Same.keep (same_new hp)).trans keep_upd) D2 (this t ht).1 (this t ht).2
theorem ok_any_number {f : Addr} {fd : FuncData} (F : Fun K "_law_any_number" "_law_any_number" s__law_any_number f fd) (c__law_draw : Cal P w K mg base "_law_draw" 1 spDraw) (c__law_pick : Cal P w K mg base "_law_pick" 2 (spPick K)) (T : Tx K mg aL aS) : FnOk P w K mg base CX0 3 f fd ["_law_d"] spNum := by
  refine F.ok sc__law_any_number (fun vs H Q E h => ?_) (fun cdv A outer s H vs Q E hr h => ?_)
  · obtain ⟨d, c, rfl, _⟩ := h
    rfl
  · obtain ⟨d, c, rfl, hD, q⟩ := h
    refine ⟨_, 
      (pss_cons (ps_set (i := 1) sc__law_any_number.nd rfl (Or.inl rfl) (Zn.pe_cal c__law_draw (hr.mono (by decide)) (by rfl) (pa_cons (pv 0) (pa_cons pe_int pa_nil))))
      (pss_cons (ps_if (pt_cmpR op_eq (pv 1) pe_int (nomark _)) 
       (pss_one (ps_ret (pe_op op_add pe_int (Zn.pe_cal c__law_draw (hr.mono (by decide)) (by rfl) (pa_cons (pv 0) (pa_cons pe_int pa_nil)))))) pss_nil)
      (pss_cons (ps_if (pt_cmpR op_eq (pv 1) pe_int (nomark _)) 
       (pss_one (ps_ret (Zn.pe_cal c__law_pick (hr.mono (by decide)) (by rfl) (pa_cons (pv 0) (pa_cons (pe_lst (pa_cons pe_int (pa_cons pe_int (pa_cons pe_int (pa_cons pe_int (pa_cons pe_int (pa_cons pe_int (pa_cons pe_int (pa_cons pe_int pa_nil))))))))) pa_nil))))) pss_nil)
      (pss_one (ps_ret (Zn.pe_cal c__law_draw (hr.mono (by decide)) (by rfl) (pa_cons (pv 0) (pa_cons pe_int pa_nil)))))))), ?_⟩
    have fin : ∀ (H' : Hp) (i : Int), Keep d H H' → Drw H' d c → 0 ≤ i → i < 1000 → Q (.int i) H' := fun H' i k D h0 h1 => by
      have := q H' i.toNat k D (by omega)
      rw [Int.toNat_of_nonneg h0] at this
      exact this
    walk_at "rs"
    refine ⟨d, c, _, rfl, hD, by decide, by decide, fun n zs n0 n1 D1 => ?_⟩
    walk_at "rs"
    refine ite2 (fun h1 => ?_) (fun h1 => ?_)
    · walk_at "rs"
      refine ⟨d, c, _, rfl, D1, by decide, by decide, fun m zs2 m0 m1 D2 => ?_⟩
      walk_at "rs"
      exact fin _ _ (keep_upd.trans keep_upd) D2 (by omega) (by omega)
    · walk_at "rs"
      refine ite2 (fun h2 => ?_) (fun h2 => ?_)
      · walk_at "rs"
        rename_i p hp
        refine ⟨d, c, _, rfl, D1.same (same_new hp), .inl ⟨p, _, rfl, (D1.nd hp).symm, sl_of upd_same, by simp, by decide, fun x zs2 hx D2 => ?_⟩⟩
        obtain ⟨t, ht, rfl⟩ := ints_in (ts := [0, 1, 9, 10, 99, 100, 254, 255]) hx
        have : ∀ t ∈ ([0, 1, 9, 10, 99, 100, 254, 255] : List Int), 0 ≤ t ∧ t < 1000 := by decide
        exact fin _ t ((keep_new keep_upd hp).trans keep_upd) D2 (this t ht).1 (this t ht).2
      · walk_at "rs"
        refine ⟨d, c, _, rfl, D1, by decide, by decide, fun m zs2 m0 m1 D2 => ?_⟩
        walk_at "rs"
        exact fin _ _ (keep_upd.trans keep_upd) D2 (by omega) (by omega)
theorem ok_any_name {f : Addr} {fd : FuncData} (F : Fun K "_law_any_name" "_law_any_name" s__law_any_name f fd) (c__law_draw : Cal P w K mg base "_law_draw" 1 spDraw) (c__law_pick : Cal P w K mg base "_law_pick" 2 (spPick K)) (c__law_reserved : Cal P w K mg base "_law_reserved" 1 (spStrs 8)) (T : Tx K mg aL aS) : FnOk P w K mg base CX0 3 f fd ["_law_d"] (spText 8) := by
  refine F.ok sc__law_any_name (fun vs H Q E h => ?_) (fun cdv A outer s H vs Q E hr h => ?_)
  · obtain ⟨d, c, rfl, _⟩ := h
    rfl
  · obtain ⟨d, c, rfl, hD, q⟩ := h
    refine ⟨_, 
      (pss_cons (ps_set (i := 1) sc__law_any_name.nd rfl (Or.inl rfl) pe_str)
      (pss_cons (ps_set (i := 2) sc__law_any_name.nd rfl (Or.inl rfl) (pe_op op_add_str (pv 1) pe_str))
      (pss_cons (ps_set (i := 3) sc__law_any_name.nd rfl (Or.inl rfl) (Zn.pe_cal c__law_draw (hr.mono (by decide)) (by rfl) (pa_cons (pv 0) (pa_cons pe_int pa_nil))))
      (pss_cons (ps_set (i := 4) sc__law_any_name.nd rfl (Or.inl rfl) (Zn.pe_cal c__law_pick (hr.mono (by decide)) (by rfl) (pa_cons (pv 0) (pa_cons (pv 1) pa_nil))))
      (pss_cons (ps_if (pt_cmpR op_eq (pv 3) pe_int (nomark _)) 
       (pss_one (ps_set (i := 4) sc__law_any_name.nd rfl (Or.inl rfl) (pe_op op_add_str (Zn.pe_cal c__law_pick (hr.mono (by decide)) (by rfl) (pa_cons (pv 0) (pa_cons (Zn.pe_cal0 c__law_reserved (hr.mono (by decide)) (by rfl)) pa_nil))) (Zn.pe_cal c__law_pick (hr.mono (by decide)) (by rfl) (pa_cons (pv 0) (pa_cons (pv 2) pa_nil)))))) 
       (pss_one (ps_if (pt_cmpR op_eq (pv 3) pe_int (nomark _)) 
        (pss_one (ps_set (i := 4) sc__law_any_name.nd rfl (Or.inl rfl) (Zn.pe_cal c__law_pick (hr.mono (by decide)) (by rfl) (pa_cons (pv 0) (pa_cons (pe_lst (pa_cons pe_str (pa_cons pe_str (pa_cons pe_str (pa_cons pe_str (pa_cons pe_str (pa_cons pe_str (pa_cons pe_str (pa_cons pe_str (pa_cons pe_str (pa_cons pe_str pa_nil))))))))))) pa_nil))))) pss_nil)))
      (pss_cons (ps_for PassesOwn.never rfl (pi_range1 (by rfl) T.z_range (pa_cons (pe_ix (r := rIxL K) ix_list (pe_lst (pa_cons pe_int (pa_cons pe_int (pa_cons pe_int (pa_cons pe_int (pa_cons pe_int (pa_cons pe_int (pa_cons pe_int pa_nil)))))))) (pv 3) (fun _ _ => rfl)) pa_nil)) (pg_name (i := 5) sc__law_any_name.nd rfl (Or.inl rfl)) 
       (pss_one (ps_set (i := 4) sc__law_any_name.nd rfl (Or.inl rfl) (pe_op op_add_str (pv 4) (Zn.pe_cal c__law_pick (hr.mono (by decide)) (by rfl) (pa_cons (pv 0) (pa_cons (pv 2) pa_nil)))))))
      (pss_cons (ps_if (pt_cmpR (r := rIn K false) op_in_seq (pe_slice sl_str (pv 4) po_none (po_some pe_int)) (Zn.pe_cal0 c__law_reserved (hr.mono (by decide)) (by rfl)) (by rfl)) 
       (pss_one (ps_ret (pe_op op_add_str (pe_slice sl_str (pv 4) po_none (po_some pe_int)) pe_str))) pss_nil)
      (pss_one (ps_ret (pe_slice sl_str (pv 4) po_none (po_some pe_int))))))))))), ?_⟩
    walk_at "rs"
    refine ⟨by decide +kernel, ?_⟩
    walk_at "rs"
    refine ⟨d, c, _, rfl, hD, by decide, by decide, fun n zs n0 n1 D1 => ?_⟩
    walk_at "rs"
    refine ⟨d, c, _, rfl, D1, .inr ⟨_, rfl, by decide +kernel, by decide +kernel, fun s0 zs2 hs0 D2 => ?_⟩⟩
    walk_at "rs"
    refine ite_nx (fun σ H1 => ∃ z, σ = [some (.ref d), some (.str "abcdefghijklmnopqrstuvwxyz"), some (.str (("abcdefghijklmnopqrstuvwxyz" : Str) ++ ("0123456789" : Str))), some (.int n), some (.str z), none] ∧ Keep d H H1 ∧ Drw H1 d c ∧ z.length ≤ 20 ∧ okB z = true) ?_ (fun h3 nx' hx => ?_) (fun h3 nx' hx => ?_)
    · rintro σ H1 ⟨z, rfl, k1, D3, hz, hok⟩
      walk_at "rs"
      rename_i p hp
      obtain ⟨m, hm0, hm7, hat⟩ : ∃ m : Int, 0 ≤ m ∧ m ≤ 7 ∧ atI [V.int 0, .int 2, .int 7, .int 0, .int 0, .int 1, .int 4] n = some (.int m) := by
        have : n = 0 ∨ n = 1 ∨ n = 2 ∨ n = 3 ∨ n = 4 ∨ n = 5 ∨ n = 6 := by omega
        rcases this with rfl | rfl | rfl | rfl | rfl | rfl | rfl
        · exact ⟨0, by decide, by decide, rfl⟩
        · exact ⟨2, by decide, by decide, rfl⟩
        · exact ⟨7, by decide, by decide, rfl⟩
        · exact ⟨0, by decide, by decide, rfl⟩
        · exact ⟨0, by decide, by decide, rfl⟩
        · exact ⟨1, by decide, by decide, rfl⟩
        · exact ⟨4, by decide, by decide, rfl⟩
      refine r_ixL (sl_of upd_same) hat ?_
      walk_at "rs"
      refine fr (fun i σ H' => ∃ z v5, σ = [some (.ref d), some (.str "abcdefghijklmnopqrstuvwxyz"), some (.str (("abcdefghijklmnopqrstuvwxyz" : Str) ++ ("0123456789" : Str))), some (.int n), some (.str z), v5] ∧ Keep d H H' ∧ Drw H' d c ∧ z.length ≤ 20 + i ∧ okB z = true) ?_ ?_ ?_
      · exact ⟨z, none, rfl, keep_new k1 hp, D3.same (same_new hp), by omega, hok⟩
      · rintro i σ H' hi ⟨z, v5, rfl, k2, D4, hz2, hok2⟩
        walk_at "rs"
        refine ⟨d, c, _, rfl, D4, .inr ⟨_, rfl, by decide +kernel, by decide +kernel, fun s1 zs3 hs1 D5 => ?_⟩⟩
        walk_at "rs"
        refine ⟨len_ok (show z.length + 1 ≤ 100000 by omega), ?_⟩
        walk_at "rs"
        refine ⟨_, _, rfl, k2.trans keep_upd, D5, ?_, ok_app hok2 (ok_one (by decide +kernel) hs1)⟩
        rw [app_len]
        show z.length + 1 ≤ _
        omega
      · rintro σ H' ⟨z, v5, rfl, k2, D4, hz2, hok2⟩
        have hs : z.length ≤ sizeLine := len_ok (by omega)
        have h8 := cut_to_len (z := z) (b := 8) (by decide)
        have h7 := cut_to_len (z := z) (b := 7) (by decide)
        walk_at "rs"
        refine ⟨rfl, fun H2 p2 ts s2 hp2 ht2 hne hl hb => ?_⟩
        refine r_inY (.inl (sl_of ht2)) rfl (all_flat ts) ?_
        walk_at "rs"
        refine ite2 (fun h => ?_) (fun h => ?_)
        · walk_at "rs"
          refine ⟨len_ok (show (cutS z none (some 7)).length + 1 ≤ 100000 by omega), ?_⟩
          walk_at "rs"
          refine q _ _ (k2.trans (Same.keep s2)) (D4.same s2) ?_ (ok_app (ok_cut hok2) (by decide +kernel))
          rw [app_len]
          show (cutS z none (some 7)).length + 1 ≤ 8
          omega
        · walk_at "rs"
          exact q _ _ (k2.trans (Same.keep s2)) (D4.same s2) (by omega) (ok_cut hok2)
    · walk_at "rs"
      refine ⟨rfl, fun H2 p2 ts s2 hp2 ht2 hne hl hb => ?_⟩
      have D3 := D2.same s2
      refine ⟨d, c, _, rfl, D3, .inl ⟨p2, _, rfl, (D2.nd hp2).symm, sl_of ht2, by simpa using hne, by rw [List.length_map]; omega, fun x zs3 hx3 D4 => ?_⟩⟩
      obtain ⟨t, ht, rfl⟩ := strs_in hx3
      have htl := (hb t ht).1
      walk_at "rs"
      refine ⟨d, c, _, rfl, D4, .inr ⟨_, rfl, by decide +kernel, by decide +kernel, fun s1 zs4 hs1 D5 => ?_⟩⟩
      walk_at "rs"
      refine ⟨len_ok (show t.length + 1 ≤ 100000 by omega), ?_⟩
      walk_at "rs"
      refine hx _ _ ⟨_, rfl, (((keep_upd.trans keep_upd).trans (Same.keep s2)).trans keep_upd).trans keep_upd, D5, ?_, ok_app (hb t ht).2 (ok_one (by decide +kernel) hs1)⟩
      rw [app_len]
      show t.length + 1 ≤ 20
      omega
    · walk_at "rs"
      refine ite2 (fun h4 => ?_) (fun h4 => ?_)
      · walk_at "rs"
        rename_i p hp
        refine ⟨d, c, _, rfl, D2.same (same_new hp), .inl ⟨p, _, rfl, (D2.nd hp).symm, sl_of upd_same, by simp, by decide, fun x zs3 hx3 D4 => ?_⟩⟩
        obtain ⟨t, ht, rfl⟩ := strs_in (ts := ["not", "neg", "word", "name", "item", "field", "result", "none", "index", "duty"]) hx3
        have htl : ∀ t ∈ (["not", "neg", "word", "name", "item", "field", "result", "none", "index", "duty"] : List Str), t.length ≤ 20 ∧ okB t = true := by decide +kernel
        walk_at "rs"
        exact hx _ _ ⟨t, rfl, (keep_new (keep_upd.trans keep_upd) hp).trans keep_upd, D4, (htl t ht).1, (htl t ht).2⟩
      · walk_at "rs"
        exact hx _ _ ⟨_, rfl, keep_upd.trans keep_upd, D2, show 1 ≤ 20 by decide, ok_one (by decide +kernel) hs0⟩
end
end Zn
namespace Zn
open PySem PySem.Spec PyProof.Rows L2 TL
theorem join_len (ys : List Str) : (Txt.join "" ys).length = (ys.map (·.length)).sum := by
  rw [join_eq, len_tl, tl_join]
  have e : tl ("" : Str) = [] := rfl
  rw [e, joinL_len, List.map_map]
  congr 1
theorem joinL_mem {x : Nat} : ∀ ps : List (List Nat), x ∈ joinL [] ps → ∃ p ∈ ps, x ∈ p
  | [], h => by cases h
  | [p], h => ⟨p, List.mem_singleton.mpr rfl, h⟩
  | p :: q :: ps, h => by
    rcases List.mem_append.mp h with h | h
    · exact ⟨p, List.mem_cons_self, h⟩
    · obtain ⟨r, h1, h2⟩ := joinL_mem (q :: ps) h
      exact ⟨r, List.mem_cons_of_mem _ h1, h2⟩
theorem ok_join {ys : List Str} (h : ∀ y ∈ ys, okB y = true) : okB (Txt.join "" ys) = true := by
  refine List.all_eq_true.mpr fun x hx => ?_
  rw [join_eq, tl_join] at hx
  obtain ⟨p, h1, h2⟩ := joinL_mem _ hx
  obtain ⟨y, h3, rfl⟩ := List.mem_map.mp h1
  exact List.all_eq_true.mp (h y h3) x h2
theorem sum_ones : ∀ {ys : List Str}, (∀ y ∈ ys, y.length = 1) → (ys.map (·.length)).sum = ys.length
  | [], _ => rfl
  | y :: ys, h => by
    rw [List.map_cons, List.sum_cons, h y List.mem_cons_self, sum_ones fun z hz => h z (List.mem_cons_of_mem _ hz), List.length_cons, Nat.add_comm]
section
variable {P : Program} {w : World} {K : PySem.W.Frag} {mg : Str → Option Value} {base : Heap} {aL aS : Addr}
theorem ok_piece {f : Addr} {fd : FuncData} (F : Fun K "_law_piece" "_law_piece" s__law_piece f fd) (c__law_draw : Cal P w K mg base "_law_draw" 1 spDraw) (c__law_pick : Cal P w K mg base "_law_pick" 2 (spPick K)) (c__law_reserved : Cal P w K mg base "_law_reserved" 1 (spStrs 8)) (c__law_signs : Cal P w K mg base "_law_signs" 1 (spStrs 2))
    (c__law_any_name : Cal P w K mg base "_law_any_name" 3 (spText 8)) (c__law_any_number : Cal P w K mg base "_law_any_number" 3 spNum) (T : Tx K mg aL aS) : FnOk P w K mg base CX0 4 f fd ["_law_d"] (spText 12) := by
  refine F.ok sc__law_piece (fun vs H Q E h => ?_) (fun cdv A outer s H vs Q E hr h => ?_)
  · obtain ⟨d, c, rfl, _⟩ := h
    rfl
  · obtain ⟨d, c, rfl, hD, q⟩ := h
    refine ⟨_, 
      (pss_cons (ps_set (i := 1) sc__law_piece.nd rfl (Or.inl rfl) (Zn.pe_cal c__law_draw (hr.mono (by decide)) (by rfl) (pa_cons (pv 0) (pa_cons pe_int pa_nil))))
      (pss_cons (ps_if (pt_cmpR op_eq (pv 1) pe_int (nomark _)) 
       (pss_one (ps_ret (Zn.pe_cal c__law_any_name (hr.mono (by decide)) (by rfl) (pa_cons (pv 0) pa_nil)))) pss_nil)
      (pss_cons (ps_if (pt_cmpR op_eq (pv 1) pe_int (nomark _)) 
       (pss_one (ps_ret (Zn.pe_cal c__law_pick (hr.mono (by decide)) (by rfl) (pa_cons (pv 0) (pa_cons (Zn.pe_cal0 c__law_reserved (hr.mono (by decide)) (by rfl)) pa_nil))))) pss_nil)
      (pss_cons (ps_if (pt_cmpR op_eq (pv 1) pe_int (nomark _)) 
       (pss_one (ps_ret (pe_callTy call_str_int (by rfl) T.z_str (by decide +kernel) (pa_cons (Zn.pe_cal c__law_any_number (hr.mono (by decide)) (by rfl) (pa_cons (pv 0) pa_nil)) pa_nil)))) pss_nil)
      (pss_cons (ps_if (pt_cmpR op_eq (pv 1) pe_int (nomark _)) 
       (pss_cons (ps_set (i := 2) sc__law_piece.nd rfl (Or.inr rfl) pe_str)
       (pss_one (ps_ret (pe_bm PySem.F.plainAttrs_str PySem.F.slot_str_join PySem.F.type_str_join mt_join pe_str (pa_cons (pe_lc (own := [("_law_k", 3)]) rfl sc__law_piece.nd (pi_range1 (by rfl) T.z_range (pa_cons (pe_op op_add pe_int (Zn.pe_cal c__law_draw (hr.mono (by decide)) (by rfl) (pa_cons (pv 0) (pa_cons pe_int pa_nil)))) pa_nil)) (blkOk_by (N := ["_law_d", "_law_way", "_law_runs", "_law_k"]) (sc := defScope s__law_piece) (by decide +kernel)) (fun _ _ _ _ _ => (pg_name (i := 3) sc__law_piece.nd rfl (Or.inl rfl))) (fun _ _ _ _ _ => pts_nil) (fun _ _ _ _ _ => (Zn.pe_cal c__law_pick (hr.mono (by decide)) (by rfl) (pa_cons (pv 0) (pa_cons (pv 2) pa_nil))))) pa_nil))))) pss_nil)
      (pss_cons (ps_if (pt_cmpR op_eq (pv 1) pe_int (nomark _)) 
       (pss_one (ps_ret (Zn.pe_cal c__law_pick (hr.mono (by decide)) (by rfl) (pa_cons (pv 0) (pa_cons pe_str pa_nil))))) pss_nil)
      (pss_one (ps_ret (Zn.pe_cal c__law_pick (hr.mono (by decide)) (by rfl) (pa_cons (pv 0) (pa_cons (Zn.pe_cal0 c__law_signs (hr.mono (by decide)) (by rfl)) pa_nil))))))))))), ?_⟩
    walk_at "rs"
    refine ⟨d, c, _, rfl, hD, by decide, by decide, fun n zs n0 n1 D1 => ?_⟩
    walk_at "rs"
    refine ite2 (fun h1 => ?_) (fun h1 => ?_)
    · walk_at "rs"
      exact ⟨d, c, rfl, D1, fun H' z k D hz ho => q _ _ (keep_upd.trans k) D (by omega) ho⟩
    walk_at "rs"
    refine ite2 (fun h2 => ?_) (fun h2 => ?_)
    · walk_at "rs"
      refine ⟨rfl, fun H2 p2 ts s2 hp2 ht2 hne hl hb => ?_⟩
      refine ⟨d, c, _, rfl, D1.same s2, .inl ⟨p2, _, rfl, (D1.nd hp2).symm, sl_of ht2, by simpa using hne, by rw [List.length_map]; omega, fun x zs3 hx3 D4 => ?_⟩⟩
      obtain ⟨t, ht, rfl⟩ := strs_in hx3
      have htl := (hb t ht).1
      exact q _ _ ((keep_upd.trans (Same.keep s2)).trans keep_upd) D4 (by omega) (hb t ht).2
    walk_at "rs"
    refine ite2 (fun h3 => ?_) (fun h3 => ?_)
    · walk_at "rs"
      refine ⟨d, c, rfl, D1, fun H' i k D hi => ?_⟩
      walk_at "rs"
      have hlog : ((i : Int)).natAbs.log2 < 1920 := by
        have : ∀ i < 1000, ((i : Nat) : Int).natAbs.log2 < 1920 := by decide +kernel
        exact this i hi
      refine ⟨hlog, ?_⟩
      refine q _ _ (keep_upd.trans k) D ?_ (List.all_eq_true.mpr fun x hx => ?_)
      rotate_left
      · have hx : x ∈ tl (Str.ofString (toString ((i : Nat) : Int))) := hx
        rw [tl_num] at hx
        by_cases hlt : 57 < x
        · exact absurd hx (numL_free (.inr hlt))
        · exact decide_eq_true (by omega)
      have h5 : (tl (Str.ofString (toString ((i : Nat) : Int)))).length ≤ 3 := by
        rw [tl_num]
        exact numL_len (by decide) (by omega)
      have h6 := len_tl (Str.ofString (toString ((i : Nat) : Int)))
      show (Str.ofString (toString ((i : Nat) : Int))).length ≤ 12
      omega
    walk_at "rs"
    refine ite2 (fun h4 => ?_) (fun h4 => ?_)
    · walk_at "rs"
      refine ⟨d, c, _, rfl, D1, by decide, by decide, fun m zs2 m0 m1 D2 => ?_⟩
      walk_at "rs"
      intro C hC
      have ncd : C ≠ d := (D2.nd hC).symm
      have k2 : Keep d H (upd (upd H d (.lst zs)) d (.lst zs2)) := keep_upd.trans keep_upd
      have hC0 : H C = none := k2.free ncd hC
      refine lc_range (fun i H' => ∃ ys : List Str, Keep d H H' ∧ Drw H' d c ∧ H' C = some (.lst (ys.map V.str)) ∧ ys.length = i ∧ (∀ y ∈ ys, y.length = 1) ∧ ∀ y ∈ ys, okB y = true) ⟨[], keep_new k2 hC, D2.same (same_new hC), upd_same, rfl, by simp, by simp⟩ (fun i H' hi ⟨ys, k, D, hc1, hl, h1, ho⟩ => ?_) (fun H' ⟨ys, k, D, hc1, hl, h1, ho⟩ => ?_)
      · walk_at "rs"
        refine ⟨rfl, ?_⟩
        walk_at "rs"
        refine ⟨d, c, _, rfl, D, .inr ⟨_, rfl, by decide +kernel, by decide +kernel, fun s1 zs4 hs1 D5 => ?_⟩⟩
        refine ⟨ys.map V.str, (upd_ne ncd).trans hc1, by rw [List.length_map]; exact Nat.lt_of_lt_of_le (show ys.length < 1000 by omega) (by decide), ys ++ [⟨#[s1]⟩], Keep.mut (k.trans keep_upd) hC0, D5.upd ncd.symm (hD.nc hC0), ?_, ?_, ?_, ?_⟩
        · rw [upd_same, List.map_append]
          rfl
        · rw [List.length_append, List.length_singleton, hl]
        · intro y hy
          rcases List.mem_append.mp hy with hy | hy
          · exact h1 y hy
          · rw [List.mem_singleton] at hy
            subst hy
            rfl
        · intro y hy
          rcases List.mem_append.mp hy with hy | hy
          · exact ho y hy
          · rw [List.mem_singleton] at hy
            subst hy
            exact ok_one (by decide +kernel) hs1
      · walk_at "rs"
        have hsum := sum_ones h1
        refine ⟨_, C, ys, rfl, rfl, .inl (sl_of hc1), ?_, q _ _ k D ?_ (ok_join ho)⟩
        · rw [hsum]
          show ys.length + ys.length * 0 ≤ 16777216
          omega
        · rw [join_len, hsum]
          omega
    walk_at "rs"
    refine ite2 (fun h5 => ?_) (fun h5 => ?_)
    · walk_at "rs"
      refine ⟨d, c, _, rfl, D1, .inr ⟨_, rfl, by decide +kernel, by decide +kernel, fun s1 zs4 hs1 D5 => ?_⟩⟩
      exact q _ _ (keep_upd.trans keep_upd) D5 (show 1 ≤ 12 by decide) (ok_one (by decide +kernel) hs1)
    · walk_at "rs"
      refine ⟨rfl, fun H2 p2 ts s2 hp2 ht2 hne hl hb => ?_⟩
      refine ⟨d, c, _, rfl, D1.same s2, .inl ⟨p2, _, rfl, (D1.nd hp2).symm, sl_of ht2, by simpa using hne, by rw [List.length_map]; omega, fun x zs3 hx3 D4 => ?_⟩⟩
      obtain ⟨t, ht, rfl⟩ := strs_in hx3
      have htl := (hb t ht).1
      exact q _ _ ((keep_upd.trans (Same.keep s2)).trans keep_upd) D4 (by omega) (hb t ht).2
end
end Zn
namespace Zn
open PySem PySem.Spec PyProof.Rows L2 TL
theorem seq_nx {t1 t2 : TS} {D : Ends} {σ : L2.St} {H : Hp} (Post : L2.St → Hp → Prop) (h2 : ∀ σ' H', Post σ' H' → t2 D σ' H') (h1 : ∀ nx', (∀ σ' H', Post σ' H' → nx' σ' H') → t1 { D with nx := nx' } σ H) : tSeq t1 t2 D σ H := h1 (t2 D) h2
theorem lc_str {x : Str} {g : TG} {tt : TT} {te : TE} {vs : List Nat} {σ : L2.St} {H1 : Hp} {D : Addr} {Qd : Hp → Prop} (Pv : Nat → Hp → Prop) (h0 : Pv 0 (upd H1 D (.lst [])))
    (hs : ∀ i c H, x.cps[i]? = some c → Pv i H → g (.str ⟨#[c]⟩) (wipe σ vs) H fun σ2 H2 => wipe σ2 vs = wipe σ vs ∧
      tt σ2 H2 fun b H3 => if b = true then te σ2 H3 fun y H4 => ∃ l, H4 D = some (.lst l) ∧ l.length < sizeLine ∧ Pv (i + 1) (upd H4 D (.lst (l ++ [y]))) else Pv (i + 1) H3)
    (hd : ∀ H, Pv x.cps.size H → Qd H) :
    ∃ Z : Nat → Nat → Hp → Prop, (∃ m, Z 0 m (upd H1 D (.lst []))) ∧ ∀ i m H, Z i m H →
      ((Its x).stop i H ∧ Qd H) ∨ ((Its x).go i H ∧ ∃ Y : Hp → Prop, (∀ H', Y H' → ∃ m', m' < m ∧ Z (i + 1) m' H') ∧
        ∀ v H', (Its x).yld i H v H' → g v (wipe σ vs) H' fun σ2 H2 => wipe σ2 vs = wipe σ vs ∧ tt σ2 H2 fun b H3 =>
          if b = true then te σ2 H3 fun y H4 => ∃ l, H4 D = some (.lst l) ∧ l.length < sizeLine ∧ Y (upd H4 D (.lst (l ++ [y])))
          else Y H3) := by
  refine ⟨fun i m H => m = x.cps.size - i ∧ i ≤ x.cps.size ∧ Pv i H, ⟨_, rfl, Nat.zero_le _, h0⟩, ?_⟩
  rintro i m H ⟨rfl, hi, p⟩
  by_cases hlt : i < x.cps.size
  · refine .inr ⟨hlt, Pv (i + 1), fun H' p' => ⟨x.cps.size - (i + 1), by omega, rfl, hlt, p'⟩, fun v H' ⟨e, c, hc, hv⟩ => ?_⟩
    subst e
    subst hv
    exact hs i c H' hc p
  · have e : i = x.cps.size := by omega
    subst e
    exact .inl ⟨Nat.le_refl _, hd H p⟩
theorem strOk_of {t : Str} (h : okB t = true) : PyData.strOk t = true := by
  unfold PyData.strOk
  rw [← Array.all_toList]
  exact h
theorem can_strs : ∀ ts : List Str, (∀ t ∈ ts, okB t = true) → PyData.canLayAll0 (ts.map PyData.str) = true
  | [], _ => by simp [PyData.canLayAll0]
  | t :: ts, h => by
    have h1 := can_strs ts fun x hx => h x (List.mem_cons_of_mem _ hx)
    have h2 := strOk_of (h t List.mem_cons_self)
    simp [PyData.canLayAll0, PyData.canLay0, h1, h2]
theorem depth_strs : ∀ ts : List Str, PyData.depthAll (ts.map PyData.str) = 0
  | [] => by simp [PyData.depthAll]
  | t :: ts => by simp [PyData.depthAll, PyData.depth, depth_strs ts]
theorem shaped_strs (ts : List Str) (h : ∀ t ∈ ts, okB t = true) : SeqAt.shaped (.list (ts.map PyData.str)) = true := by
  simp [SeqAt.shaped, PyData.canLay0, can_strs ts h, PyData.depth, depth_strs]
theorem eqv_strs (ts : List Str) (h : ∀ t ∈ ts, okB t = true) : PyData.eqv (.list (ts.map PyData.str)) (.list (ts.map PyData.str)) = true :=
  SeqAt.eqv_refl _ (by simp [PyData.canLay0, can_strs ts h])
theorem toks_mem : ∀ (n : Nat) (L : List Nat), L.length ≤ n → ∀ w ∈ toks L, ∀ x ∈ w, x ∈ L
  | n, L, hl, w, hw, x, hx => by
    by_cases h : L = []
    · subst h
      rw [toks_nil] at hw
      cases hw
    · have hp := lex_pos h
      have h0 := List.length_pos_iff.mpr h
      rw [toks_step h] at hw
      rcases List.mem_append.mp hw with hw | hw
      · unfold tok1 at hw
        split at hw
        · cases hw
        · rw [List.mem_singleton] at hw
          subst hw
          exact List.mem_of_mem_take hx
      · cases n with
        | zero => omega
        | succ n => exact List.mem_of_mem_drop (toks_mem n _ (by rw [List.length_drop]; omega) w hw x hx)
theorem toks_ok {z : Str} {ts : List Str} (h : okB z = true) (e : ts.map tl = toks (tl z)) : ∀ t ∈ ts, okB t = true := fun t ht =>
  ok_sub h fun x hx => toks_mem _ _ (Nat.le_refl _) (tl t) (by rw [← e]; exact List.mem_map_of_mem ht) x hx
theorem dp_strs {K : PySem.W.Frag} {H : Hp} : ∀ ts : List Str, DpAll K H (ts.map V.str) (ts.map PyData.str)
  | [] => .nil
  | t :: ts => .cons (.str t) (dp_strs ts)
section
variable {P : Program} {w : World} {K : PySem.W.Frag} {mg : Str → Option Value} {base : Heap} {aL aS : Addr}
def spLaw (K : PySem.W.Frag) : Sp := fun vs H Q _ => ∃ (a : Addr) (ns : List Int), vs = [.ref a] ∧ SqL K H a (ns.map V.int) ∧ ns.length ≤ 63 ∧ ∀ H', Q (.bl true) H'
theorem ok_law {f : Addr} {fd : FuncData} (F : Fun K "law" "law" s_law f fd) (c__law_begin : Cal P w K mg base "_law_begin" 1 (spBegin K)) (c__law_draw : Cal P w K mg base "_law_draw" 1 spDraw) (c__law_rare : Cal P w K mg base "_law_rare" 2 spRare)
    (c__law_gap : Cal P w K mg base "_law_gap" 3 (spText 2)) (c__law_piece : Cal P w K mg base "_law_piece" 4 (spText 12)) (c__law_cut_tokens : Cal P w K mg base "_law_cut_tokens" 1 spCut) (c_tokens_of : Cal P w K mg base "tokens_of" 4 spToks) (T : Tx K mg aL aS) :
    FnOk P w K mg base CX0 5 f fd ["_law_script"] (spLaw K) := by
  refine F.ok sc_law (fun vs H Q E h => ?_) (fun cdv A outer s H vs Q E hr h => ?_)
  · obtain ⟨a, ns, rfl, _⟩ := h
    rfl
  · obtain ⟨a, ns, rfl, hS, hl, q⟩ := h
    refine ⟨_, 
      (pss_cons (ps_set (i := 1) sc_law.nd rfl (Or.inl rfl) (Zn.pe_cal c__law_begin (hr.mono (by decide)) (by rfl) (pa_cons (pv 0) pa_nil)))
      (pss_cons (ps_set (i := 2) sc_law.nd rfl (Or.inr rfl) (Zn.pe_cal c__law_gap (hr.mono (by decide)) (by rfl) (pa_cons (pv 1) pa_nil)))
      (pss_cons (ps_for PassesOwn.never rfl (pi_range1 (by rfl) T.z_range (pa_cons (pe_op op_add pe_int (Zn.pe_cal c__law_draw (hr.mono (by decide)) (by rfl) (pa_cons (pv 1) (pa_cons pe_int pa_nil)))) pa_nil)) (pg_name (i := 3) sc_law.nd rfl (Or.inl rfl)) 
       (pss_one (ps_set (i := 2) sc_law.nd rfl (Or.inr rfl) (pe_op op_add_str (pe_op op_add_str (pv 2) (Zn.pe_cal c__law_piece (hr.mono (by decide)) (by rfl) (pa_cons (pv 1) pa_nil))) (Zn.pe_cal c__law_gap (hr.mono (by decide)) (by rfl) (pa_cons (pv 1) pa_nil))))))
      (pss_cons (ps_if (pt_val (Zn.pe_cal c__law_rare (hr.mono (by decide)) (by rfl) (pa_cons (pv 1) (pa_cons pe_int pa_nil)))) 
       (pss_one (ps_set (i := 2) sc_law.nd rfl (Or.inr rfl) (pe_op op_add_str (pe_op op_add_str (pe_op op_add_str (pe_op op_add_str (pe_op op_add_str (pv 2) (pv 2)) (pv 2)) (pv 2)) (pv 2)) (pv 2)))) pss_nil)
      (pss_cons (ps_if (PW.pt (pw_or (pt_cmpR op_gt (pe_callB (cr_sum rfl) (by rfl) T.z_sum (by decide +kernel) (pa_cons (pe_lc (own := [("_law_sign", 4)]) rfl sc_law.nd (pi_str pe_str) (blkOk_by (N := ["_law_script", "_law_d", "_law_text", "_law_k", "_law_sign", "_law_cut", "_law_part", "_law_told", "_law_token"]) (sc := defScope s_law) (by decide +kernel)) (fun _ _ _ _ _ => (pg_name (i := 4) sc_law.nd rfl (Or.inl rfl))) (fun _ _ _ _ _ => pts_nil) (fun _ _ _ _ _ => (pe_m1 PySem.F.slot_str_count PySem.F.type_str_count mt_count (pv 2) (pv 4)))) pa_nil)) pe_int (nomark _)) (pw_or1 (pt_cmpR op_gt (pe_op op_add (pe_bm PySem.F.plainAttrs_str PySem.F.slot_str_count PySem.F.type_str_count mt_count (pv 2) (pa_cons pe_str pa_nil)) (pe_bm PySem.F.plainAttrs_str PySem.F.slot_str_count PySem.F.type_str_count mt_count (pv 2) (pa_cons pe_str pa_nil))) pe_int (nomark _))))) 
       (pss_one (ps_set (i := 2) sc_law.nd rfl (Or.inr rfl) (pe_slice sl_str (pv 2) po_none (po_some pe_int)))) pss_nil)
      (pss_cons (ps_set (i := 5) sc_law.nd rfl (Or.inl rfl) (Zn.pe_cal c__law_draw (hr.mono (by decide)) (by rfl) (pa_cons (pv 1) (pa_cons (pe_op op_add (pe_callB call_len_str (by rfl) T.z_len (by decide +kernel) (pa_cons (pv 2) pa_nil)) pe_int) pa_nil))))
      (pss_cons (ps_for PassesOwn.never rfl (pi_list (pe_lst (pa_cons (pv 2) (pa_cons (pe_slice sl_str (pv 2) po_none (po_some (pv 5))) (pa_cons (pe_slice sl_str (pv 2) (po_some (pv 5)) po_none) (pa_cons (pe_op op_add_str (pe_slice sl_str (pv 2) (po_some (pv 5)) po_none) (pe_slice sl_str (pv 2) po_none (po_some (pv 5)))) (pa_cons (pv 2) pa_nil))))))) (pg_name (i := 6) sc_law.nd rfl (Or.inl rfl)) 
       (pss_cons (ps_set (i := 7) sc_law.nd rfl (Or.inl rfl) (Zn.pe_cal c_tokens_of (hr.mono (by decide)) (by rfl) (pa_cons (pv 6) pa_nil)))
       (pss_cons (ps_if (PW.pt (pw_or (pt_not (pt_val (pe_callB call_isi (by rfl) T.z_isinstance (by decide +kernel) (pa_cons (pv 7) (pa_cons (pe_bltn (v := .ty "tuple") (by rfl) T.z_tuple (by decide +kernel) rfl) pa_nil))))) (pw_or1 (pt_not (pt_val (pe_callB (cr_all rfl) (by rfl) T.z_all (by decide +kernel) (pa_cons (pe_lc (own := [("_law_token", 8)]) rfl sc_law.nd (pi_tup (pv 7)) (blkOk_by (N := ["_law_script", "_law_d", "_law_text", "_law_k", "_law_sign", "_law_cut", "_law_part", "_law_told", "_law_token"]) (sc := defScope s_law) (by decide +kernel)) (fun _ _ _ _ _ => (pg_name (i := 8) sc_law.nd rfl (Or.inl rfl))) (fun _ _ _ _ _ => pts_nil) (fun _ _ _ _ _ => (pe_callB (r := rIsi K) call_isi (by rfl) T.z_isinstance (by decide +kernel) (pa_cons (pv 8) (pa_cons (pe_bltn (v := .ty "str") (by rfl) T.z_str (by decide +kernel) rfl) pa_nil))))) pa_nil))))))) 
        (pss_one (ps_ret pe_bl)) pss_nil)
       (pss_one (ps_if (pt_cmpR (r := rNeD K) (op_neD hr.units) (pe_callTy call_list_of (by rfl) T.z_list (by decide +kernel) (pa_cons (pv 7) pa_nil)) (Zn.pe_cal c__law_cut_tokens (hr.mono (by decide)) (by rfl) (pa_cons (pv 6) pa_nil)) (nomark _)) 
        (pss_one (ps_ret pe_bl)) pss_nil)))))
      (pss_one (ps_ret pe_bl))))))))), ?_⟩
    walk_at "rs"
    refine ⟨a, ns, rfl, hS, hl, fun H1 d c s1 hd D1 => ?_⟩
    walk_at "rs"
    refine ⟨d, c, rfl, D1, fun H2 t0 k2 D2 ht0 ho0 => ?_⟩
    walk_at "rs"
    refine ⟨d, c, _, rfl, D2, by decide, by decide, fun n zs n0 n1 D3 => ?_⟩
    walk_at "rs"
    refine fr (fun i σ H' => ∃ t v3, σ = [some (.ref a), some (.ref d), some (.str t), v3, none, none, none, none, none] ∧ Drw H' d c ∧ t.length ≤ 2 + i * 14 ∧ okB t = true) ?_ ?_ ?_
    · exact ⟨t0, none, rfl, D3, by omega, ho0⟩
    · rintro i σ H' hi ⟨t, v3, rfl, D4, ht, hot⟩
      walk_at "rs"
      refine ⟨d, c, rfl, D4, fun H5 t1 k5 D5 ht1 ho1 => ?_⟩
      walk_at "rs"
      have hi2 : i < 24 := by omega
      refine ⟨len_ok (by omega), ?_⟩
      walk_at "rs"
      refine ⟨d, c, rfl, D5, fun H6 t2 k6 D6 ht2 ho2 => ?_⟩
      walk_at "rs"
      refine ⟨len_ok (by rw [app_len]; omega), ?_⟩
      walk_at "rs"
      refine ⟨_, _, rfl, D6, ?_, ok_app (ok_app hot ho1) ho2⟩
      rw [app_len, app_len]
      omega
    · rintro σ H' ⟨t, v3, rfl, D4, ht, hot⟩
      have ht : t.length ≤ 400 := by omega
      walk_at "rs"
      refine ⟨d, c, _, rfl, D4, by decide, by decide, fun b zs2 D5 => ?_⟩
      walk_at "rs"
      refine ite_nx (fun σ H1 => ∃ t v3, σ = [some (.ref a), some (.ref d), some (.str t), v3, none, none, none, none, none] ∧ Drw H1 d c ∧ t.length ≤ 2400 ∧ okB t = true) ?_ (fun hb nx' hx => ?_) (fun hb nx' hx => ?_)
      · rintro σ H1 ⟨t, v3, rfl, D6, ht, hot⟩
        refine seq_nx (fun σ H1 => ∃ t v3, σ = [some (.ref a), some (.ref d), some (.str t), v3, none, none, none, none, none] ∧ Drw H1 d c ∧ t.length ≤ 2400 ∧ okB t = true) ?_ (fun nx' hx => ?_)
        · rintro σ H1 ⟨t, v3, rfl, D6, ht, hot⟩
          have hs : t.length ≤ sizeLine := len_ok (by omega)
          walk_at "rs"
          refine ⟨d, c, _, rfl, D6, by omega, by omega, fun m zs3 m0 m1 D7 => ?_⟩
          walk_at "rs"
          have c1 := cutS_length t none (some m)
          have c2 := cutS_length t (some m) none
          refine ⟨len_ok (by omega), ?_⟩
          walk_at "rs"
          rename_i g hg
          have hparts : ∀ x ∈ [V.str t, .str (cutS t none (some m)), .str (cutS t (some m) none), .str (cutS t (some m) none ++ cutS t none (some m)), .str t], ∃ z, x = V.str z ∧ z.length ≤ 1000000 ∧ okB z = true := by
            intro x hx
            simp only [List.mem_cons, List.not_mem_nil, or_false] at hx
            rcases hx with rfl | rfl | rfl | rfl | rfl
            · exact ⟨_, rfl, by omega, hot⟩
            · exact ⟨_, rfl, by omega, ok_cut hot⟩
            · exact ⟨_, rfl, by omega, ok_cut hot⟩
            · exact ⟨_, rfl, by rw [app_len]; omega, ok_app (ok_cut hot) (ok_cut hot)⟩
            · exact ⟨_, rfl, by omega, hot⟩
          refine r_ref ⟨_, sl_of upd_same⟩ ?_
          refine fl (K := K) (a := g) (xs := [V.str t, .str (cutS t none (some m)), .str (cutS t (some m) none), .str (cutS t (some m) none ++ cutS t none (some m)), .str t]) (fun i σ H' => ∃ v6 v7, σ = [some (.ref a), some (.ref d), some (.str t), v3, none, some (.int m), v6, v7, none] ∧ Same (upd (upd H1 d (.lst zs3)) g (.lst [V.str t, .str (cutS t none (some m)), .str (cutS t (some m) none), .str (cutS t (some m) none ++ cutS t none (some m)), .str t])) H') ?_ (fun i σ H' _ ⟨_, _, _, s⟩ => sl_of (s _ _ upd_same)) ?_ ?_
          · exact ⟨_, _, rfl, Same.refl _⟩
          · rintro i x σ H' hi ⟨v6, v7, rfl, s8⟩
            obtain ⟨z, rfl, hz, hoz⟩ := hparts x (List.mem_of_getElem? hi)
            walk_at "rs"
            refine ⟨z, rfl, hz, fun H9 p ts s9 hp htsl hts => ?_⟩
            have hot := toks_ok hoz hts
            walk_at "rs"
            refine r_isi (.ty _) (.base (.tup hp)) (kit_ty (r := true) (by decide +kernel)) ?_
            walk_at "rs"
            refine r_ref ⟨_, st_of hp⟩ fun C hC => ?_
            have hC0 := hC
            refine lc_tup (K := K) (a := p) (xs := ts.map V.str) (fun i H' => Same H9 H' ∧ H' C = some (.lst ((List.replicate i true).map V.bl))) ⟨same_new hC, upd_same⟩ (fun i H' _ h => st_of (h.1 _ _ hp)) (fun i x H' hi h => ?_) (fun H' h => ?_)
            · obtain ⟨tt, _, rfl⟩ := strs_in (List.mem_of_getElem? hi)
              have hi2 := (List.getElem?_eq_some_iff.mp hi).1
              rw [List.length_map] at hi2
              walk_at "rs"
              refine ⟨rfl, ?_⟩
              walk_at "rs"
              refine r_isi (.ty _) (.base (.str tt)) (kit_ty (r := true) (by decide +kernel)) ?_
              refine ⟨_, h.2, ?_, Same.mut h.1 hC, ?_⟩
              · rw [List.length_map, List.length_replicate]
                exact Nat.lt_of_le_of_lt (show i ≤ 1000000 by omega) (by decide)
              · rw [upd_same, List.replicate_succ', List.map_append]
                rfl
            · walk_at "rs"
              refine ⟨C, _, rfl, sl_of h.2, ?_⟩
              have hall : (List.replicate (ts.map V.str).length true).all id = true := List.all_eq_true.mpr fun b hb => (List.mem_replicate.mp hb).2
              rw [hall]
              walk_at "rs"
              refine ⟨p, _, rfl, .inr (st_of (h.1 _ _ hp)), fun l hl => ?_⟩
              walk_at "rs"
              refine ⟨z, rfl, hz, fun H11 p2 ts2 s11 hp2 hts2 => ?_⟩
              have e : ts2 = ts := map_tl_inj (hts2.trans hts.symm)
              subst e
              refine ⟨.list (ts2.map PyData.str), .list (ts2.map PyData.str), .lst (sl_of (s11 _ _ upd_same)) (dp_strs _), .lst (sl_of hp2) (dp_strs _), shaped_strs _ hot, shaped_strs _ hot, ?_⟩
              rw [eqv_strs _ hot]
              walk_at "rs"
              exact ⟨_, _, rfl, (((s8.trans s9).trans h.1).trans (same_new hl)).trans s11⟩
          · rintro σ H' ⟨v6, v7, rfl, s8⟩
            walk_at "rs"
            exact q _
        · have hs : t.length ≤ sizeLine := len_ok (by omega)
          have fin : ∀ H' t', Same H1 H' → (t' = t ∨ t' = cutS t none (some 20)) → nx' [some (.ref a), some (.ref d), some (.str t'), v3, none, none, none, none, none] H' := fun H' t' s h => by
            have h20 := cutS_length t none (some 20)
            rcases h with rfl | rfl
            · exact hx _ _ ⟨_, _, rfl, D6.same s, by omega, hot⟩
            · exact hx _ _ ⟨_, _, rfl, D6.same s, by omega, ok_cut hot⟩
          walk_at "rs"
          intro C hC
          refine lc_str (x := "([{") (fun i H' => Same H1 H' ∧ ∃ ns : List Int, H' C = some (.lst (ns.map V.int)) ∧ ns.length = i) ⟨same_new hC, [], upd_same, rfl⟩ (fun i ch H' hi ⟨s9, ns, hc1, hl⟩ => ?_) (fun H' ⟨s9, ns, hc1, hl⟩ => ?_)
          · have hi3 : i < 3 := (Array.getElem?_eq_some_iff.mp hi).1
            walk_at "rs"
            refine ⟨rfl, ?_⟩
            walk_at "rs"
            exact ⟨_, hc1, by rw [List.length_map]; exact Nat.lt_of_lt_of_le (show ns.length < 1000 by omega) (by decide), Same.mut s9 hC, ns ++ [_], by rw [upd_same, List.map_append]; rfl, by simp [hl]⟩
          · walk_at "rs"
            refine ⟨C, ns, rfl, sl_of hc1, ?_⟩
            walk_at "rs"
            refine ite2 (fun h => ?_) (fun h => ?_)
            · walk_at "rs"
              exact fin _ _ s9 (.inr rfl)
            · walk_at "rs"
              refine ite2 (fun h => ?_) (fun h => ?_)
              · walk_at "rs"
                exact fin _ _ s9 (.inr rfl)
              · walk_at "rs"
                exact fin _ _ s9 (.inl rfl)
      · walk_at "rs"
        refine ⟨len_ok (by omega), ?_⟩
        walk_at "rs"
        refine ⟨len_ok (by simp only [app_len]; omega), ?_⟩
        walk_at "rs"
        refine ⟨len_ok (by simp only [app_len]; omega), ?_⟩
        walk_at "rs"
        refine ⟨len_ok (by simp only [app_len]; omega), ?_⟩
        walk_at "rs"
        refine ⟨len_ok (by simp only [app_len]; omega), ?_⟩
        walk_at "rs"
        exact hx _ _ ⟨_, _, rfl, D5, by simp only [app_len]; omega, ok_app (ok_app (ok_app (ok_app (ok_app hot hot) hot) hot) hot) hot⟩
      · walk_at "rs"
        exact hx _ _ ⟨_, _, rfl, D5, by omega, hot⟩
end
end Zn
namespace Zn
open PySem PySem.Spec PyProof.Rows L2 TL
theorem all_mk {l : PySem.W.OpenLaw} {w : World} {K : PySem.W.Frag} {h : Heap} {mg : Str → Option Value} {fa : Addr} {f0 : Addr} {od0 an0 : Option Addr} {sl0 : Array (Option Value)} {oc0 kV0 dc0 pm0 cd0 ct0 : Value}
    {f1 : Addr} {od1 an1 : Option Addr} {sl1 : Array (Option Value)} {oc1 kV1 dc1 pm1 cd1 ct1 : Value}
    {f2 : Addr} {od2 an2 : Option Addr} {sl2 : Array (Option Value)} {oc2 kV2 dc2 pm2 cd2 ct2 : Value}
    {f3 : Addr} {od3 an3 : Option Addr} {sl3 : Array (Option Value)} {oc3 kV3 dc3 pm3 cd3 ct3 : Value}
    {f4 : Addr} {od4 an4 : Option Addr} {sl4 : Array (Option Value)} {oc4 kV4 dc4 pm4 cd4 ct4 : Value}
    {f5 : Addr} {od5 an5 : Option Addr} {sl5 : Array (Option Value)} {oc5 kV5 dc5 pm5 cd5 ct5 : Value}
    {f6 : Addr} {od6 an6 : Option Addr} {sl6 : Array (Option Value)} {oc6 kV6 dc6 pm6 cd6 ct6 : Value}
    {f7 : Addr} {od7 an7 : Option Addr} {sl7 : Array (Option Value)} {oc7 kV7 dc7 pm7 cd7 ct7 : Value}
    {f8 : Addr} {od8 an8 : Option Addr} {sl8 : Array (Option Value)} {oc8 kV8 dc8 pm8 cd8 ct8 : Value}
    {f9 : Addr} {od9 an9 : Option Addr} {sl9 : Array (Option Value)} {oc9 kV9 dc9 pm9 cd9 ct9 : Value}
    {f10 : Addr} {od10 an10 : Option Addr} {sl10 : Array (Option Value)} {oc10 kV10 dc10 pm10 cd10 ct10 : Value}
    {f11 : Addr} {od11 an11 : Option Addr} {sl11 : Array (Option Value)} {oc11 kV11 dc11 pm11 cd11 ct11 : Value}
    {f12 : Addr} {od12 an12 : Option Addr} {sl12 : Array (Option Value)} {oc12 kV12 dc12 pm12 cd12 ct12 : Value}
    {f13 : Addr} {od13 an13 : Option Addr} {sl13 : Array (Option Value)} {oc13 kV13 dc13 pm13 cd13 ct13 : Value}
    {f14 : Addr} {od14 an14 : Option Addr} {sl14 : Array (Option Value)} {oc14 kV14 dc14 pm14 cd14 ct14 : Value}
    {f15 : Addr} {od15 an15 : Option Addr} {sl15 : Array (Option Value)} {oc15 kV15 dc15 pm15 cd15 ct15 : Value}
    {f16 : Addr} {od16 an16 : Option Addr} {sl16 : Array (Option Value)} {oc16 kV16 dc16 pm16 cd16 ct16 : Value}
    {aL : Addr} {odaL : Option Addr} {naL : Nat} {slaL : Array (Option Value)} {taL0 taL1 taL2 taL3 taL4 : Tok}
    {aS : Addr} {odaS : Option Addr} {naS : Nat} {slaS : Array (Option Value)} {taS0 taS1 : Tok} (X : K.In h) (G : h.Ns mainGlobals mg) (hfa : mg "law" = some (.ref fa))
    (a0 : PySem.W.nsIn K mainGlobals "tokens_of" = some (some (.ref f0))) (l0 : K.lookup f0 = some ⟨oc0, od0, .func (PySem.W.fnOf "tokens_of" "tokens_of" (defArgs s_tokens_of) (defBody s_tokens_of) (defScope s_tokens_of) .none kV0 dc0 pm0 an0 cd0 ct0), sl0⟩) (c0 : PySem.W.codeIn K cd0 "tokens_of" = true) (k0 : PySem.W.keepIn K (.ref f0) = true)
    (a1 : PySem.W.nsIn K mainGlobals "_end_of" = some (some (.ref f1))) (l1 : K.lookup f1 = some ⟨oc1, od1, .func (PySem.W.fnOf "_end_of" "_end_of" (defArgs s__end_of) (defBody s__end_of) (defScope s__end_of) .none kV1 dc1 pm1 an1 cd1 ct1), sl1⟩) (c1 : PySem.W.codeIn K cd1 "_end_of" = true) (k1 : PySem.W.keepIn K (.ref f1) = true)
    (a2 : PySem.W.nsIn K mainGlobals "_runs_on" = some (some (.ref f2))) (l2 : K.lookup f2 = some ⟨oc2, od2, .func (PySem.W.fnOf "_runs_on" "_runs_on" (defArgs s__runs_on) (defBody s__runs_on) (defScope s__runs_on) .none kV2 dc2 pm2 an2 cd2 ct2), sl2⟩) (c2 : PySem.W.codeIn K cd2 "_runs_on" = true) (k2 : PySem.W.keepIn K (.ref f2) = true)
    (a3 : PySem.W.nsIn K mainGlobals "_is_small" = some (some (.ref f3))) (l3 : K.lookup f3 = some ⟨oc3, od3, .func (PySem.W.fnOf "_is_small" "_is_small" (defArgs s__is_small) (defBody s__is_small) (defScope s__is_small) .none kV3 dc3 pm3 an3 cd3 ct3), sl3⟩) (c3 : PySem.W.codeIn K cd3 "_is_small" = true) (k3 : PySem.W.keepIn K (.ref f3) = true)
    (a4 : PySem.W.nsIn K mainGlobals "_is_digit" = some (some (.ref f4))) (l4 : K.lookup f4 = some ⟨oc4, od4, .func (PySem.W.fnOf "_is_digit" "_is_digit" (defArgs s__is_digit) (defBody s__is_digit) (defScope s__is_digit) .none kV4 dc4 pm4 an4 cd4 ct4), sl4⟩) (c4 : PySem.W.codeIn K cd4 "_is_digit" = true) (k4 : PySem.W.keepIn K (.ref f4) = true)
    (a5 : PySem.W.nsIn K mainGlobals "_law_begin" = some (some (.ref f5))) (l5 : K.lookup f5 = some ⟨oc5, od5, .func (PySem.W.fnOf "_law_begin" "_law_begin" (defArgs s__law_begin) (defBody s__law_begin) (defScope s__law_begin) .none kV5 dc5 pm5 an5 cd5 ct5), sl5⟩) (c5 : PySem.W.codeIn K cd5 "_law_begin" = true) (k5 : PySem.W.keepIn K (.ref f5) = true)
    (a6 : PySem.W.nsIn K mainGlobals "_law_draw" = some (some (.ref f6))) (l6 : K.lookup f6 = some ⟨oc6, od6, .func (PySem.W.fnOf "_law_draw" "_law_draw" (defArgs s__law_draw) (defBody s__law_draw) (defScope s__law_draw) .none kV6 dc6 pm6 an6 cd6 ct6), sl6⟩) (c6 : PySem.W.codeIn K cd6 "_law_draw" = true) (k6 : PySem.W.keepIn K (.ref f6) = true)
    (a7 : PySem.W.nsIn K mainGlobals "_law_pick" = some (some (.ref f7))) (l7 : K.lookup f7 = some ⟨oc7, od7, .func (PySem.W.fnOf "_law_pick" "_law_pick" (defArgs s__law_pick) (defBody s__law_pick) (defScope s__law_pick) .none kV7 dc7 pm7 an7 cd7 ct7), sl7⟩) (c7 : PySem.W.codeIn K cd7 "_law_pick" = true) (k7 : PySem.W.keepIn K (.ref f7) = true)
    (a8 : PySem.W.nsIn K mainGlobals "_law_rare" = some (some (.ref f8))) (l8 : K.lookup f8 = some ⟨oc8, od8, .func (PySem.W.fnOf "_law_rare" "_law_rare" (defArgs s__law_rare) (defBody s__law_rare) (defScope s__law_rare) .none kV8 dc8 pm8 an8 cd8 ct8), sl8⟩) (c8 : PySem.W.codeIn K cd8 "_law_rare" = true) (k8 : PySem.W.keepIn K (.ref f8) = true)
    (a9 : PySem.W.nsIn K mainGlobals "_law_reserved" = some (some (.ref f9))) (l9 : K.lookup f9 = some ⟨oc9, od9, .func (PySem.W.fnOf "_law_reserved" "_law_reserved" (defArgs s__law_reserved) (defBody s__law_reserved) (defScope s__law_reserved) .none kV9 dc9 pm9 an9 cd9 ct9), sl9⟩) (c9 : PySem.W.codeIn K cd9 "_law_reserved" = true) (k9 : PySem.W.keepIn K (.ref f9) = true)
    (a10 : PySem.W.nsIn K mainGlobals "_law_signs" = some (some (.ref f10))) (l10 : K.lookup f10 = some ⟨oc10, od10, .func (PySem.W.fnOf "_law_signs" "_law_signs" (defArgs s__law_signs) (defBody s__law_signs) (defScope s__law_signs) .none kV10 dc10 pm10 an10 cd10 ct10), sl10⟩) (c10 : PySem.W.codeIn K cd10 "_law_signs" = true) (k10 : PySem.W.keepIn K (.ref f10) = true)
    (a11 : PySem.W.nsIn K mainGlobals "_law_any_name" = some (some (.ref f11))) (l11 : K.lookup f11 = some ⟨oc11, od11, .func (PySem.W.fnOf "_law_any_name" "_law_any_name" (defArgs s__law_any_name) (defBody s__law_any_name) (defScope s__law_any_name) .none kV11 dc11 pm11 an11 cd11 ct11), sl11⟩) (c11 : PySem.W.codeIn K cd11 "_law_any_name" = true) (k11 : PySem.W.keepIn K (.ref f11) = true)
    (a12 : PySem.W.nsIn K mainGlobals "_law_any_number" = some (some (.ref f12))) (l12 : K.lookup f12 = some ⟨oc12, od12, .func (PySem.W.fnOf "_law_any_number" "_law_any_number" (defArgs s__law_any_number) (defBody s__law_any_number) (defScope s__law_any_number) .none kV12 dc12 pm12 an12 cd12 ct12), sl12⟩) (c12 : PySem.W.codeIn K cd12 "_law_any_number" = true) (k12 : PySem.W.keepIn K (.ref f12) = true)
    (a13 : PySem.W.nsIn K mainGlobals "_law_cut_tokens" = some (some (.ref f13))) (l13 : K.lookup f13 = some ⟨oc13, od13, .func (PySem.W.fnOf "_law_cut_tokens" "_law_cut_tokens" (defArgs s__law_cut_tokens) (defBody s__law_cut_tokens) (defScope s__law_cut_tokens) .none kV13 dc13 pm13 an13 cd13 ct13), sl13⟩) (c13 : PySem.W.codeIn K cd13 "_law_cut_tokens" = true) (k13 : PySem.W.keepIn K (.ref f13) = true)
    (a14 : PySem.W.nsIn K mainGlobals "_law_gap" = some (some (.ref f14))) (l14 : K.lookup f14 = some ⟨oc14, od14, .func (PySem.W.fnOf "_law_gap" "_law_gap" (defArgs s__law_gap) (defBody s__law_gap) (defScope s__law_gap) .none kV14 dc14 pm14 an14 cd14 ct14), sl14⟩) (c14 : PySem.W.codeIn K cd14 "_law_gap" = true) (k14 : PySem.W.keepIn K (.ref f14) = true)
    (a15 : PySem.W.nsIn K mainGlobals "_law_piece" = some (some (.ref f15))) (l15 : K.lookup f15 = some ⟨oc15, od15, .func (PySem.W.fnOf "_law_piece" "_law_piece" (defArgs s__law_piece) (defBody s__law_piece) (defScope s__law_piece) .none kV15 dc15 pm15 an15 cd15 ct15), sl15⟩) (c15 : PySem.W.codeIn K cd15 "_law_piece" = true) (k15 : PySem.W.keepIn K (.ref f15) = true)
    (a16 : PySem.W.nsIn K mainGlobals "law" = some (some (.ref f16))) (l16 : K.lookup f16 = some ⟨oc16, od16, .func (PySem.W.fnOf "law" "law" (defArgs s_law) (defBody s_law) (defScope s_law) .none kV16 dc16 pm16 an16 cd16 ct16), sl16⟩) (c16 : PySem.W.codeIn K cd16 "law" = true) (k16 : PySem.W.keepIn K (.ref f16) = true)
    (gaL : PySem.W.nsIn K mainGlobals "LONG_SIGNS" = some (some (.ref aL))) (laL : K.lookup aL = some ⟨.type "tuple", odaL, .seq #[.str "==" taL0, .str "!=" taL1, .str "<=" taL2, .str "<<" taL3, .str ">>" taL4] naL, slaL⟩)
    (gaS : PySem.W.nsIn K mainGlobals "SPACES" = some (some (.ref aS))) (laS : K.lookup aS = some ⟨.type "tuple", odaS, .seq #[.str " " taS0, .str "\n" taS1] naS, slaS⟩)
    (z_int : PySem.W.nsIn K mainGlobals "int" = some none) (z_len : PySem.W.nsIn K mainGlobals "len" = some none) (z_abs : PySem.W.nsIn K mainGlobals "abs" = some none) (z_all : PySem.W.nsIn K mainGlobals "all" = some none) (z_isinstance : PySem.W.nsIn K mainGlobals "isinstance" = some none) (z_list : PySem.W.nsIn K mainGlobals "list" = some none) (z_range : PySem.W.nsIn K mainGlobals "range" = some none) (z_str : PySem.W.nsIn K mainGlobals "str" = some none) (z_sum : PySem.W.nsIn K mainGlobals "sum" = some none) (z_tuple : PySem.W.nsIn K mainGlobals "tuple" = some none) :
    ∃ fd : FuncData, (∀ (s : Shared) (v : Value), BindsTo s fd ⟨[v], []⟩ [("_law_script", v)]) ∧ ∀ base : Heap, K.In base → base.Ns mainGlobals mg → FnOk l.prog w K mg base CX0 5 fa fd ["_law_script"] (spLaw K) := by
  have e := hfa.symm.trans (PySem.W.mg_of X G a16)
  cases e
  have T : Tx K mg aL aS := { z_int := PySem.W.mg_none_of X G z_int, z_len := PySem.W.mg_none_of X G z_len, z_abs := PySem.W.mg_none_of X G z_abs, z_all := PySem.W.mg_none_of X G z_all, z_isinstance := PySem.W.mg_none_of X G z_isinstance, z_list := PySem.W.mg_none_of X G z_list, z_range := PySem.W.mg_none_of X G z_range, z_str := PySem.W.mg_none_of X G z_str, z_sum := PySem.W.mg_none_of X G z_sum, z_tuple := PySem.W.mg_none_of X G z_tuple, g_LONG_SIGNS := PySem.W.mg_of X G gaL, q_LONG_SIGNS := fun H => .inr ⟨_, _, _, laL, rfl, rfl, Nat.le_of_ble_eq_true rfl, .cons ⟨_, rfl⟩ (.cons ⟨_, rfl⟩ (.cons ⟨_, rfl⟩ (.cons ⟨_, rfl⟩ (.cons ⟨_, rfl⟩ (.nil)))))⟩, g_SPACES := PySem.W.mg_of X G gaS, q_SPACES := fun H => .inr ⟨_, _, _, laS, rfl, rfl, Nat.le_of_ble_eq_true rfl, .cons ⟨_, rfl⟩ (.cons ⟨_, rfl⟩ (.nil))⟩ }
  have F0 := fun_mk (st := s_tokens_of) l0 c0 k0
  have m0 := PySem.W.mg_of X G a0
  have F1 := fun_mk (st := s__end_of) l1 c1 k1
  have m1 := PySem.W.mg_of X G a1
  have F2 := fun_mk (st := s__runs_on) l2 c2 k2
  have m2 := PySem.W.mg_of X G a2
  have F3 := fun_mk (st := s__is_small) l3 c3 k3
  have m3 := PySem.W.mg_of X G a3
  have F4 := fun_mk (st := s__is_digit) l4 c4 k4
  have m4 := PySem.W.mg_of X G a4
  have F5 := fun_mk (st := s__law_begin) l5 c5 k5
  have m5 := PySem.W.mg_of X G a5
  have F6 := fun_mk (st := s__law_draw) l6 c6 k6
  have m6 := PySem.W.mg_of X G a6
  have F7 := fun_mk (st := s__law_pick) l7 c7 k7
  have m7 := PySem.W.mg_of X G a7
  have F8 := fun_mk (st := s__law_rare) l8 c8 k8
  have m8 := PySem.W.mg_of X G a8
  have F9 := fun_mk (st := s__law_reserved) l9 c9 k9
  have m9 := PySem.W.mg_of X G a9
  have F10 := fun_mk (st := s__law_signs) l10 c10 k10
  have m10 := PySem.W.mg_of X G a10
  have F11 := fun_mk (st := s__law_any_name) l11 c11 k11
  have m11 := PySem.W.mg_of X G a11
  have F12 := fun_mk (st := s__law_any_number) l12 c12 k12
  have m12 := PySem.W.mg_of X G a12
  have F13 := fun_mk (st := s__law_cut_tokens) l13 c13 k13
  have m13 := PySem.W.mg_of X G a13
  have F14 := fun_mk (st := s__law_gap) l14 c14 k14
  have m14 := PySem.W.mg_of X G a14
  have F15 := fun_mk (st := s__law_piece) l15 c15 k15
  have m15 := PySem.W.mg_of X G a15
  have F16 := fun_mk (st := s_law) l16 c16 k16
  have m16 := PySem.W.mg_of X G a16
  refine ⟨PySem.W.fnOf "law" "law" (defArgs s_law) (defBody s_law) (defScope s_law) .none kV16 dc16 pm16 an16 cd16 ct16, fun s v => .of_eq rfl, fun base _ _ => ?_⟩
  have c__is_small := cal_of (N := []) m3 F3 (fun _ _ _ _ _ _ us hl => match us, hl with | [_], _ => rfl) (ok_is_small (P := l.prog) (w := w) (base := base) F3)
  have c__is_digit := cal_of (N := []) m4 F4 (fun _ _ _ _ _ _ us hl => match us, hl with | [_], _ => rfl) (ok_is_digit (P := l.prog) (w := w) (base := base) F4)
  have c__runs_on := cal_of (N := []) m2 F2 (fun _ _ _ _ _ _ us hl => match us, hl with | [_], _ => rfl) (ok_runs_on (P := l.prog) (w := w) (base := base) F2 c__is_small c__is_digit)
  have c__end_of := cal_of (N := []) m1 F1 (fun _ _ _ _ _ _ us hl => match us, hl with | [_, _], _ => rfl) (ok_end_of (P := l.prog) (w := w) (base := base) F1 c__runs_on T)
  have c_tokens_of := cal_of (N := []) m0 F0 (fun _ _ _ _ _ _ us hl => match us, hl with | [_], _ => rfl) (ok_tokens_of (P := l.prog) (w := w) (base := base) F0 c__end_of T)
  have c__law_begin := cal_of (N := []) m5 F5 (fun _ _ _ _ _ _ us hl => match us, hl with | [_], _ => rfl) (ok_begin (P := l.prog) (w := w) (base := base) F5 T.toTDraw)
  have c__law_draw := cal_of (N := []) m6 F6 (fun _ _ _ _ _ _ us hl => match us, hl with | [_, _], _ => rfl) (ok_draw (P := l.prog) (w := w) (base := base) F6 T.toTDraw)
  have c__law_pick := cal_of (N := []) m7 F7 (fun _ _ _ _ _ _ us hl => match us, hl with | [_, _], _ => rfl) (ok_pick (P := l.prog) (w := w) (base := base) F7 c__law_draw T)
  have c__law_rare := cal_of (N := []) m8 F8 (fun _ _ _ _ _ _ us hl => match us, hl with | [_, _], _ => rfl) (ok_rare (P := l.prog) (w := w) (base := base) F8 c__law_draw T)
  have c__law_reserved := cal_of (N := []) m9 F9 (fun _ _ _ _ _ _ us hl => match us, hl with | [], _ => rfl) (ok_reserved (P := l.prog) (w := w) (base := base) F9 T)
  have c__law_signs := cal_of (N := []) m10 F10 (fun _ _ _ _ _ _ us hl => match us, hl with | [], _ => rfl) (ok_signs (P := l.prog) (w := w) (base := base) F10 T)
  have c__law_any_name := cal_of (N := []) m11 F11 (fun _ _ _ _ _ _ us hl => match us, hl with | [_], _ => rfl) (ok_any_name (P := l.prog) (w := w) (base := base) F11 c__law_draw c__law_pick c__law_reserved T)
  have c__law_any_number := cal_of (N := []) m12 F12 (fun _ _ _ _ _ _ us hl => match us, hl with | [_], _ => rfl) (ok_any_number (P := l.prog) (w := w) (base := base) F12 c__law_draw c__law_pick T)
  have c__law_cut_tokens := cal_of (N := []) m13 F13 (fun _ _ _ _ _ _ us hl => match us, hl with | [_], _ => rfl) (ok_cut_tokens (P := l.prog) (w := w) (base := base) F13 T)
  have c__law_gap := cal_of (N := []) m14 F14 (fun _ _ _ _ _ _ us hl => match us, hl with | [_], _ => rfl) (ok_gap (P := l.prog) (w := w) (base := base) F14 c__law_pick T)
  have c__law_piece := cal_of (N := []) m15 F15 (fun _ _ _ _ _ _ us hl => match us, hl with | [_], _ => rfl) (ok_piece (P := l.prog) (w := w) (base := base) F15 c__law_draw c__law_pick c__law_reserved c__law_signs c__law_any_name c__law_any_number T)
  exact ok_law F16 c__law_begin c__law_draw c__law_rare c__law_gap c__law_piece c__law_cut_tokens c_tokens_of T
theorem walk {l : PySem.W.OpenLaw} {q : Program} {loose : List Str} {XP : (Str → Option Value) → Heap → Prop} {YP : World → Heap → Prop} {d : DefRec} {K : Params → PySem.W.Frag} (hn : l.most = some 63) (hdf : d.params.defaults = [])
    (hY : ∀ (w : World) (h : Heap), YP w h → (K w.params).In h)
    (F : ∀ (w : World) (mg : Str → Option Value) (fa : Addr) (h : Heap), (K w.params).In h → h.Ns mainGlobals mg → mg d.name = some (.ref fa) →
      ∃ fd : FuncData, (∀ (s : Shared) (u : Value), BindsTo s fd ⟨[u], []⟩ [("_law_script", u)]) ∧ ∀ base : Heap, (K w.params).In base → base.Ns mainGlobals mg → FnOk l.prog w (K w.params) mg base CX0 5 fa fd ["_law_script"] (spLaw (K w.params))) :
    PySem.W.WalkO q loose XP YP l.row.toRowW d [] (fun f vs => PySem.call f vs) :=
  L2.walk_of (n := 63) (k := 5) (x := "_law_script") (CX := fun _ => CX0) (sp := fun w => spLaw (K w.params)) hn (by decide) hdf ⟨rfl, by decide, by decide⟩ hY F (fun _ _ a ns hl _ hS => ⟨a, ns, rfl, hS, hl, fun _ => rfl⟩) fun _ _ _ _ _ z => z
end Zn

open PySem PySem.W PyProof.Rows in
set_option maxRecDepth 100000 in
set_option maxHeartbeats 0 in
theorem PySem.Challenge.cw_metorshut_k04_tokens_holds : PySem.Challenge.rw_metorshut_k04_tokens.Holds := by
  w_on; o_law; k_head; (case hw => w_witness2)
  k_fill
  refine Zn.walk (l := PySem.Challenge.rw_metorshut_k04_tokens) rfl rfl (fun w h Y => PySem.W.kIn_of Y) ?F
  case F =>
    intro w mg fa h KX G hmg
    refine' Zn.all_mk KX G hmg ?a0 ?l0 ?c0 ?k0 ?a1 ?l1 ?c1 ?k1 ?a2 ?l2 ?c2 ?k2 ?a3 ?l3 ?c3 ?k3 ?a4 ?l4 ?c4 ?k4 ?a5 ?l5 ?c5 ?k5 ?a6 ?l6 ?c6 ?k6 ?a7 ?l7 ?c7 ?k7 ?a8 ?l8 ?c8 ?k8 ?a9 ?l9 ?c9 ?k9 ?a10 ?l10 ?c10 ?k10 ?a11 ?l11 ?c11 ?k11 ?a12 ?l12 ?c12 ?k12 ?a13 ?l13 ?c13 ?k13 ?a14 ?l14 ?c14 ?k14 ?a15 ?l15 ?c15 ?k15 ?a16 ?l16 ?c16 ?k16 ?gaL ?laL ?gaS ?laS ?z_int ?z_len ?z_abs ?z_all ?z_isinstance ?z_list ?z_range ?z_str ?z_sum ?z_tuple
    (case a0 => k_is)
    (case l0 => k_is)
    (case c0 => k_is)
    (case k0 => k_is)
    (case a1 => k_is)
    (case l1 => k_is)
    (case c1 => k_is)
    (case k1 => k_is)
    (case a2 => k_is)
    (case l2 => k_is)
    (case c2 => k_is)
    (case k2 => k_is)
    (case a3 => k_is)
    (case l3 => k_is)
    (case c3 => k_is)
    (case k3 => k_is)
    (case a4 => k_is)
    (case l4 => k_is)
    (case c4 => k_is)
    (case k4 => k_is)
    (case a5 => k_is)
    (case l5 => k_is)
    (case c5 => k_is)
    (case k5 => k_is)
    (case a6 => k_is)
    (case l6 => k_is)
    (case c6 => k_is)
    (case k6 => k_is)
    (case a7 => k_is)
    (case l7 => k_is)
    (case c7 => k_is)
    (case k7 => k_is)
    (case a8 => k_is)
    (case l8 => k_is)
    (case c8 => k_is)
    (case k8 => k_is)
    (case a9 => k_is)
    (case l9 => k_is)
    (case c9 => k_is)
    (case k9 => k_is)
    (case a10 => k_is)
    (case l10 => k_is)
    (case c10 => k_is)
    (case k10 => k_is)
    (case a11 => k_is)
    (case l11 => k_is)
    (case c11 => k_is)
    (case k11 => k_is)
    (case a12 => k_is)
    (case l12 => k_is)
    (case c12 => k_is)
    (case k12 => k_is)
    (case a13 => k_is)
    (case l13 => k_is)
    (case c13 => k_is)
    (case k13 => k_is)
    (case a14 => k_is)
    (case l14 => k_is)
    (case c14 => k_is)
    (case k14 => k_is)
    (case a15 => k_is)
    (case l15 => k_is)
    (case c15 => k_is)
    (case k15 => k_is)
    (case a16 => k_is)
    (case l16 => k_is)
    (case c16 => k_is)
    (case k16 => k_is)
    (case gaL => k_is)
    (case laL => k_is)
    (case gaS => k_is)
    (case laS => k_is)
    (case z_int => k_is)
    (case z_len => k_is)
    (case z_abs => k_is)
    (case z_all => k_is)
    (case z_isinstance => k_is)
    (case z_list => k_is)
    (case z_range => k_is)
    (case z_str => k_is)
    (case z_sum => k_is)
    (case z_tuple => k_is)
#print axioms PySem.Challenge.cw_metorshut_k04_tokens_holds
