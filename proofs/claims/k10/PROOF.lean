import PyProof.Rows.All
import Wide.All
import OpenK.AllK
import Wide.FinOn
import HandS.ForMost
import HandS.EndTab
import HandS.OwnEq
import HandS.IsInst
import HandS.Exc
import HandS.ExcInit
import HandS.ExcIs
import HandS.ExcField
import HandS.Conv
import HandS.FStr
import KE.KCallOwn
import HandS.ClsMeth
import HandS.Lambda
import HandS.WordsExc
import HandS.MakeKw
import HandS.MakeKwOnly
import HandS.Wide
import KE.KOwnIter
import KE.KDictIter
import PyProof.WalksMore
import HandS.IterVal
import HandS.Comp
import PyProof.NeKinds
import KE.KIsNot
import PyProof.MeetsIn
import PyProof.EqAt
import PyProof.MeetsSeq
import HandS.Property
import HandS.Star
import HandS.Style
import HandS.Text
import HandS.ExcInitHot
import HandS.SuiteRaise
import HandS.RaiseFrom
import HandS.StrMore
import PyProof.Rows.ReprOcc
import PyProof.Rows.StrDigitsNeg
import KE.IntTextText
import KE.IntTextLaws
import HandS.Codes
import HandS.ReplaceList
import HandS.NoneIn
import HandS.More
import KE.KMathGC
import HandS.Gcd
import HandS.Defaults
import HandS.Small
import HandS.Dict
import HandS.RaiseMore
import HandS.SortKw
import HandS.Strs
import HandS.SetFor
import KE.DataMinMax
import KE.DataAny
import HandS.SortInts
import HandS.SetBool
import HandS.DictSub
import HandS.Flow
import HandS.WideBits
import KE.RegKIsAll
import KE.RegKTryMore
import PySem.Challenge.RW_nodeadnight_k10_whole_sets_that_come_rou
set_option Elab.async false
set_option linter.all false
set_option maxRecDepth 100000
set_option maxHeartbeats 4000000
/-! An abstract layer: a state is what is known (kn) and a count (n); the rest of the heap (a pen, tables of code objects, what a caller had) is kept by an invariant. -/
namespace AW
open PySem PySem.Spec PyProof.Rows L2

def isMut : HO → Bool
  | .lst _ => true | .dK _ => true | .dT _ => true | .set _ _ => true | .ins _ _ _ => true
  | _ => false
def isTbl : HO → Bool
  | .tbl _ => true
  | _ => false
/-- all that kn does not know, and all that never changes, is kept -/
def Kept (kn H H' : Hp) : Prop := ∀ x o, H x = some o → (kn x = none ∨ isMut o = false) → H' x = some o

structure Cw where
  inv : Nat → Hp → Prop
  res : Addr → Prop
  live : ∀ n H x, inv n H → res x → H x ≠ none
  step : ∀ n kn H H', inv n H → (∀ x, res x → kn x = none) → Kept kn H H' → inv n H'
  up : ∀ n m H, inv n H → n ≤ m → inv m H

structure Good (c : Cw) (kn : Hp) (n : Nat) (H : Hp) : Prop where
  ex : Ext kn H
  inv : c.inv n H
  res : ∀ x, c.res x → kn x = none
  nt : ∀ x o, kn x = some o → isTbl o = false

section
variable {c : Cw} {kn kn' H H' : Hp} {n m : Nat} {q : Addr} {o : HO}
theorem Good.free (g : Good c kn n H) (h : H q = none) : kn q = none := by
  cases e : kn q with
  | none => rfl
  | some u => rw [g.ex q u e] at h; cases h
theorem Good.up (g : Good c kn n H) (h : n ≤ m) : Good c kn m H := ⟨g.ex, c.up n m H g.inv h, g.res, g.nt⟩
theorem Kept.refl : Kept kn H H := fun _ _ h _ => h
/-- a new object -/
theorem nt_upd (h : ∀ x o, kn x = some o → isTbl o = false) (ht : isTbl o = false) : ∀ x u, upd kn q o x = some u → isTbl u = false := fun x u e => by
  by_cases hx : x = q
  · rw [hx, upd_same] at e; cases e; exact ht
  · rw [upd_ne hx] at e; exact h x u e
theorem Good.new (g : Good c kn n H) (h : H q = none) (ht : isTbl o = false := by rfl) : Good c (upd kn q o) n (upd H q o) := by
  refine ⟨fun x u e => ?_, c.step n kn H _ g.inv g.res (fun x u e _ => ?_), fun x r => ?_, nt_upd g.nt ht⟩
  · by_cases hx : x = q
    · rw [hx, upd_same] at e
      rw [hx, upd_same]
      exact e
    · rw [upd_ne hx] at e
      rw [upd_ne hx]
      exact g.ex x u e
  · rw [upd_ne (ne_of_none e h)]
    exact e
  · rw [upd_ne (fun z => c.live n H x g.inv r (by rw [z]; exact h))]
    exact g.res x r
/-- a known object is changed -/
theorem Good.put {u : HO} (g : Good c kn n H) (h : kn q = some u) (hm : isMut u = true) (ht : isTbl o = false := by rfl) : Good c (upd kn q o) n (upd H q o) := by
  refine ⟨fun x v e => ?_, c.step n kn H _ g.inv g.res (fun x v e k => ?_), fun x r => ?_, nt_upd g.nt ht⟩
  · by_cases hx : x = q
    · rw [hx, upd_same] at e
      rw [hx, upd_same]
      exact e
    · rw [upd_ne hx] at e
      rw [upd_ne hx]
      exact g.ex x v e
  · have hx : x ≠ q := fun z => by
      subst z
      have e2 := g.ex x u h
      rw [e] at e2
      cases e2
      rcases k with k | k
      · rw [h] at k; cases k
      · rw [hm] at k; cases k
    rw [upd_ne hx]
    exact e
  · rw [upd_ne (fun z => by subst z; have := g.res x r; rw [h] at this; cases this)]
    exact g.res x r
/-- the rest is only made longer -/
theorem Good.ext (g : Good c kn n H) (e : Ext H H') : Good c kn n H' :=
  ⟨fun x o h => e x o (g.ex x o h), c.step n kn H _ g.inv g.res fun x o h _ => e x o h, g.res, g.nt⟩
theorem know {a : Addr} {u : HO} (h : kn q = none) (e : kn a = some u) : upd kn q o a = some u := by
  rw [upd_ne (ne_of_none e h)]
  exact e
theorem free_upd {a : Addr} (h : kn q = none) (e : upd kn a o q = none) : True := trivial
theorem Ext.know {a : Addr} {u : HO} (x : Ext kn kn') (e : kn a = some u) : kn' a = some u := x a u e
end

/-- the abstract wish -/
def W {α : Type} (c : Cw) (t : Hp → (α → Hp → Prop) → Prop) (kn : Hp) (n : Nat) (Q : α → Hp → Nat → Prop) : Prop :=
  ∀ H, Good c kn n H → ∀ Q' : α → Hp → Prop, (∀ v kn' n' H', Q v kn' n' → Good c kn' n' H' → Q' v H') → t H Q'
structure AE where
  nx : L2.St → Hp → Nat → Prop
  rt : V → Hp → Nat → Prop
  bk : L2.St → Hp → Nat → Prop := fun _ _ _ => False
  ct : L2.St → Hp → Nat → Prop := fun _ _ _ => False
/-- an end is served by another -/
structure Fits (c : Cw) (D : AE) (D' : Ends) : Prop where
  nx : ∀ σ kn n H, D.nx σ kn n → Good c kn n H → D'.nx σ H
  rt : ∀ v kn n H, D.rt v kn n → Good c kn n H → D'.rt v H
  bk : ∀ σ kn n H, D.bk σ kn n → Good c kn n H → D'.bk σ H
  ct : ∀ σ kn n H, D.ct σ kn n → Good c kn n H → D'.ct σ H
def WS (c : Cw) (ts : TS) (D : AE) (σ : L2.St) (kn : Hp) (n : Nat) : Prop := ∀ H, Good c kn n H → ∀ D' : Ends, Fits c D D' → ts D' σ H

section
variable {c : Cw} {kn : Hp} {n : Nat} {σ : L2.St} {K : PySem.W.Frag}
theorem W.mono {α : Type} {t : Hp → (α → Hp → Prop) → Prop} {Q R : α → Hp → Nat → Prop} (h : W c t kn n Q) (k : ∀ v kn' n', Q v kn' n' → R v kn' n') : W c t kn n R :=
  fun H g Q' q => h H g Q' fun v kn' n' H' e => q v kn' n' H' (k v kn' n' e)

/-! ### expressions -/
variable {Q : V → Hp → Nat → Prop} {QB : Bool → Hp → Nat → Prop} {QA : List V → Hp → Nat → Prop} {QO : Option Int → Hp → Nat → Prop}
theorem w_var {i : Nat} {v : V} (h : σ[i]? = some (some v)) (q : Q v kn n) : W c (tVar i σ) kn n Q := fun H g _ k => ⟨v, h, k v kn n H q g⟩
theorem w_c {v : V} (q : Q v kn n) : W c (tC v σ) kn n Q := fun H g _ k => k v kn n H q g
theorem w_op {r : R2} {ta tb : TE} (h : W c (ta σ) kn n fun x kn1 n1 => W c (tb σ) kn1 n1 fun y kn2 n2 => W c (r x y) kn2 n2 Q) : W c (tOp r ta tb σ) kn n Q :=
  fun H g Q' q => h H g _ fun x kn1 n1 H1 h1 g1 => h1 H1 g1 _ fun y kn2 n2 H2 h2 g2 => h2 H2 g2 Q' q
theorem w_un {r : V → Hp → VK → Prop} {ta : TE} (h : W c (ta σ) kn n fun x kn1 n1 => W c (r x) kn1 n1 Q) : W c (tUn r ta σ) kn n Q :=
  fun H g Q' q => h H g _ fun x kn1 n1 H1 h1 g1 => h1 H1 g1 Q' q
theorem r_I0 {f : Int → Int → V} {i j : Int} (q : Q (f i j) kn n) : W c (rI0 f (.int i) (.int j)) kn n Q := fun H g _ k => ⟨i, j, rfl, rfl, k _ kn n H q g⟩
theorem r_I {C : Int → Int → Prop} {f : Int → Int → V} {i j : Int} (hc : C i j) (q : Q (f i j) kn n) : W c (rI C f (.int i) (.int j)) kn n Q := fun H g _ k => ⟨i, j, rfl, rfl, hc, k _ kn n H q g⟩
theorem r_U {f : Int → V} {i : Int} (q : Q (f i) kn n) : W c (rU f (.int i)) kn n Q := fun H g _ k => ⟨i, rfl, k _ kn n H q g⟩
theorem r_eq {x y : V} (h : scal x y = true) (q : Q (.bl (decide (x = y))) kn n) : W c (rEq x y) kn n Q := fun H g _ k => ⟨h, k _ kn n H q g⟩
theorem r_ne {x y : V} (h : scal x y = true) (q : Q (.bl (!decide (x = y))) kn n) : W c (rNe x y) kn n Q := fun H g _ k => ⟨h, k _ kn n H q g⟩
theorem sql {a : Addr} {xs : List V} {H : Hp} (h : H a = some (.lst xs)) : SqL K H a xs := .inl (.inl h)
theorem sqt {a : Addr} {xs : List V} {H : Hp} (h : H a = some (.tup xs)) : SqT K H a xs := .inl (.inl h)
theorem r_ixL {p : Addr} {xs : List V} {i : Int} {v : V} (h : kn p = some (.lst xs)) (e : atI xs i = some v) (q : Q v kn n) : W c (rIxL K (.ref p) (.int i)) kn n Q :=
  fun H g _ k => ⟨p, xs, i, v, rfl, rfl, sql (g.ex _ _ h), e, k _ kn n H q g⟩
theorem r_ixT {p : Addr} {xs : List V} {i : Int} {v : V} (h : kn p = some (.tup xs)) (e : atI xs i = some v) (q : Q v kn n) : W c (rIxT K (.ref p) (.int i)) kn n Q :=
  fun H g _ k => ⟨p, xs, i, v, rfl, rfl, sqt (g.ex _ _ h), e, k _ kn n H q g⟩
theorem w_nil (q : QA [] kn n) : W c (tNil σ) kn n QA := fun H g _ k => k _ kn n H q g
theorem w_cons {ta : TE} {tr : TA} (h : W c (ta σ) kn n fun x kn1 n1 => W c (tr σ) kn1 n1 fun xs kn2 n2 => QA (x :: xs) kn2 n2) : W c (tCons ta tr σ) kn n QA :=
  fun H g Q' q => h H g _ fun x kn1 n1 H1 h1 g1 => h1 H1 g1 _ fun xs kn2 n2 H2 h2 g2 => q _ kn2 n2 H2 h2 g2
theorem w_tup {t : TA} (h : W c (t σ) kn n fun xs kn1 n1 => xs.length ≤ 1000 ∧ ∀ q, kn1 q = none → Q (.ref q) (upd kn1 q (.tup xs)) n1) : W c (tTup t σ) kn n Q :=
  fun H g Q' q => h H g _ fun xs kn1 n1 H1 h1 g1 => ⟨Nat.le_trans h1.1 (by decide), fun p hp => q _ _ _ _ (h1.2 p (g1.free hp)) (g1.new hp)⟩
theorem w_lst {t : TA} (h : W c (t σ) kn n fun xs kn1 n1 => xs.length ≤ 1000 ∧ ∀ q, kn1 q = none → Q (.ref q) (upd kn1 q (.lst xs)) n1) : W c (tLst t σ) kn n Q :=
  fun H g Q' q => h H g _ fun xs kn1 n1 H1 h1 g1 => ⟨Nat.le_trans h1.1 (by decide), fun p hp => q _ _ _ _ (h1.2 p (g1.free hp)) (g1.new hp)⟩
theorem w_cb {r : List V → Hp → VK → Prop} {t : TA} (h : W c (t σ) kn n fun xs kn1 n1 => W c (r xs) kn1 n1 Q) : W c (tCB r t σ) kn n Q :=
  fun H g Q' q => h H g _ fun xs kn1 n1 H1 h1 g1 => h1 H1 g1 Q' q
theorem w_ifE {t : TT} {ta tb : TE} (h : W c (t σ) kn n fun b kn1 n1 => (b = true → W c (ta σ) kn1 n1 Q) ∧ (b = false → W c (tb σ) kn1 n1 Q)) : W c (tIf t ta tb σ) kn n Q :=
  fun H g Q' q => h H g _ fun b kn1 n1 H1 h1 g1 => by
    cases b with
    | true => exact iteT (h1.1 rfl H1 g1 Q' q)
    | false => exact iteF (h1.2 rfl H1 g1 Q' q)
theorem w_andV {ta tb : TE} (h : W c (ta σ) kn n fun x kn1 n1 => ∃ b, x = .bl b ∧ (b = true → W c (tb σ) kn1 n1 Q) ∧ (b = false → Q (.bl false) kn1 n1)) : W c (tAndV ta tb σ) kn n Q :=
  fun H g Q' q => h H g _ fun x kn1 n1 H1 h1 g1 => by
    obtain ⟨b, e, h2, h3⟩ := h1
    refine ⟨b, e, ?_⟩
    cases b with
    | true => exact iteT (h2 rfl H1 g1 Q' q)
    | false => exact iteF (q _ _ _ _ (h3 rfl) g1)
theorem w_orV {ta tb : TE} (h : W c (ta σ) kn n fun x kn1 n1 => ∃ b, x = .bl b ∧ (b = false → W c (tb σ) kn1 n1 Q) ∧ (b = true → Q (.bl true) kn1 n1)) : W c (tOrV ta tb σ) kn n Q :=
  fun H g Q' q => h H g _ fun x kn1 n1 H1 h1 g1 => by
    obtain ⟨b, e, h2, h3⟩ := h1
    refine ⟨b, e, ?_⟩
    cases b with
    | true => exact iteT (q _ _ _ _ (h3 rfl) g1)
    | false => exact iteF (h2 rfl H1 g1 Q' q)
theorem w_notV {ta : TE} (h : W c (ta σ) kn n fun x kn1 n1 => ∃ b, x = .bl b ∧ Q (.bl (!b)) kn1 n1) : W c (tNotV ta σ) kn n Q :=
  fun H g Q' q => h H g _ fun x kn1 n1 H1 h1 g1 => by
    obtain ⟨b, e, h2⟩ := h1
    exact ⟨b, e, q _ _ _ _ h2 g1⟩

/-! ### tests -/
theorem w_test {t : TE} (h : W c (t σ) kn n fun x kn1 n1 => ∃ b, x = .bl b ∧ QB b kn1 n1) : W c (tTest t σ) kn n QB :=
  fun H g Q' q => h H g _ fun x kn1 n1 H1 h1 g1 => by
    obtain ⟨b, e, h2⟩ := h1
    exact ⟨b, e, q _ _ _ _ h2 g1⟩
theorem w_B {t : TE} (h : W c (t σ) kn n fun x kn1 n1 => ∃ b, x = .bl b ∧ QB b kn1 n1) : W c (tB t σ) kn n QB :=
  fun H g Q' q => h H g _ fun x kn1 n1 H1 h1 g1 => by
    obtain ⟨b, e, h2⟩ := h1
    exact ⟨b, e, q _ _ _ _ h2 g1⟩
theorem w_and {t u : TT} (h : W c (t σ) kn n fun b kn1 n1 => (b = true → W c (u σ) kn1 n1 QB) ∧ (b = false → QB false kn1 n1)) : W c (tAnd t u σ) kn n QB :=
  fun H g Q' q => h H g _ fun b kn1 n1 H1 h1 g1 => by
    cases b with
    | true => exact iteT (h1.1 rfl H1 g1 Q' q)
    | false => exact iteF (q _ _ _ _ (h1.2 rfl) g1)
theorem w_or {t u : TT} (h : W c (t σ) kn n fun b kn1 n1 => (b = false → W c (u σ) kn1 n1 QB) ∧ (b = true → QB true kn1 n1)) : W c (tOr t u σ) kn n QB :=
  fun H g Q' q => h H g _ fun b kn1 n1 H1 h1 g1 => by
    cases b with
    | true => exact iteT (q _ _ _ _ (h1.2 rfl) g1)
    | false => exact iteF (h1.1 rfl H1 g1 Q' q)
theorem w_not {t : TT} (h : W c (t σ) kn n fun b kn1 n1 => QB (!b) kn1 n1) : W c (tNot t σ) kn n QB :=
  fun H g Q' q => h H g _ fun b kn1 n1 H1 h1 g1 => q _ _ _ _ h1 g1

/-! ### slices -/
theorem w_noPart (q : QO none kn n) : W c (tNoPart σ) kn n QO := fun H g _ k => k _ kn n H q g
theorem w_part {t : TE} (h : W c (t σ) kn n fun x kn1 n1 => ∃ i, x = .int i ∧ QO (some i) kn1 n1) : W c (tPart t σ) kn n QO :=
  fun H g Q' q => h H g _ fun x kn1 n1 H1 h1 g1 => by
    obtain ⟨i, e, h2⟩ := h1
    exact ⟨i, e, q _ _ _ _ h2 g1⟩
theorem w_sl {r : V → Option Int → Option Int → Hp → VK → Prop} {te : TE} {tl th : TO}
    (h : W c (te σ) kn n fun x kn1 n1 => W c (tl σ) kn1 n1 fun l kn2 n2 => W c (th σ) kn2 n2 fun u kn3 n3 => W c (r x l u) kn3 n3 Q) : W c (tSl r te tl th σ) kn n Q :=
  fun H g Q' q => h H g _ fun x kn1 n1 H1 h1 g1 => h1 H1 g1 _ fun l kn2 n2 H2 h2 g2 => h2 H2 g2 _ fun u kn3 n3 H3 h3 g3 => h3 H3 g3 Q' q
theorem r_slL {p : Addr} {xs : List V} {lo hi : Option Int} (h : kn p = some (.lst xs)) (q : ∀ l, kn l = none → Q (.ref l) (upd kn l (.lst (cutV xs lo hi))) n) : W c (rSlL K (.ref p) lo hi) kn n Q :=
  fun H g _ k => ⟨p, xs, rfl, sql (g.ex _ _ h), fun l hl => k _ _ _ _ (q l (g.free hl)) (g.new hl)⟩

/-! ### fields, objects -/
theorem w_fld {ta : TE} {f : Str} (h : W c (ta σ) kn n fun x kn1 n1 => ∃ a C dx fs v, x = .ref a ∧ kn1 a = some (.ins C dx fs) ∧ Cls K C ∧ NoAttr K C f ∧ fs.lookup f = some v ∧ Q v kn1 n1) : W c (tFld K ta f σ) kn n Q :=
  fun H g Q' q => h H g _ fun x kn1 n1 H1 h1 g1 => by
    obtain ⟨a, C, dx, fs, v, e, h2, hc, hn, hl, h3⟩ := h1
    exact ⟨a, C, dx, fs, v, e, g1.ex _ _ h2, hc, hn, hl, q _ _ _ _ h3 g1⟩

/-! ### statements -/
variable {D : AE}
theorem s_next (q : D.nx σ kn n) : WS c tNext D σ kn n := fun H g D' f => f.nx σ kn n H q g
theorem s_seq {t u : TS} (h : WS c t { D with nx := fun σ1 kn1 n1 => WS c u D σ1 kn1 n1 } σ kn n) : WS c (tSeq t u) D σ kn n :=
  fun H g D' f => h H g { D' with nx := u D' } ⟨fun σ1 kn1 n1 H1 h1 g1 => h1 H1 g1 D' f, f.rt, f.bk, f.ct⟩
theorem s_ret {te : TE} (h : W c (te σ) kn n D.rt) : WS c (tRet te) D σ kn n := fun H g D' f => h H g D'.rt fun v kn1 n1 H1 h1 g1 => f.rt v kn1 n1 H1 h1 g1
theorem s_retN (h : D.rt .non kn n) : WS c tRetN D σ kn n := fun H g D' f => f.rt _ kn n H h g
theorem s_drop {te : TE} (h : W c (te σ) kn n fun _ kn1 n1 => D.nx σ kn1 n1) : WS c (tDrop te) D σ kn n := fun H g D' f => h H g _ fun v kn1 n1 H1 h1 g1 => f.nx σ kn1 n1 H1 h1 g1
theorem s_brk (h : D.bk σ kn n) : WS c tBreak D σ kn n := fun H g D' f => f.bk σ kn n H h g
theorem s_cont (h : D.ct σ kn n) : WS c tCont D σ kn n := fun H g D' f => f.ct σ kn n H h g
theorem s_if {t : TT} {u w : TS} (h : W c (t σ) kn n fun b kn1 n1 => (b = true → WS c u D σ kn1 n1) ∧ (b = false → WS c w D σ kn1 n1)) : WS c (tIfS t u w) D σ kn n :=
  fun H g D' f => h H g _ fun b kn1 n1 H1 h1 g1 => by
    cases b with
    | true => exact iteT (h1.1 rfl H1 g1 D' f)
    | false => exact iteF (h1.2 rfl H1 g1 D' f)
/-- targets -/
def WG (c : Cw) (gt : TG) (v : V) (σ : L2.St) (kn : Hp) (n : Nat) (N : L2.St → Hp → Nat → Prop) : Prop :=
  ∀ H, Good c kn n H → ∀ N' : L2.St → Hp → Prop, (∀ σ1 kn1 n1 H1, N σ1 kn1 n1 → Good c kn1 n1 H1 → N' σ1 H1) → gt v σ H N'
theorem g_name {i : Nat} {v : V} {N : L2.St → Hp → Nat → Prop} (h : N (σ.set i (some v)) kn n) : WG c (gName i) v σ kn n N := fun H g N' f => f _ kn n H h g
def WGs (c : Cw) (gt : TGs) (vs : List V) (σ : L2.St) (kn : Hp) (n : Nat) (N : L2.St → Hp → Nat → Prop) : Prop :=
  ∀ H, Good c kn n H → ∀ N' : L2.St → Hp → Prop, (∀ σ1 kn1 n1 H1, N σ1 kn1 n1 → Good c kn1 n1 H1 → N' σ1 H1) → gt vs σ H N'
theorem g_nil {N : L2.St → Hp → Nat → Prop} (h : N σ kn n) : WGs c gNil [] σ kn n N := fun H g N' f => ⟨rfl, f _ kn n H h g⟩
theorem g_cons {t : TG} {u : TGs} {v : V} {r : List V} {N : L2.St → Hp → Nat → Prop} (h : WG c t v σ kn n fun σ1 kn1 n1 => WGs c u r σ1 kn1 n1 N) : WGs c (gCons t u) (v :: r) σ kn n N :=
  fun H g N' f => ⟨v, r, rfl, h H g _ fun σ1 kn1 n1 H1 h1 g1 => h1 H1 g1 N' f⟩
theorem g_tup {k : Nat} {t : TGs} {a : Addr} {xs : List V} {N : L2.St → Hp → Nat → Prop} (h : kn a = some (.tup xs)) (hl : xs.length = k) (q : WGs c t xs σ kn n N) : WG c (gTup K k t) (.ref a) σ kn n N :=
  fun H g N' f => ⟨a, xs, rfl, sqt (g.ex _ _ h), hl, q H g N' f⟩
theorem s_asg {te : TE} {gt : TG} (h : W c (te σ) kn n fun v kn1 n1 => WG c gt v σ kn1 n1 D.nx) : WS c (tAsg te gt) D σ kn n :=
  fun H g D' f => h H g _ fun v kn1 n1 H1 h1 g1 => h1 H1 g1 D'.nx fun σ2 kn2 n2 H2 h2 g2 => f.nx σ2 kn2 n2 H2 h2 g2
theorem s_set {te : TE} {i : Nat} (h : W c (te σ) kn n fun v kn1 n1 => D.nx (σ.set i (some v)) kn1 n1) : WS c (tAsg te (gName i)) D σ kn n :=
  s_asg (h.mono fun _ _ _ q => g_name q)
theorem s_par {i j : Nat} {ta : TA} (h : W c (ta σ) kn n fun vs kn1 n1 => ∃ v w, vs = [v, w] ∧ D.nx ((σ.set i (some v)).set j (some w)) kn1 n1) : WS c (tPar i j ta) D σ kn n :=
  fun H g D' f => h H g _ fun vs kn1 n1 H1 h1 g1 => by
    obtain ⟨v, w, e, h2⟩ := h1
    exact ⟨v, w, e, f.nx _ _ _ _ h2 g1⟩
theorem g_set {to ti : TE} {v : V} {N : L2.St → Hp → Nat → Prop}
    (h : W c (to σ) kn n fun o kn1 n1 => W c (ti σ) kn1 n1 fun i kn2 n2 => ∃ p xs k j, o = .ref p ∧ i = .int k ∧ kn2 p = some (.lst xs) ∧ ixN xs.length k = some j ∧ N σ (upd kn2 p (.lst (xs.set j v))) n2) : WG c (gSub to ti rSetL) v σ kn n N :=
  fun H g N' f => h H g _ fun o kn1 n1 H1 h1 g1 => h1 H1 g1 _ fun i kn2 n2 H2 h2 g2 => by
    obtain ⟨p, xs, k, j, e1, e2, e3, e4, h3⟩ := h2
    exact ⟨p, xs, k, j, e1, e2, g2.ex _ _ e3, e4, f _ _ _ _ h3 (g2.put e3 rfl)⟩

/-! ### loops -/
theorem s_forR1 {ta : TA} {gt : TG} {tb : TS} {j : Int} (Pv : Nat → L2.St → Hp → Nat → Prop)
    (h : W c (ta σ) kn n fun vs kn1 n1 => vs = [.int j] ∧ -(2 ^ 62) ≤ j ∧ j < 2 ^ 62 ∧ Pv 0 σ kn1 n1)
    (hs : ∀ i σ' kn' n', i < j.toNat → Pv i σ' kn' n' → WG c gt (.int (i : Int)) σ' kn' n' fun σ2 kn2 n2 => WS c tb { D with nx := Pv (i + 1), ct := Pv (i + 1), bk := D.nx } σ2 kn2 n2)
    (hd : ∀ σ' kn' n', Pv j.toNat σ' kn' n' → D.nx σ' kn' n') : WS c (tFor (iRng1 ta) gt tb) D σ kn n :=
  fun H g D' f => h H g _ fun vs kn1 n1 H1 h1 g1 => by
    obtain ⟨e, b1, b2, h2⟩ := h1
    refine ⟨j, e, b1, b2, for_range (lo := 0) (n := j.toNat) (fun i σ' H' => ∃ kn' n', Pv i σ' kn' n' ∧ Good c kn' n' H') ⟨kn1, n1, h2, g1⟩ (fun i σ' H' hi p => ?_) (fun σ' H' p => ?_)⟩
    · obtain ⟨kn', n', p, g'⟩ := p
      have e0 : (0 : Int) + (i : Int) = (i : Int) := Int.zero_add _
      rw [e0]
      refine hs i σ' kn' n' hi p H' g' _ fun σ2 kn2 n2 H2 h2 g2 => h2 H2 g2 _ ⟨fun σ3 kn3 n3 H3 h3 g3 => ⟨kn3, n3, h3, g3⟩, f.rt, fun σ3 kn3 n3 H3 h3 g3 => f.nx _ _ _ _ h3 g3, fun σ3 kn3 n3 H3 h3 g3 => ⟨kn3, n3, h3, g3⟩⟩
    · obtain ⟨kn', n', p, g'⟩ := p
      exact f.nx _ _ _ _ (hd σ' kn' n' p) g'
end
end AW

namespace AW
open PySem PySem.Spec PyProof.Rows L2 LamX

/-! ### contexts: a def without a pen -/
/-- all that the caller had, but what kn0 knows and may change -/
def pureC (kn0 H0 : Hp) : Cw where
  inv _ H := Kept kn0 H0 H
  res x := H0 x ≠ none ∧ kn0 x = none
  live n H x k r := by
    obtain ⟨r1, r2⟩ := r
    cases e : H0 x with
    | none => exact absurd e r1
    | some o =>
      rw [k x o e (.inl r2)]
      exact fun z => nomatch z
  step n kn H H' k r s := fun x o e h => by
    refine s x o (k x o e h) ?_
    rcases h with h | h
    · exact .inl (r x ⟨(by rw [e]; exact fun z => nomatch z), h⟩)
    · exact .inr h
  up _ _ _ h _ := h
theorem pure_start {kn H : Hp} (h : Ext kn H) (t : ∀ x o, kn x = some o → isTbl o = false) : Good (pureC kn H) kn 0 H := ⟨h, Kept.refl, fun _ r => r.2, t⟩
theorem pure_any {kn0 H0 kn H : Hp} {n m : Nat} (g : Good (pureC kn0 H0) kn n H) : Good (pureC kn0 H0) kn m H := ⟨g.ex, g.inv, g.res, g.nt⟩
/-- a state of the callee is one of the caller -/
theorem Good.back {c : Cw} {kn kn' H H' : Hp} {n m : Nat} (g : Good c kn n H) (h : Good (pureC kn H) kn' m H') : Good c kn' n H' :=
  ⟨h.ex, c.step n kn H H' g.inv g.res h.inv, fun x r => h.res x ⟨c.live n H x g.inv r, g.res x r⟩, h.nt⟩

theorem both_t {A B : Prop} (h : A) : (true = true → A) ∧ (true = false → B) := ⟨fun _ => h, fun z => Bool.noConfusion z⟩
theorem both_f {A B : Prop} (h : B) : (false = true → A) ∧ (false = false → B) := ⟨fun z => Bool.noConfusion z, fun _ => h⟩
abbrev AK := V → Hp → Prop
abbrev AXK := Value → Option Addr → Hp → Prop
/-- a promise told of what is known -/
def liftX (B : List V → Hp → AK → AXK → Prop) : Sp := fun vs H Q E => ∃ kn, Ext kn H ∧ (∀ x o, kn x = some o → isTbl o = false) ∧ B vs kn (fun v kn' => ∀ n' H', Good (pureC kn H) kn' n' H' → Q v H') (fun cls d kn' => ∀ n' H', Good (pureC kn H) kn' n' H' → E cls d H')
def MonoX (B : List V → Hp → AK → AXK → Prop) : Prop := ∀ vs kn Q R E F, (∀ v k, Q v k → R v k) → (∀ cls d k, E cls d k → F cls d k) → B vs kn Q E → B vs kn R F
abbrev noX (B : List V → Hp → AK → Prop) : List V → Hp → AK → AXK → Prop := fun vs kn Q _ => B vs kn Q
section
variable {c : Cw} {kn : Hp} {n : Nat} {σ : L2.St} {Q : V → Hp → Nat → Prop} {K : PySem.W.Frag}
theorem sp_call {B : List V → Hp → AK → AXK → Prop} {vs : List V} {E : XK} {EA : Value → Option Addr → Hp → Nat → Prop} (hm : MonoX B)
    (hE : ∀ cls d kn' n' H', EA cls d kn' n' → Good c kn' n' H' → E cls d H') (h : B vs kn (fun v k => Q v k n) (fun cls d k => EA cls d k n)) : W c (fun H Q' => liftX B vs H Q' E) kn n Q :=
  fun H g Q' q => ⟨kn, g.ex, g.nt, hm vs kn _ _ _ _ (fun v k hq n' H' g' => q v k n H' hq (g.back g')) (fun cls d k he n' H' g' => hE cls d k n H' he (g.back g')) h⟩
theorem w_callX {B : List V → Hp → AK → AXK → Prop} {dvs : List V} {E : XK} {t : TA} {EA : Value → Option Addr → Hp → Nat → Prop} (hm : MonoX B)
    (hE : ∀ cls d kn' n' H', EA cls d kn' n' → Good c kn' n' H' → E cls d H') (h : W c (t σ) kn n fun vs kn1 n1 => B (vs ++ dvs) kn1 (fun v k => Q v k n1) (fun cls d k => EA cls d k n1)) : W c (tCall (liftX B) dvs E t σ) kn n Q :=
  fun H g Q' q => h H g _ fun vs kn1 n1 H1 h1 g1 => sp_call hm hE h1 H1 g1 Q' q
theorem w_call0 {B : List V → Hp → AK → AXK → Prop} {dvs : List V} {E : XK} {t : TA} (hm : MonoX B)
    (h : W c (t σ) kn n fun vs kn1 n1 => B (vs ++ dvs) kn1 (fun v k => Q v k n1) (fun _ _ _ => False)) : W c (tCall (liftX B) dvs E t σ) kn n Q :=
  w_callX (EA := fun _ _ _ _ => False) hm (fun _ _ _ _ _ h => h.elim) h
/-- the ends of a def's body -/
abbrev bodyE (c : Cw) (Q : VK) : AE := { nx := fun _ kn n => ∀ H', Good c kn n H' → Q .non H', rt := fun v kn n => ∀ H', Good c kn n H' → Q v H' }
theorem fits_body {c : Cw} {Q : VK} : Fits c (bodyE c Q) { nx := fun _ H' => Q .non H', rt := Q } :=
  ⟨fun σ kn n H h g => h H g, fun v kn n H h g => h H g, fun _ _ _ _ h _ => h.elim, fun _ _ _ _ h _ => h.elim⟩
theorem body_of {c : Cw} {t : TS} {Q : VK} {H : Hp} (g : Good c kn n H) (h : WS c t (bodyE c Q) σ kn n) : t { nx := fun _ H' => Q .non H', rt := Q } σ H := h H g _ fits_body
theorem s_mono {D D' : AE} {t : TS} (h : WS c t D σ kn n) (e1 : ∀ σ kn n, D.nx σ kn n → D'.nx σ kn n) (e2 : ∀ v kn n, D.rt v kn n → D'.rt v kn n) (e3 : ∀ σ kn n, D.bk σ kn n → D'.bk σ kn n) (e4 : ∀ σ kn n, D.ct σ kn n → D'.ct σ kn n) : WS c t D' σ kn n :=
  fun H g D2 f => h H g D2 ⟨fun σ kn n H h g => f.nx σ kn n H (e1 _ _ _ h) g, fun v kn n H h g => f.rt v kn n H (e2 _ _ _ h) g, fun σ kn n H h g => f.bk σ kn n H (e3 _ _ _ h) g, fun σ kn n H h g => f.ct σ kn n H (e4 _ _ _ h) g⟩
/-- the ways of a statement are joined -/
theorem s_join {D : AE} {t : TS} (J : L2.St → Hp → Nat → Prop) (h : WS c t { D with nx := J } σ kn n) (k : ∀ σ' kn' n', J σ' kn' n' → D.nx σ' kn' n') : WS c t D σ kn n :=
  s_mono h k (fun _ _ _ h => h) (fun _ _ _ h => h) (fun _ _ _ h => h)
theorem s_seqJ {D : AE} {t u : TS} (J : L2.St → Hp → Nat → Prop) (h : WS c t { D with nx := J } σ kn n) (k : ∀ σ' kn' n', J σ' kn' n' → WS c u D σ' kn' n') : WS c (tSeq t u) D σ kn n :=
  s_seq (s_join J h k)

/-! ### built-ins by names of their own -/
def rInt1 : List V → Hp → VK → Prop := fun xs H Q => (∃ i, xs = [.int i] ∧ Q (.int i) H) ∨ ∃ k, xs = [.bl k] ∧ Q (.int (if k then 1 else 0)) H
theorem c_int {X : Cx} : CallR X (.type "int") rInt1 := call_int1
theorem r_int1 {i : Int} (q : Q (.int i) kn n) : W c (rInt1 [.int i]) kn n Q := fun H g _ k => .inl ⟨i, rfl, k _ kn n H q g⟩
theorem r_int1b {b : Bool} (q : Q (.int (if b then 1 else 0)) kn n) : W c (rInt1 [.bl b]) kn n Q := fun H g _ k => .inr ⟨b, rfl, k _ kn n H q g⟩
def rAbs : List V → Hp → VK → Prop := fun xs H Q => ∃ i, xs = [.int i] ∧ Q (.int (if i < 0 then -i else i)) H
theorem c_abs {X : Cx} : CallR X (.builtin "abs") rAbs := call_abs
theorem r_abs {i : Int} (q : Q (.int (if i < 0 then -i else i)) kn n) : W c (rAbs [.int i]) kn n Q := fun H g _ k => ⟨i, rfl, k _ kn n H q g⟩
def rLenQ (K : PySem.W.Frag) : List V → Hp → VK → Prop := fun xs H Q => ∃ p ys, xs = [.ref p] ∧ (SqL K H p ys ∨ SqT K H p ys) ∧ Q (.int ys.length) H
theorem c_len {X : Cx} : CallR X (.builtin "len") (rLenQ X.K) := call_len_seq
theorem r_lenL {p : Addr} {xs : List V} (h : kn p = some (.lst xs)) (q : Q (.int xs.length) kn n) : W c (rLenQ K [.ref p]) kn n Q := fun H g _ k => ⟨p, xs, rfl, .inl (sql (g.ex _ _ h)), k _ kn n H q g⟩
theorem r_lenT {p : Addr} {xs : List V} (h : kn p = some (.tup xs)) (q : Q (.int xs.length) kn n) : W c (rLenQ K [.ref p]) kn n Q := fun H g _ k => ⟨p, xs, rfl, .inr (sqt (g.ex _ _ h)), k _ kn n H q g⟩
def rListQ (K : PySem.W.Frag) : List V → Hp → VK → Prop := fun xs H Q => ∃ p ys, xs = [.ref p] ∧ (SqL K H p ys ∨ SqT K H p ys) ∧ ∀ l, H l = none → Q (.ref l) (upd H l (.lst ys))
theorem c_list {X : Cx} : CallR X (.type "list") (rListQ X.K) := call_list_of
theorem r_listL {p : Addr} {xs : List V} (h : kn p = some (.lst xs)) (q : ∀ l, kn l = none → Q (.ref l) (upd kn l (.lst xs)) n) : W c (rListQ K [.ref p]) kn n Q := fun H g _ k => ⟨p, xs, rfl, .inl (sql (g.ex _ _ h)), fun l hl => k _ _ _ _ (q l (g.free hl)) (g.new hl)⟩
def rStrI : List V → Hp → VK → Prop := fun xs H Q => ∃ i, xs = [.int i] ∧ i.natAbs.log2 < 1920 ∧ Q (.str (toString i)) H
theorem c_strI {X : Cx} : CallR X (.type "str") rStrI := call_str_int
theorem r_strI {i : Int} (h : i.natAbs.log2 < 1920) (q : Q (.str (toString i)) kn n) : W c (rStrI [.int i]) kn n Q := fun H g _ k => ⟨i, rfl, h, k _ kn n H q g⟩

/-! ### == of data -/
theorem r_eqD {x y : V} {d e : PyData} (hx : Dp K kn x d) (hy : Dp K kn y e) (sx : SeqAt.shaped d = true) (sy : SeqAt.shaped e = true) (hmono : ∀ H v d, Ext kn H → Dp K kn v d → Dp K H v d) (q : Q (.bl (PyData.eqv d e)) kn n) : W c (rEqD K x y) kn n Q :=
  fun H g _ k => ⟨d, e, hmono H x d g.ex hx, hmono H y e g.ex hy, sx, sy, k _ kn n H q g⟩
mutual
theorem Dp.ext {H H' : Hp} (e : Ext H H') : ∀ (d : PyData) (v : V), Dp K H v d → Dp K H' v d
  | .none, _, h => by cases h; exact .non
  | .bool b, _, h => by cases h; exact .bl b
  | .int i, _, h => by cases h; exact .int i
  | .str x, _, h => by cases h; exact .str x
  | .list ds, _, h => by
    cases h with
    | lst hs ha => exact .lst (hs.ext e) (Dp.extAll e ds _ ha)
  | .tuple ds, _, h => by
    cases h with
    | tup hs ha => exact .tup (hs.ext e) (Dp.extAll e ds _ ha)
  | .dict _, _, h => by cases h
theorem Dp.extAll {H H' : Hp} (e : Ext H H') : ∀ (ds : List PyData) (vs : List V), DpAll K H vs ds → DpAll K H' vs ds
  | [], _, h => by cases h; exact .nil
  | d :: ds, _, h => by
    cases h with
    | cons h1 h2 => exact .cons (Dp.ext e d _ h1) (Dp.extAll e ds _ h2)
end
theorem r_eq_d {x y : V} {d e : PyData} (hx : Dp K kn x d) (hy : Dp K kn y e) (sx : SeqAt.shaped d = true) (sy : SeqAt.shaped e = true) (q : Q (.bl (PyData.eqv d e)) kn n) : W c (rEqD K x y) kn n Q :=
  r_eqD hx hy sx sy (fun H v d e h => Dp.ext e d v h) q
theorem r_ne_d {x y : V} {d e : PyData} (hx : Dp K kn x d) (hy : Dp K kn y e) (sx : SeqAt.shaped d = true) (sy : SeqAt.shaped e = true) (q : Q (.bl (!PyData.eqv d e)) kn n) : W c (rNeD K x y) kn n Q :=
  fun H g _ k => ⟨d, e, Dp.ext g.ex d x hx, Dp.ext g.ex e y hy, sx, sy, k _ kn n H q g⟩
end
end AW

/-! Operators of own classes. -/
namespace OX
open PySem PySem.W PySem.Calls PyProof.Rows Builtin
section
variable {prog : Program} {w : World} {A : Around} {E : Value → Shared → Prop} {s : Shared} {K : Frag} {x C f : Addr} {ox : Obj} {od : Option Obj} {b : Value}

theorem numSlot_own {M : Model} {h : Heap} {nm : String} (X : K.In h) (hs : findIn K (.ref C) (PySem.dunder nm) = some (some (.ref f))) (hr : findIn K (.ref C) (dunderR nm) = some none) :
    Looks M h (numberSlotInPython (.ref C) nm) true := by
  intro A Q E s k q
  unfold numberSlotInPython
  dsimp only
  refine wpAny_bind (looks_findIn X hs A _ E s k ?_)
  show wpAny M A (pure true >>= _) _ _ _
  refine wpAny_bind (wpAny_pure ?_)
  refine wpAny_bind (looks_findIn X hr A _ E s k ?_)
  show wpAny M A (pure false >>= _) _ _ _
  refine wpAny_bind (wpAny_pure ?_)
  simp only [Bool.or_false, if_true]
  exact wpAny_pure q
/-- an operator of an own class, the other operand of a built-in type -/
theorem binop1_T {nm T : String} {r : Bool} {o : Option Value} {Q : Value → Shared → Prop} (X : K.In s.heap) (I : InstAt s.heap x ox C od) (hb : Looks (model prog w) s.heap (typeOf b) (.type T)) (hc : selfFirst K C = true)
    (hs : findIn K (.ref C) (PySem.dunder nm) = some (some (.ref f))) (hf : isFn K (.ref f) = true) (hr : findIn K (.ref C) (dunderR nm) = some none) (fill : fillsNumberSlot (.type T) nm = pure r)
    (sub : subIn K (.type T) (.ref C) = some false) (hT : typeLookup (.type T) (dunderR nm) = pure o)
    (h : wpAny (model prog w) A (call (.ref f) [.ref x, b]) (PySem.W.CmpBack Q) E s) : wpAny (model prog w) A (binaryOp1 nm (.ref x) b) (fun r s' => ∃ v, r = some v ∧ Q v s') E s := by
  obtain ⟨cd, hcd, hm⟩ := any_some hc
  obtain ⟨rest, hm⟩ : ∃ rest, cd.mro = .ref C :: rest := by
    cases q : cd.mro with
    | nil => rw [q] at hm; cases hm
    | cons a r => rw [q] at hm; exact ⟨r, by rw [List.head?_cons] at hm; cases (beq_iff_eq.mp hm); rfl⟩
  have ne : ((Value.ref C) == (Value.type T)) = false := beq_eq_false_iff_ne.mpr (fun z => nomatch z)
  have last : ∀ {α : Type} (k : Option Value → Sem α) (P : α → Shared → Prop), (∀ v s', PySem.W.CmpBack Q v s' → wpAny (model prog w) A (k (some v)) P E s') → wpAny (model prog w) A (tryMethod (.ref x) (PySem.dunder nm) b >>= k) P E s := fun k P hk => by
    refine wpAny_bind ?_
    unfold tryMethod
    refine wpAny_bind (special_fn X I hs (beq_iff_eq.mp hf) (wpAny_mono h (fun v s' hv => ?_) fun _ _ e => e))
    cases v <;> first | exact hv.elim | exact wpAny_pure (hk _ _ hv)
  unfold binaryOp1
  refine wpAny_bind (I.type.here (wpAny_bind (hb.here (wpAny_bind ((fills_K X hcd hm hs).here ?_)))))
  rw [ne]
  simp only [Bool.false_eq_true, if_false]
  refine wpAny_bind (wpAny_of_eq fill ?_)
  cases r with
  | false =>
    simp only [Bool.and_false, Bool.false_eq_true, if_false, Bool.false_and]
    refine wpAny_bind (wpAny_pure ?_)
    simp only [Bool.false_eq_true, if_false, if_true]
    refine last _ _ fun v s' hv => ?_
    cases v <;> first | exact hv.elim | exact wpAny_pure ⟨_, rfl, hv⟩
  | true =>
    simp only [Bool.and_true, if_true]
    refine wpAny_bind ((looks_subIn X sub).here ?_)
    simp only [Bool.false_eq_true, if_false, Bool.not_false, Bool.and_true, if_true]
    refine wpAny_bind ((numSlot_own X hs hr).here ?_)
    simp only [if_true]
    refine wpAny_bind (wpAny_of_eq (show numberSlotInPython (.type T) nm = pure false from rfl) ?_)
    simp only [Bool.not_false, if_true]
    refine wpAny_bind (wpAny_of_eq hT ?_)
    refine last _ _ fun v s' hv => ?_
    cases v <;> first | exact hv.elim | exact wpAny_pure ⟨_, rfl, hv⟩
/-- .. the other operand of the same class -/
theorem binop1_C {nm : String} {Q : Value → Shared → Prop} (X : K.In s.heap) (I : InstAt s.heap x ox C od) (hb : Looks (model prog w) s.heap (typeOf b) (.ref C)) (hc : selfFirst K C = true)
    (hs : findIn K (.ref C) (PySem.dunder nm) = some (some (.ref f))) (hf : isFn K (.ref f) = true)
    (h : wpAny (model prog w) A (call (.ref f) [.ref x, b]) (PySem.W.CmpBack Q) E s) : wpAny (model prog w) A (binaryOp1 nm (.ref x) b) (fun r s' => ∃ v, r = some v ∧ Q v s') E s := by
  obtain ⟨cd, hcd, hm⟩ := any_some hc
  obtain ⟨rest, hm⟩ : ∃ rest, cd.mro = .ref C :: rest := by
    cases q : cd.mro with
    | nil => rw [q] at hm; cases hm
    | cons a r => rw [q] at hm; exact ⟨r, by rw [List.head?_cons] at hm; cases (beq_iff_eq.mp hm); rfl⟩
  unfold binaryOp1
  refine wpAny_bind (I.type.here (wpAny_bind (hb.here (wpAny_bind ((fills_K X hcd hm hs).here ?_)))))
  simp only [beq_self_eq_true, if_true]
  refine wpAny_bind (wpAny_pure ?_)
  simp only [Bool.and_false, Bool.false_eq_true, if_false, Bool.false_and]
  refine wpAny_bind (wpAny_pure ?_)
  simp only [Bool.false_eq_true, if_false]
  refine wpAny_bind (m := tryMethod (.ref x) _ b) ?_
  unfold tryMethod
  refine wpAny_bind (special_fn X I hs (beq_iff_eq.mp hf) (wpAny_mono h (fun v s' hv => ?_) fun _ _ e => e))
  cases v <;> first | exact hv.elim | exact wpAny_pure (wpAny_pure ⟨_, rfl, hv⟩)
theorem binop_of {op : Operator} {a : Value} {Q : Value → Shared → Prop} (h : wpAny (model prog w) A (binaryOp1 op.info.2 a b) (fun r s' => ∃ v, r = some v ∧ Q v s') E s) : wpAny (model prog w) A (binaryOp op a b) Q E s := by
  unfold binaryOp
  refine wpAny_holding (wpAny_bind (wpAny_mono h (fun r s' z => ?_) fun _ _ z => z))
  obtain ⟨v, rfl, q⟩ := z
  exact wpAny_pure q
theorem inplace_of {op : Operator} {Q : Value → Shared → Prop} (I : InstAt s.heap x ox C od) (hno : Looks (model prog w) s.heap (fillsInplaceSlot (.ref C) op.info.2 (op == .Add)) false)
    (h : wpAny (model prog w) A (binaryOp1 op.info.2 (.ref x) b) (fun r s' => ∃ v, r = some v ∧ Q v s') E s) : wpAny (model prog w) A (inplaceOp op (.ref x) b) Q E s := by
  unfold inplaceOp
  refine wpAny_holding (wpAny_bind (I.type.here (wpAny_bind (hno.here ?_))))
  simp only [Bool.false_eq_true, if_false]
  refine wpAny_bind (wpAny_mono h (fun r s' z => ?_) fun _ _ z => z)
  obtain ⟨v, rfl, q⟩ := z
  exact wpAny_pure q
/-- a class with no other own class above it has no slot in place -/
theorem noInplace {M : Model} {h : Heap} {nm : String} {add : Bool} {cd : ClassData} (X : K.In h) (hc : clsIn K C = some cd) (hm : cd.mro = [.ref C, .type "object"]) (hi : findIn K (.ref C) (dunderI nm) = some none)
    (ho : typeLookup (.type "object") (dunderI nm) = pure none) : Looks M h (fillsInplaceSlot (.ref C) nm add) false := by
  intro A Q E s k q
  unfold fillsInplaceSlot
  dsimp only
  refine wpAny_bind ((looks_clsIn X hc).andThen (f := fun cd => pure cd.mro) .now A _ E s k ?_)
  rw [hm, List.anyM_cons]
  refine wpAny_bind (wpAny_bind (looks_findIn X hi A _ E s k ?_))
  dsimp only
  refine wpAny_pure ?_
  simp only [Bool.false_eq_true, if_false]
  rw [List.anyM_cons, ho]
  refine wpAny_bind (wpAny_bind (wpAny_pure ?_))
  dsimp only
  refine wpAny_pure ?_
  simp only [Bool.false_eq_true, if_false, List.anyM_nil]
  exact wpAny_pure q

/-! ### != by an own == -/
theorem ifBound_bi {M : Model} {id : String} {name : Str} {args : List Value} {Q : Option Value → Shared → Prop} (X : K.In s.heap) (I : InstAt s.heap x ox C od) (hs : findIn K (.ref C) name = some (some (.builtin id)))
    (hbd : bindSpecial (.builtin id) (.ref x) = pure (.builtin id, [.ref x])) (h : wpAny M A (call (.builtin id) (.ref x :: args)) (fun v => Q (some v)) E s) : wpAny M A (callSpecialIfBound? (.ref x) name args) Q E s := by
  simp only [callSpecialIfBound?, bindSpecialIfBound?]
  refine wpAny_holding (wpAny_bind (wpAny_bind (wpAny_bind (I.type.here ((looks_findIn X hs).here ?_)))))
  refine wpAny_bind (wpAny_askSetting (wpAny_ite ?_))
  have fin : wpAny M A (call (.builtin id) ([.ref x] ++ args) >>= fun v => pure (some v)) Q E s := wpAny_bind (wpAny_mono h (fun v s' h' => wpAny_pure h') fun _ _ h' => h')
  rw [hbd]
  split
  · exact wpAny_bind (wpAny_pure (wpAny_pure (by exact fin)))
  · exact wpAny_tryCatch (wpAny_bind (wpAny_pure (wpAny_pure (by exact fin))))
/-- x != b, __eq__ the text's own, __ne__ object's -/
theorem ne_own {tb : Value} {Q : Value → Shared → Prop} (hu : A.units + 1 < cLine) (X : K.In s.heap) (I : InstAt s.heap x ox C od) (hb : Looks (model prog w) s.heap (typeOf b) tb) (hn : notFirst K C tb = true)
    (hs : findIn K (.ref C) "__eq__" = some (some (.ref f))) (hf : isFn K (.ref f) = true) (hne : findIn K (.ref C) "__ne__" = some (some (.builtin "object.__ne__"))) (hm : mroIn K C (.type "object") = some true)
    (h : wpAny (model prog w) A.in1 (call (.ref f) [.ref x, b]) (fun v s' => ∃ k, v = .bool k ∧ Q (.bool (!k)) s') E s) : wpAny (model prog w) A (richCompare .NotEq (.ref x) b) Q E s := by
  have hu0 : A.units < cLine := Nat.lt_of_succ_lt hu
  have sub : Looks (model prog w) s.heap (isInstance (.ref x) (.type "object")) true := I.type.andThen (looks_mroIn X hm)
  have one : wpAny (model prog w) A (tryCompare (.ref x) "__ne__" b) (fun r s' => ∃ k, r = some (.bool k) ∧ Q (.bool k) s') E s := by
    unfold tryCompare
    refine wpAny_bind (ifBound_bi X I hne (F.cmp_object.ne.bind (.ref x)) (wpAny_call (codeAny_call_builtin F.cmp_object.ne.plain F.cmpEntry_ne (W.check_slot F.cmpKind_ne F.cmpSplit_ne sub (F.cmpArgs_ne _ _) ?_))))
    unfold Builtin.«object.__ne__»
    refine wpAny_bind (wpAny_of_eq (a := ((Value.ref x : Value), [b])) (by first | rfl | (simp only [slotArgs]; rfl)) ?_)
    dsimp only
    refine wpAny_bind (wpAny_cRoomFor (show A.in1.units < cLine from hu) ?_)
    refine wpAny_bind (ifBound_K X I hs hf (wpAny_mono h (fun v s' hv => ?_) fun _ _ e => e))
    obtain ⟨k, rfl, hq⟩ := hv
    dsimp only
    refine wpAny_bind (wpAny_truthy_bool ?_)
    exact wpAny_pure (wpAny_pure ⟨_, rfl, hq⟩)
  unfold richCompare
  simp only [oneThing_ref]
  refine wpAny_holding (wpAny_bind (wpAny_cRoomFor hu0 ?_))
  refine wpAny_bind (I.type.here (wpAny_bind (hb.here ?_)))
  split
  · rename_i q
    have e : subIn K tb (.ref C) = some false := by
      rcases Bool.or_eq_true_iff.mp hn with e | e
      · rw [beq_iff_eq.mp e] at q; simp at q
      · exact beq_iff_eq.mp e
    refine wpAny_bind ((looks_subIn X e).here ?_)
    simp only [Bool.false_eq_true, if_false]
    refine wpAny_bind (wpAny_mono one (fun r s' z => ?_) fun _ _ e => e)
    obtain ⟨v, rfl, hq⟩ := z
    exact wpAny_pure hq
  · refine wpAny_bind (wpAny_pure ?_)
    simp only [Bool.false_eq_true, if_false]
    refine wpAny_bind (wpAny_mono one (fun r s' z => ?_) fun _ _ e => e)
    obtain ⟨v, rfl, hq⟩ := z
    exact wpAny_pure hq
end
end OX

/-! Own operators as rules over the abstract heap. -/
namespace L2
open PySem PySem.Spec PyProof.Rows
section
variable {X : Cx} {CX : CXT} {k : Nat} {f C : Addr} {fd : FuncData} {ps : List Str} {sp : Sp} {E : XK}
theorem callA {A : Around} {pins : List (Addr × Obj)} {σ : St} {H : Hp} {s : Shared} {Q : VK} {us : List Value} {vs : List V} (F : FnOk X.prog X.w X.K X.mg X.base CX k f fd ps sp) (hr : Room k A) (hfr : A.frames = X.A.frames)
    (hb : Binds X.K fd ps []) (hx : Passes CX X E) (I : Inv X pins σ H s) (r : Vals vs us) (h : sp vs H Q E) : wpAny (model X.prog X.w) A (call (.ref f) us) (EP X pins σ Q) X.xe s := by
  have hl : us.length = ps.length := by rw [← r.length]; exact F.len _ _ _ _ h
  have e0 : Env0 X.prog X.w X.K X.mg X.base A X.stack s H := by
    have e := I.env0
    exact ⟨by rw [hfr]; exact e.frames, e.mod, e.bs, e.bsz, e.funs, e.frf, e.hok, e.bare⟩
  refine wpAny_call (codeAny_mono (F.run A X.stack s H ⟨us, []⟩ us vs Q E hr e0 (by have := hb s us I.kIn (by simpa using hl); simpa using this) r h) fun r s' hq => ?_)
  cases r with
  | error e => exact hx pins σ H s e s' I hq
  | ok fl =>
    cases fl with
    | ret u => exact I.after hq
    | next => exact False.elim hq
    | brk => exact False.elim hq
    | cont => exact False.elim hq
theorem relV_ni {v : V} {u : Value} (r : RelV v u) {P : Value → Shared → Prop} {s : Shared} (h : P u s) : PySem.W.CmpBack P u s := by
  cases v with
  | non => cases (show u = Value.none from r); exact h
  | bl b => cases (show u = Value.bool b from r); exact h
  | int i => obtain ⟨t, e⟩ := (show ∃ t, u = Value.int i t from r); subst e; exact h
  | str x => obtain ⟨t, e⟩ := (show ∃ t, u = Value.str x t from r); subst e; exact h
  | byt x => obtain ⟨t, e⟩ := (show ∃ t, u = Value.bytes x t from r); subst e; exact h
  | flt x => obtain ⟨t, e⟩ := (show ∃ t, u = Value.float x t from r); subst e; exact h
  | ref a => cases (show u = Value.ref a from r); exact h
  | ty n => cases (show u = Value.type n from r); exact h

/-- what the written part says of an own class -/
structure OwnC (K : PySem.W.Frag) (C : Addr) : Prop where
  cl : Cls K C
  ha : PySem.W.findIn K (.ref C) "__class__" = some (some (.builtin "object.__class__"))
  hn : PySem.W.specialIn K (.builtin "object.__class__") "__get__" = some (some (.builtin "getset_descriptor.__get__"))
  htk : PySem.W.takesIn K (.builtin "object.__class__") = some true
  hm : PySem.W.mroIn K C (.type "object") = some true
theorem OwnC.ty {K : PySem.W.Frag} (c : OwnC K C) {H : Hp} {a dx : Addr} {fs : List (Str × V)} (e : H a = some (.ins C dx fs)) : TyX K H (.ref a) (.ref C) := .base (.ins e c.cl c.ha c.hn c.htk c.hm)
/-- an operator of the text's own for a left operand of the class at C -/
structure OpM (K : PySem.W.Frag) (op : Operator) (C f : Addr) : Prop where
  self : PySem.W.selfFirst K C = true
  hs : PySem.W.findIn K (.ref C) (PySem.dunder op.info.2) = some (some (.ref f))
  hf : PySem.W.isFn K (.ref f) = true
  hr : PySem.W.findIn K (.ref C) (dunderR op.info.2) = some none
/-- the right operand's type -/
inductive OpT (K : PySem.W.Frag) (op : Operator) (C : Addr) : Value → Prop where
  | own : OpT K op C (.ref C)
  | ty {T : String} {r : Bool} {o : Option Value} (fill : fillsNumberSlot (.type T) op.info.2 = pure r) (sub : PySem.W.subIn K (.type T) (.ref C) = some false) (hT : typeLookup (.type T) (dunderR op.info.2) = pure o) : OpT K op C (.type T)
def rOwn (K : PySem.W.Frag) (op : Operator) (C : Addr) (sp : Sp) (E : XK) : R2 := fun x y H Q => ∃ a dx fs t, x = .ref a ∧ H a = some (.ins C dx fs) ∧ TyX K H y t ∧ OpT K op C t ∧ sp [.ref a, y] H Q E
theorem typeOf_of {pins : List (Addr × Obj)} {σ : St} {H : Hp} {s : Shared} {y : V} {u t : Value} (I : Inv X pins σ H s) (ry : RelV y u) (ty : TyX X.K H y t) : PySem.W.Looks (model X.prog X.w) s.heap (typeOf u) t := by
  obtain ⟨P, Z, p, _⟩ := kit_of I ry ty
  exact Z.ty _ _ I.kIn p
theorem op_own {op : Operator} (M : OpM X.K op C f) (F : FnOk X.prog X.w X.K X.mg X.base CX k f fd ps sp) (hr : Room k X.A) (hb : Binds X.K fd ps []) (hx : Passes CX X E) : OpR X (binaryOp op) (rOwn X.K op C sp E) := by
  intro pins s σ H x y v u Q I rx ry h
  obtain ⟨a, dx, fs, t, rfl, ha, ty, ot, hq⟩ := h
  cases rx
  obtain ⟨mA, J, _⟩ := ins_get I.hok ha
  obtain ⟨od, J, _⟩ := J.look
  have hbt := typeOf_of I ry ty
  have hc : wpAny (model X.prog X.w) X.A (call (.ref f) [.ref a, u]) (PySem.W.CmpBack (EP X pins σ Q)) X.xe s :=
    wpAny_mono (callA (vs := [.ref a, y]) F hr rfl hb hx I (.cons rfl (.cons ry .nil)) hq) (fun z s' hz => by
      obtain ⟨v', H', I', rv, q⟩ := id hz
      exact relV_ni rv hz) fun _ _ z => z
  refine OX.binop_of ?_
  cases ot with
  | own => exact OX.binop1_C I.kIn J hbt M.self M.hs M.hf hc
  | ty fill sub hT => exact OX.binop1_T I.kIn J hbt M.self M.hs M.hf M.hr fill sub hT hc
/-- no method of the class works in place -/
structure NoIp (K : PySem.W.Frag) (op : Operator) (C : Addr) : Prop where
  cd : ∃ cd, PySem.W.clsIn K C = some cd ∧ cd.mro = [.ref C, .type "object"]
  hi : PySem.W.findIn K (.ref C) (dunderI op.info.2) = some none
  ho : typeLookup (.type "object") (dunderI op.info.2) = pure none
theorem ip_own {op : Operator} (M : OpM X.K op C f) (N : NoIp X.K op C) (F : FnOk X.prog X.w X.K X.mg X.base CX k f fd ps sp) (hr : Room k X.A) (hb : Binds X.K fd ps []) (hx : Passes CX X E) : PIp X op (rOwn X.K op C sp E) := by
  intro pins s σ H x y v u Q I rx ry h
  obtain ⟨a, dx, fs, t, rfl, ha, ty, ot, hq⟩ := h
  cases rx
  obtain ⟨mA, J, _⟩ := ins_get I.hok ha
  obtain ⟨od, J, _⟩ := J.look
  have hbt := typeOf_of I ry ty
  have hc : wpAny (model X.prog X.w) X.A (call (.ref f) [.ref a, u]) (PySem.W.CmpBack (EP X pins σ Q)) X.xe s :=
    wpAny_mono (callA (vs := [.ref a, y]) F hr rfl hb hx I (.cons rfl (.cons ry .nil)) hq) (fun z s' hz => by
      obtain ⟨v', H', I', rv, q⟩ := id hz
      exact relV_ni rv hz) fun _ _ z => z
  obtain ⟨cd, hcd, hm⟩ := N.cd
  refine OX.inplace_of J (OX.noInplace I.kIn hcd hm N.hi N.ho) ?_
  cases ot with
  | own => exact OX.binop1_C I.kIn J hbt M.self M.hs M.hf hc
  | ty fill sub hT => exact OX.binop1_T I.kIn J hbt M.self M.hs M.hf M.hr fill sub hT hc

/-! ### == and != by an own == -/
structure EqM (K : PySem.W.Frag) (C f : Addr) : Prop where
  hs : PySem.W.findIn K (.ref C) "__eq__" = some (some (.ref f))
  hf : PySem.W.isFn K (.ref f) = true
  hne : PySem.W.findIn K (.ref C) "__ne__" = some (some (.builtin "object.__ne__"))
  hm : PySem.W.mroIn K C (.type "object") = some true
def rEqO (K : PySem.W.Frag) (C : Addr) (sp : Sp) (neg : Bool) : R2 := fun x y H Q => ∃ a dx fs t, x = .ref a ∧ H a = some (.ins C dx fs) ∧ TyX K H y t ∧ PySem.W.notFirst K C t = true ∧
  sp [.ref a, y] H (fun v H' => ∃ b, v = .bl b ∧ Q (.bl (if neg then !b else b)) H') (fun _ _ _ => False)
theorem op_eqO (M : EqM X.K C f) (F : FnOk X.prog X.w X.K X.mg X.base CX k f fd ps sp) (hr : Room (k + 1) X.A) (hb : Binds X.K fd ps []) (hx : Passes CX X (fun _ _ _ => False)) : OpR X (compareOp .Eq) (rEqO X.K C sp false) := by
  intro pins s σ H x y v u Q I rx ry h
  obtain ⟨a, dx, fs, t, rfl, ha, ty, nf, hq⟩ := h
  cases rx
  obtain ⟨mA, J, _⟩ := ins_get I.hok ha
  obtain ⟨od, J, _⟩ := J.look
  have hbt := typeOf_of I ry ty
  obtain ⟨m, hF⟩ := I.fr
  show wpAny (model X.prog X.w) X.A (richCompare .Eq (.ref a) u) (EP X pins σ Q) X.xe s
  refine PySem.W.cmp_K (op := .Eq) hr.units0 hF I.ok.mod.kin J hbt nf M.hs M.hf ?_
  refine wpAny_mono (callA (vs := [.ref a, y]) F (hr.mono (Nat.le_succ _)) rfl hb hx I (.cons rfl (.cons ry .nil)) hq) (fun z s' hz => ?_) fun _ _ z => z
  obtain ⟨v', H', I', rv, b, e, q⟩ := hz
  subst e
  cases (show z = Value.bool b from rv)
  exact ⟨.bl b, H', I', rfl, q⟩
theorem op_neO (M : EqM X.K C f) (F : FnOk X.prog X.w X.K X.mg X.base CX k f fd ps sp) (hr : Room (k + 1) X.A) (hb : Binds X.K fd ps []) (hx : Passes CX X (fun _ _ _ => False)) : OpR X (compareOp .NotEq) (rEqO X.K C sp true) := by
  intro pins s σ H x y v u Q I rx ry h
  obtain ⟨a, dx, fs, t, rfl, ha, ty, nf, hq⟩ := h
  cases rx
  obtain ⟨mA, J, _⟩ := ins_get I.hok ha
  obtain ⟨od, J, _⟩ := J.look
  have hbt := typeOf_of I ry ty
  show wpAny (model X.prog X.w) X.A (richCompare .NotEq (.ref a) u) (EP X pins σ Q) X.xe s
  have hu := hr.un
  refine OX.ne_own (by omega) I.kIn J hbt nf M.hs M.hf M.hne M.hm ?_
  refine wpAny_mono (callA (A := X.A.in1) (vs := [.ref a, y]) F hr.in1 rfl hb hx I (.cons rfl (.cons ry .nil)) hq) (fun z s' hz => ?_) fun _ _ z => z
  obtain ⟨v', H', I', rv, b, e, q⟩ := hz
  subst e
  cases (show z = Value.bool b from rv)
  exact ⟨b, rfl, .bl (!b), H', I', rfl, q⟩
end
end L2

/-! A caught error that is kept behind its suite. -/
namespace L2
open PySem PySem.Spec PyProof.Rows
/-- an error of the class cls that was caught, its own dict at d -/
def exh (e : Addr) (cls : Value) (d : Option Addr) : HO := .ext fun h => ∃ oe : Obj, h.get? e = some oe ∧ Zc cls d oe ∧ ∃ vs, oe.data = .fields vs
theorem exh_ok {P : Program} {w : World} {H : Hp} {h : Heap} {e : Addr} {cls : Value} {d : Option Addr} {oe : Obj} (he : h.get? e = some oe) (hz : Zc cls d oe) (hf : ∃ vs, oe.data = .fields vs) : ObjOk P w H h e (exh e cls d) :=
  ⟨⟨oe, he, hz, hf⟩, ⟨oe, he⟩, fun h1 h2 z k => by
    obtain ⟨o, q, r⟩ := z
    exact ⟨o, k _ q, r⟩⟩
theorem exh_at {P : Program} {w : World} {H : Hp} {h : Heap} {e : Addr} {cls : Value} {d : Option Addr} (ok : HOk P w H h) (q : H e = some (exh e cls d)) : ∃ oe : Obj, h.get? e = some oe ∧ Zc cls d oe ∧ ∃ vs, oe.data = .fields vs := by
  have z : ObjOk P w H h e (.ext fun h => ∃ oe : Obj, h.get? e = some oe ∧ Zc cls d oe ∧ ∃ vs, oe.data = .fields vs) := ok e _ q
  exact z.1
section
variable {X : Cx} {pins : List (Addr × Obj)} {σ : St} {H : Hp} {s : Shared}
/-- an object that no one knew is known from now on -/
theorem Inv.track {a : Addr} {oe : Obj} {vs : Array Value} {cls : Value} {d : Option Addr} (I : Inv X ((a, oe) :: pins) σ H s) (hd : oe.data = .fields vs) (hz : Zc cls d oe) (n0 : X.s_0.heap.get? a = none) (np : ∀ p ∈ X.pn ++ pins, p.1 ≠ a) :
    Inv X pins σ (upd H a (exh a cls d)) s := by
  obtain ⟨ea, na, nL, nF, _⟩ := I.pin (a, oe) (List.mem_append_right _ List.mem_cons_self)
  have old : ∀ {b o}, X.s_0.heap.get? b = some o → b ≠ a := fun {b o} e z => by rw [z, n0] at e; cases e
  have kn : ∀ {b u}, H b = some u → b ≠ a := fun {b u} e => ne_of_none e na
  refine ⟨I.ok, I.os, I.bare, ⟨I.base.keep, I.base.slot, fun b o e n hx => ?_, I.base.there, fun b xs e => ?_, fun b o u e => ?_, fun b ps e => ?_⟩, I.loc, I.cell, ?_, fun y c e => ?_, fun p hp => ?_, fun b u e => ?_, I.len⟩
  · rw [upd_ne (old e)]
    exact I.base.free b o e n hx
  · have q := I.base.tups b xs e
    rw [upd_ne (kn q)]
    exact q
  · have q := I.base.frzs b o u e
    rw [upd_ne (kn q)]
    exact q
  · obtain ⟨m, q⟩ := I.base.tbls b ps e
    exact ⟨m, by rw [upd_ne (kn q)]; exact q⟩
  · rw [upd_ne (Ne.symm nL)]
    exact I.free
  · obtain ⟨v, oc, hoc, hdc⟩ := I.cell y c e
    have hca : c ≠ a := fun z => by
      rw [z] at hoc
      have e2 : some oe = some oc := ea.symm.trans hoc
      rw [← Option.some.inj e2, hd] at hdc
      cases hdc
    rw [upd_ne hca]
    exact I.freeC y c e
  · obtain ⟨e, n, r⟩ := I.pin p (by
      rcases List.mem_append.mp hp with h | h
      · exact List.mem_append_left _ h
      · exact List.mem_append_right _ (List.mem_cons_of_mem _ h))
    exact ⟨e, by rw [upd_ne (np p hp)]; exact n, r⟩
  · by_cases hb : b = a
    · rw [hb, upd_same] at e
      cases e
      rw [hb]
      exact exh_ok ea hz ⟨vs, hd⟩
    · rw [upd_ne hb] at e
      exact (I.hok b u e).stay (fun c w' _ q => q) (fun c q => by rw [upd_ne (kn q)]; exact q) fun c xs q => by rw [upd_ne (kn q)]; exact q
theorem Inv.unsuiteK {a : Addr} {q : Addr × Obj} (I : Inv (X.suite a (q :: (X.pn ++ pins))) [] σ H s) (ok : X.Ok) : Inv X (q :: pins) σ H s :=
  ⟨ok, I.os, I.bare, I.base, I.loc, I.cell, I.free, I.freeC, fun p hp => I.pin p (List.mem_append_left _ (by
    rcases List.mem_append.mp hp with h | h
    · exact List.mem_cons_of_mem _ (List.mem_append_left _ h)
    · rcases List.mem_cons.mp h with h | h
      · rw [h]; exact List.mem_cons_self
      · exact List.mem_cons_of_mem _ (List.mem_append_right _ h))), I.hok, I.len⟩
end
/-- the wish of a body whose errors the clause takes, all of them, and keeps -/
def wKeep (K : PySem.W.Frag) (c : Value) (i : Nat) (ts : Addr → Value → Option Addr → TS) (D : Ends) : WX := fun cls d σ H => PySem.W.exmOne K cls c = some true ∧ ∀ a, H a = none →
  ts a cls d { nx := fun σ' H' => D.nx (σ'.set i none) (upd H' a (exh a cls d)), rt := fun v H' => D.rt v (upd H' a (exh a cls d)), bk := fun σ' H' => D.bk (σ'.set i none) (upd H' a (exh a cls d)), ct := fun σ' H' => D.ct (σ'.set i none) (upd H' a (exh a cls d)) } (σ.set i (some (.ref a))) H
section
variable {X : Cx} {x n : Str} {c : Value} {i : Nat} {body suite : List Stmt} {b₀ : Stmt} {np pos pos' : Pos} {tb : WX → TS} {ts : Addr → Value → Option Addr → TS}
theorem ps_try_keep (hex : X.ex = []) (hs : X.stack = X.env :: X.outer) (hf : X.env.frame = some X.env.locals) (hN : X.N.Nodup) (hi : X.N[i]? = some n) (hln : X.env.kindOf n = some .local) (hc : Names X x c)
    (hb : ∀ (W : WX) (pn : List (Addr × Obj)) (xe : Value → Shared → Prop), Takes (X.tr pn xe) W → PassesOwn (model X.prog X.w) X.A X.env xe → PSs (X.tr pn xe) body (tb W))
    (hsu : ∀ (a : Addr) (oe : Obj) (cls : Value) (d : Option Addr) (pn : List (Addr × Obj)), Zc cls d oe → (∃ vs, oe.data = .fields vs) → PSs (X.suite a ((a, oe) :: pn)) (b₀ :: suite) (ts a cls d)) :
    PS X (.Try body [.ExceptHandler (some (.Name x np)) (some n) (b₀ :: suite) pos'] [] [] pos) (fun D σ H => tb (wKeep X.K c i ts D) D σ H) := by
  refine ⟨fun pins s σ H D I h => ?_⟩
  have ok := I.ok
  have frm : X.A.frames = some (X.env :: X.outer) := by rw [ok.frames, hs]
  refine wpAny_Try_except ?_
  refine wpAny_mono ((hb (wKeep X.K c i ts D) (X.pn ++ pins) (fun e s₁ => wpAny (model X.prog X.w) X.A (noteFrame e X.env) (fun _ s₂ => wpAny (model X.prog X.w) X.A (setFlight e none)
    (fun _ s₃ => wpAny (model X.prog X.w) X.A (handleBy e X.env [.ExceptHandler (some (.Name x np)) (some n) (b₀ :: suite) pos']) (SP X pins D) X.xe s₃) X.xe s₂) X.xe s₁) (fun u s' xx => ?_) PassesOwn.looking).run [] s σ H D (I.toTry _) h) (fun f s1 hsp => ?_) (fun _ _ z => z)
  · obtain ⟨a, B, sI, pins', σ', H', cls, d, rfl, J', nb, up, sky, na, os, ag, hyes1, hyes⟩ := xx
    have J : Inv X pins σ' H' sI := J'.ofTry ok
    show wpAny (model X.prog X.w) X.A (noteFrame (.ref a) X.env) _ _ _
    refine Sky.land Zc.steady frm hf (show Sky B (X.env :: X.outer) a (Zc cls d) X.env.locals s'.heap by rw [← hs]; exact sky) fun h3 fl3 up3 => ?_
    have J3 : Inv X pins σ' H' { s' with heap := h3 } := J.landed nb fl3.1 (up.trans up3) os ag
    obtain ⟨oe3, vs3, he3, hz3, hd3⟩ := fl3.there
    have nfr : a ∉ frs (X.env :: X.outer) := fun hm => by
      obtain ⟨_, o', e', hnf⟩ := fl3.2.2.1.mem hm
      rw [he3] at e'
      cases e'
      exact hnf _ hd3
    have nL : a ≠ X.env.locals := fun z => nfr (List.mem_filterMap.mpr ⟨X.env, List.mem_cons_self, by rw [hf, z]⟩)
    have nF : a ∉ X.fs := fun hm => by
      obtain ⟨e, he, q⟩ := List.mem_filterMap.mp hm
      exact nfr (List.mem_filterMap.mpr ⟨e, List.mem_cons_of_mem _ he, q⟩)
    have inB : ∀ {b : Addr} {o : Obj}, sI.heap.get? b = some o → b ∉ frs X.stack → b ≠ a := fun {b o} e hb z => by
      have q := nb b o e hb
      rw [z, fl3.2.1] at q
      cases q
    have n0 : X.s_0.heap.get? a = none := by
      cases e : X.s_0.heap.get? a with
      | none => rfl
      | some o =>
        obtain ⟨o', e'⟩ := J.base.there a o e (by rw [hex]; exact fun z => nomatch z)
        exact absurd rfl (inB e' (by rw [hs]; exact nfr))
    have npin : ∀ p ∈ X.pn ++ pins, p.1 ≠ a := fun p hp => by
      obtain ⟨e, _, n1, n2, _⟩ := J.pin p hp
      exact inB e fun hm => (List.mem_cons.mp (J.stkSub _ hm)).elim n1 n2
    refine wpAny_handleBy_cons (codeAny_handlers_test ?_) (by intro q; cases q)
    have LT : PySem.W.Looks (model X.prog X.w) h3 (typeOf (.ref a)) cls := fun A Q E s k q => wpAny_typeOf_ref (k _ _ he3) (by rw [hz3.1]; exact q)
    have S3 := J3.suite he3 hd3 na nL nF
    have test : ∀ {Q : Value → Shared → Prop} {E : Value → Shared → Prop}, Q c { s' with heap := h3 } → wpAny (model X.prog X.w) (X.A.mark (some (.ref a))) (eval (.Name x np) X.env) Q E { s' with heap := h3 } := fun {Q E} q => by
      obtain ⟨g1, g2, g3 | ⟨g3, g4, g5⟩⟩ := hc
      · exact ld_glob (X := X.suite a ((a, oe3) :: (X.pn ++ pins))) S3 g1 g3 q g2
      · exact ld_blt (X := X.suite a ((a, oe3) :: (X.pn ++ pins))) S3 g1 g3 g4 q g5 g2
    refine test ((PySem.W.exm_one (M := model X.prog X.w) (J3.kIn) LT hyes1).here ?_)
    refine codeAny_handlers_suite_as ?_
    refine HandSPX.lands_againZ fl3 fun h4 fl4 up4 => ?_
    have J4 : Inv X pins σ' H' { s' with heap := h4 } := J.landed nb fl4.1 ((up.trans up3).trans up4) os ag
    obtain ⟨oe4, vs4, he4, hz4, hd4⟩ := fl4.there
    refine store_ok (X := X.suite a ((a, oe4) :: (X.pn ++ pins))) (v := .ref a) (J4.suite he4 hd4 na nL nF) hN hi (.inl hln) rfl (fun s5 S5 => ?_) (.inr hln)
    refine wpAny_mono ((hsu a oe4 cls d (X.pn ++ pins) hz4 ⟨_, hd4⟩).run [] s5 _ H' _ S5 (hyes a na)) (fun f s6 hsp => ?_) (fun _ _ z => False.elim z)
    have fin : ∀ {σ6 : St} {H6 : Hp} {Q : Shared → Prop}, Inv (X.suite a ((a, oe4) :: (X.pn ++ pins))) [] σ6 H6 s6 → (∀ s7, Inv X pins (σ6.set i none) (upd H6 a (exh a cls d)) s7 → Q s7) →
        wpAny (model X.prog X.w) X.A (do bindName X.env n .none; unbindBehindTheSuite X.env n pos') (fun _ s7 => Q s7) X.xe s6 := fun {σ6 H6 Q} S6 hq => gone_ok (S6.unsuiteK ok) hN hi hln fun s7 J7 => hq s7 (J7.track hd4 hz4 n0 npin)
    cases f with
    | ret u =>
      obtain ⟨v6, σ6, H6, S6, r6, q6⟩ := hsp
      exact fin S6 fun s7 J7 => ⟨_, _, _, J7, r6, q6⟩
    | next =>
      obtain ⟨σ6, H6, S6, q6⟩ := hsp
      exact fin S6 fun s7 J7 => ⟨_, _, J7, q6⟩
    | cont =>
      obtain ⟨σ6, H6, S6, q6⟩ := hsp
      exact fin S6 fun s7 J7 => ⟨_, _, J7, q6⟩
    | brk =>
      obtain ⟨σ6, H6, S6, q6⟩ := hsp
      exact fin S6 fun s7 J7 => ⟨_, _, J7, q6⟩
  · cases f with
    | ret u =>
      obtain ⟨v, σ', H', J', r, q⟩ := hsp
      exact ⟨v, σ', H', J'.ofTry ok, r, q⟩
    | next =>
      obtain ⟨σ', H', J', q⟩ := hsp
      exact wpAny_execs_nil ⟨σ', H', J'.ofTry ok, q⟩
    | cont =>
      obtain ⟨σ', H', J', q⟩ := hsp
      exact ⟨σ', H', J'.ofTry ok, q⟩
    | brk =>
      obtain ⟨σ', H', J', q⟩ := hsp
      exact ⟨σ', H', J'.ofTry ok, q⟩
end
end L2
/-! ### isinstance and fields of such an error -/
namespace PySem.W
open PySem PySem.Calls PyProof.Rows Builtin Builtin.ObjectAttr
section
variable {prog : Program} {w : World} {A : Around} {E : Value → Shared → Prop} {s : Shared} {K : Frag} {x D : Addr} {ox : Obj} {od : Option Obj}
theorem kxc_class {Q : Option Value → Shared → Prop} (C : L2.ExcC K D) (hf : findObj K D od "__class__" = some (.bind (.builtin "getset_descriptor.__get__") (.builtin "object.__class__")))
    (X : K.In s.heap) (I : InstAt s.heap x ox D od) (h : Q (some (.ref D)) { s with toks := s.toks + 1 }) : wpAny (model prog w) A (getAttr? (.ref x) "__class__") Q E s := by
  obtain ⟨hp, g, dr, t, os⟩ := s
  have LT := I.type (M := model prog w)
  have LA := looks_findIn (M := model prog w) X C.hg
  have LB := looks_findIn (M := model prog w) X C.hk
  have LF := looks_find (M := model prog w) X I hf
  have isB : Looks (model prog w) hp (isInstance (.ref x) (.type "BaseException")) true := LT.andThen (looks_subIn X C.hs)
  have q0 : (false && onTheHeap (Value.builtin "BaseException.__getattribute__")) = false := rfl
  have q2 : (Value.builtin "BaseException.__getattribute__" == Value.builtin "object.__getattribute__") = false := by decide +kernel
  have q1 : (onTheHeap (Value.ref D) && Value.builtin "BaseException.__getattribute__" == Value.builtin "object.__getattribute__") = false := by rw [q2]; rfl
  unfold getAttr? getAttrBy? getAttrBy
  refine wpAny_bind (wpAny_mkText (wpAny_bind (wpAny_attempt (wpAny_holding (wpAny_bind (LT.at (wpAny_bind (LA.at ?_))))))))
  show wpAny _ _ (if (onTheHeap (Value.ref D) && Value.builtin "BaseException.__getattribute__" == Value.builtin "object.__getattribute__") = true then _ else _) _ _ _
  rw [q1, if_neg Bool.false_ne_true]
  unfold getAttrByItsOwn hookBefore
  refine wpAny_bind ?_
  rw [if_pos (show onTheHeap (Value.ref D) = true from rfl)]
  refine LB.at (wpAny_bind (wpAny_attempt (wpAny_holding ?_)))
  unfold callGetattribute
  rw [q0, if_neg Bool.false_ne_true]
  unfold boundAndCalled
  rw [PySem.F.excAttr_ValueError.ga.bind (.ref x)]
  refine wpAny_bind (wpAny_pure ?_)
  show wpAny _ _ (call (.builtin "BaseException.__getattribute__") [.ref x, .str "__class__" t]) _ _ _
  refine wpAny_call (codeAny_call_builtin PySem.F.excAttr_ValueError.ga.plain PySem.F.entry_bexc_ga ?_)
  refine @check_slot (model prog w) _ _ ⟨hp, g, dr, t + 1, os⟩ "BaseException.__getattribute__" "BaseException" "__getattribute__" (.ref x) [.str "__class__" t] [] _ (by decide +kernel) (by decide +kernel) isB (PySem.F.args_bexc_ga (.ref x) (.str "__class__" t)) ?_
  unfold Builtin.«object.__getattribute__»
  refine wpAny_bind (wpAny_of_eq (a := ((Value.ref x : Value), [Value.str "__class__" t])) (by first | rfl | (simp only [slotArgs]; rfl)) (wpAny_bind (wpAny_pure (wpAny_bind (LT.at (wpAny_bind (LF.at ?_)))))))
  show wpAny _ _ (holding [Value.builtin "object.__class__"] (call (.builtin "getset_descriptor.__get__") [.builtin "object.__class__", .ref x, .ref D]) >>= ret) _ _ _
  refine wpAny_bind (wpAny_holding (wpAny_call (class_get (s := ⟨hp, g, dr, t + 1, os⟩) (ox := ox) (od := od) X I C.hm (wpAny_pure ?_))))
  show wpAny _ _ (handedOut (.ref D)) _ _ _
  rw [handedOut_of (v := .ref D) rfl]
  first
    | exact wpAny_pure (wpAny_pure h)
    | exact wpAny_pure h
    | exact wpAny_pure (wpAny_bind (wpAny_pure (wpAny_pure h)))
theorem kxc_kit (C : L2.ExcC K D) (hf : findObj K D od "__class__" = some (.bind (.builtin "getset_descriptor.__get__") (.builtin "object.__class__"))) : KitX K (.ref x) (.ref D) (fun h => InstAt h x ox D od) where
  ty := fun _ _ _ I => I.type
  it := fun _ _ X _ => by
    obtain ⟨cd0, hc0, _⟩ := any_some C.hd
    unfold clsIn at hc0
    split at hc0
    · rename_i _ _ _ _ ho
      intro A' Q' E' s' k q
      unfold isType loadHead
      exact wpAny_bind (wpAny_loadPart (k _ _ (X _ _ ho)) (wpAny_pure q))
    · cases hc0
  ne := fun h tp dd its n sl X htp => by
    obtain ⟨cd0, hc0, _⟩ := any_some C.hd
    refine Bool.eq_false_iff.mpr fun q => ?_
    have e : D = tp := Value.ref.inj (beq_iff_eq.mp q)
    subst e
    unfold clsIn at hc0
    split at hc0
    · rename_i _ _ _ _ ho
      have z := (X _ _ ho).symm.trans htp
      cases z
    · cases hc0
  ca := fun X I k => kxc_class C hf X I k
end
end PySem.W
namespace L2
open PySem PySem.Spec PyProof.Rows
section
variable {X : Cx} {pins : List (Addr × Obj)} {σ : St} {H : Hp} {s : Shared}
theorem exh_inst {K : PySem.W.Frag} {a D : Addr} {d : Option Addr} {fs : List (Str × V)} (I : Inv X pins σ H s) (ea : H a = some (exh a (.ref D) d)) (ed : ∀ dd, d = some dd → H dd = some (.xd fs)) :
    ∃ (oe : Obj) (od : Option Obj), PySem.W.InstAt s.heap a oe D od ∧ (d.isSome = od.isSome) ∧ ∀ name, d.isSome = true → ∃ m : Str → Option Value, PySem.W.lookIn name (od.getD oe) = some (m name) ∧ ∀ f, RelO (fs.lookup f) (m f) := by
  obtain ⟨oe, hoe, ⟨z1, z2⟩, vs, hd⟩ := exh_at I.hok ea
  have nc : PySem.W.notCls oe = true := by unfold PySem.W.notCls; rw [hd] <;> rfl
  cases d with
  | none => exact ⟨oe, none, ⟨hoe, z1, nc, by rw [z2]; exact True.intro⟩, rfl, fun _ z => nomatch z⟩
  | some dd =>
    have hx : ObjOk X.prog X.w H s.heap dd (.xd fs) := I.hok dd _ (ed dd rfl)
    obtain ⟨mA, hns, hr⟩ := hx
    obtain ⟨od, ho, hl⟩ := lookIn_ns hns
    exact ⟨oe, some od, ⟨hoe, z1, nc, by rw [z2]; exact ho⟩, rfl, fun name _ => ⟨mA, hl name, hr⟩⟩
end
/-- isinstance(e, c), e an error that was caught and kept -/
def rIsK (K : PySem.W.Frag) : List V → Hp → VK → Prop := fun xs H Q => ∃ (a D dd : Addr) (fs : List (Str × V)) (c : V) (cv : Value) (b : Bool), xs = [.ref a, c] ∧ ClsV c cv ∧ H a = some (exh a (.ref D) (some dd)) ∧ H dd = some (.xd fs) ∧ ExcC K D ∧ PySem.W.kitOne K (.ref D) cv = some b ∧ Q (.bl b) H
theorem call_isK {X : Cx} : CallR X (.builtin "isinstance") (rIsK X.K) := by
  intro pins s σ H xs us Q I r h
  obtain ⟨a, D, dd, fs, c, cv, b, rfl, hcv, ea, ed, C, e, q⟩ := h
  obtain ⟨u1, u2, rfl, r1, r2⟩ := vals2 r
  cases (show u1 = Value.ref a from r1)
  have ec := hcv.eq r2
  subst ec
  obtain ⟨oe, od, J, hd, _⟩ := exh_inst (K := X.K) I ea (fun d' e' => by cases e'; exact ed)
  cases od with
  | none => cases hd
  | some od =>
    have hf := PySem.W.findObj_data (K := X.K) (C := D) (od := od) (name := "__class__") (by obtain ⟨cd, hc, _⟩ := PySem.W.any_some C.hd; rw [hc]; rfl) C.ha C.hn C.ht
    exact PySem.W.kia_one (PySem.W.kxc_kit C hf) I.kIn J e (fun z => nomatch z) fun tk => ⟨.bl b, H, I.tok tk, rfl, q⟩
/-- e.f, e such an error -/
def tXk (K : PySem.W.Frag) (te : TE) (f : Str) : TE := fun σ H Q => te σ H fun x H1 => ∃ (a C dd : Addr) (fs : List (Str × V)) (v : V), x = .ref a ∧ H1 a = some (exh a (.ref C) (some dd)) ∧ H1 dd = some (.xd fs) ∧ XfC K C ∧ PySem.W.findIn K (.ref C) f = some none ∧ fs.lookup f = some v ∧ Q v H1
theorem pe_xk {X : Cx} {e : Expr} {te : TE} {pos : Pos} {n : Str} (he : PE X e te) (hb : attributeBase e n X.env (eval e X.env) = eval e X.env := by rfl) : PE X (.Attribute e n pos) (tXk X.K te n) := by
  refine ⟨fun pins s σ H Q I h => attr_of hb (thn (he.run pins s σ H _ I h) fun u s1 hh => ?_)⟩
  obtain ⟨x, H1, I1, rx, a, C, dd, fs, v, ex, ea, ed, T, hno, l, q⟩ := hh
  subst ex
  obtain rfl : u = Value.ref a := rx
  obtain ⟨oe, od, J, hd, hl⟩ := exh_inst (K := X.K) I1 ea (fun d' e' => by cases e'; exact ed)
  cases od with
  | none => cases hd
  | some od =>
    obtain ⟨m, h1, h2⟩ := hl n rfl
    obtain ⟨u, hu, ru⟩ := RelO.some_of (v := v) (o := m n) (by rw [← l]; exact h2 n)
    exact HandSPX.exc_get I1.kIn J T.ga T.gg T.exC (PySem.W.findObj_own T.hdC hno rfl (by rw [← hu]; exact h1)) (handed_of ru) ⟨v, H1, I1.tok _, ru, q⟩
end L2

/-! try .. except C as n: .. except D: ..: the first clause takes all errors. -/
namespace L2
open PySem PySem.Spec PyProof.Rows
section
variable {X : Cx} {x n : Str} {c : Value} {i : Nat} {body suite : List Stmt} {b₀ : Stmt} {np pos pos' : Pos} {tb : WX → TS} {ts : Addr → Value → Option Addr → TS}
theorem ps_try_keepR {hds : List ExceptHandler} (hex : X.ex = []) (hs : X.stack = X.env :: X.outer) (hf : X.env.frame = some X.env.locals) (hN : X.N.Nodup) (hi : X.N[i]? = some n) (hln : X.env.kindOf n = some .local) (hc : Names X x c)
    (hb : ∀ (W : WX) (pn : List (Addr × Obj)) (xe : Value → Shared → Prop), Takes (X.tr pn xe) W → PassesOwn (model X.prog X.w) X.A X.env xe → PSs (X.tr pn xe) body (tb W))
    (hsu : ∀ (a : Addr) (oe : Obj) (cls : Value) (d : Option Addr) (pn : List (Addr × Obj)), Zc cls d oe → (∃ vs, oe.data = .fields vs) → PSs (X.suite a ((a, oe) :: pn)) (b₀ :: suite) (ts a cls d)) :
    PS X (.Try body (.ExceptHandler (some (.Name x np)) (some n) (b₀ :: suite) pos' :: hds) [] [] pos) (fun D σ H => tb (wKeep X.K c i ts D) D σ H) := by
  refine ⟨fun pins s σ H D I h => ?_⟩
  have ok := I.ok
  have frm : X.A.frames = some (X.env :: X.outer) := by rw [ok.frames, hs]
  refine wpAny_Try_except ?_
  refine wpAny_mono ((hb (wKeep X.K c i ts D) (X.pn ++ pins) (fun e s₁ => wpAny (model X.prog X.w) X.A (noteFrame e X.env) (fun _ s₂ => wpAny (model X.prog X.w) X.A (setFlight e none)
    (fun _ s₃ => wpAny (model X.prog X.w) X.A (handleBy e X.env (.ExceptHandler (some (.Name x np)) (some n) (b₀ :: suite) pos' :: hds)) (SP X pins D) X.xe s₃) X.xe s₂) X.xe s₁) (fun u s' xx => ?_) PassesOwn.looking).run [] s σ H D (I.toTry _) h) (fun f s1 hsp => ?_) (fun _ _ z => z)
  · obtain ⟨a, B, sI, pins', σ', H', cls, d, rfl, J', nb, up, sky, na, os, ag, hyes1, hyes⟩ := xx
    have J : Inv X pins σ' H' sI := J'.ofTry ok
    show wpAny (model X.prog X.w) X.A (noteFrame (.ref a) X.env) _ _ _
    refine Sky.land Zc.steady frm hf (show Sky B (X.env :: X.outer) a (Zc cls d) X.env.locals s'.heap by rw [← hs]; exact sky) fun h3 fl3 up3 => ?_
    have J3 : Inv X pins σ' H' { s' with heap := h3 } := J.landed nb fl3.1 (up.trans up3) os ag
    obtain ⟨oe3, vs3, he3, hz3, hd3⟩ := fl3.there
    have nfr : a ∉ frs (X.env :: X.outer) := fun hm => by
      obtain ⟨_, o', e', hnf⟩ := fl3.2.2.1.mem hm
      rw [he3] at e'
      cases e'
      exact hnf _ hd3
    have nL : a ≠ X.env.locals := fun z => nfr (List.mem_filterMap.mpr ⟨X.env, List.mem_cons_self, by rw [hf, z]⟩)
    have nF : a ∉ X.fs := fun hm => by
      obtain ⟨e, he, q⟩ := List.mem_filterMap.mp hm
      exact nfr (List.mem_filterMap.mpr ⟨e, List.mem_cons_of_mem _ he, q⟩)
    have inB : ∀ {b : Addr} {o : Obj}, sI.heap.get? b = some o → b ∉ frs X.stack → b ≠ a := fun {b o} e hb z => by
      have q := nb b o e hb
      rw [z, fl3.2.1] at q
      cases q
    have n0 : X.s_0.heap.get? a = none := by
      cases e : X.s_0.heap.get? a with
      | none => rfl
      | some o =>
        obtain ⟨o', e'⟩ := J.base.there a o e (by rw [hex]; exact fun z => nomatch z)
        exact absurd rfl (inB e' (by rw [hs]; exact nfr))
    have npin : ∀ p ∈ X.pn ++ pins, p.1 ≠ a := fun p hp => by
      obtain ⟨e, _, n1, n2, _⟩ := J.pin p hp
      exact inB e fun hm => (List.mem_cons.mp (J.stkSub _ hm)).elim n1 n2
    refine wpAny_handleBy_cons (codeAny_handlers_test ?_) (by intro q; cases q)
    have LT : PySem.W.Looks (model X.prog X.w) h3 (typeOf (.ref a)) cls := fun A Q E s k q => wpAny_typeOf_ref (k _ _ he3) (by rw [hz3.1]; exact q)
    have S3 := J3.suite he3 hd3 na nL nF
    have test : ∀ {Q : Value → Shared → Prop} {E : Value → Shared → Prop}, Q c { s' with heap := h3 } → wpAny (model X.prog X.w) (X.A.mark (some (.ref a))) (eval (.Name x np) X.env) Q E { s' with heap := h3 } := fun {Q E} q => by
      obtain ⟨g1, g2, g3 | ⟨g3, g4, g5⟩⟩ := hc
      · exact ld_glob (X := X.suite a ((a, oe3) :: (X.pn ++ pins))) S3 g1 g3 q g2
      · exact ld_blt (X := X.suite a ((a, oe3) :: (X.pn ++ pins))) S3 g1 g3 g4 q g5 g2
    refine test ((PySem.W.exm_one (M := model X.prog X.w) (J3.kIn) LT hyes1).here ?_)
    refine codeAny_handlers_suite_as ?_
    refine HandSPX.lands_againZ fl3 fun h4 fl4 up4 => ?_
    have J4 : Inv X pins σ' H' { s' with heap := h4 } := J.landed nb fl4.1 ((up.trans up3).trans up4) os ag
    obtain ⟨oe4, vs4, he4, hz4, hd4⟩ := fl4.there
    refine store_ok (X := X.suite a ((a, oe4) :: (X.pn ++ pins))) (v := .ref a) (J4.suite he4 hd4 na nL nF) hN hi (.inl hln) rfl (fun s5 S5 => ?_) (.inr hln)
    refine wpAny_mono ((hsu a oe4 cls d (X.pn ++ pins) hz4 ⟨_, hd4⟩).run [] s5 _ H' _ S5 (hyes a na)) (fun f s6 hsp => ?_) (fun _ _ z => False.elim z)
    have fin : ∀ {σ6 : St} {H6 : Hp} {Q : Shared → Prop}, Inv (X.suite a ((a, oe4) :: (X.pn ++ pins))) [] σ6 H6 s6 → (∀ s7, Inv X pins (σ6.set i none) (upd H6 a (exh a cls d)) s7 → Q s7) →
        wpAny (model X.prog X.w) X.A (do bindName X.env n .none; unbindBehindTheSuite X.env n pos') (fun _ s7 => Q s7) X.xe s6 := fun {σ6 H6 Q} S6 hq => gone_ok (S6.unsuiteK ok) hN hi hln fun s7 J7 => hq s7 (J7.track hd4 hz4 n0 npin)
    cases f with
    | ret u =>
      obtain ⟨v6, σ6, H6, S6, r6, q6⟩ := hsp
      exact fin S6 fun s7 J7 => ⟨_, _, _, J7, r6, q6⟩
    | next =>
      obtain ⟨σ6, H6, S6, q6⟩ := hsp
      exact fin S6 fun s7 J7 => ⟨_, _, J7, q6⟩
    | cont =>
      obtain ⟨σ6, H6, S6, q6⟩ := hsp
      exact fin S6 fun s7 J7 => ⟨_, _, J7, q6⟩
    | brk =>
      obtain ⟨σ6, H6, S6, q6⟩ := hsp
      exact fin S6 fun s7 J7 => ⟨_, _, J7, q6⟩
  · cases f with
    | ret u =>
      obtain ⟨v, σ', H', J', r, q⟩ := hsp
      exact ⟨v, σ', H', J'.ofTry ok, r, q⟩
    | next =>
      obtain ⟨σ', H', J', q⟩ := hsp
      exact wpAny_execs_nil ⟨σ', H', J'.ofTry ok, q⟩
    | cont =>
      obtain ⟨σ', H', J', q⟩ := hsp
      exact ⟨σ', H', J'.ofTry ok, q⟩
    | brk =>
      obtain ⟨σ', H', J', q⟩ := hsp
      exact ⟨σ', H', J'.ofTry ok, q⟩
end
end L2

/-! repr of data: it asks which reprs are under way; a def's promise where none is. -/
namespace L2
open PySem PySem.Spec PyProof.Rows
/-- a promise that holds where no repr is under way -/
structure FnG (P : Program) (w : World) (K : PySem.W.Frag) (mg : Str → Option Value) (base : Heap) (CX : CXT) (k : Nat) (f : Addr) (fd : FuncData) (ps : List Str) (sp : Sp) : Prop where
  len : ∀ vs H Q E, sp vs H Q E → vs.length = ps.length
  run : ∀ (A : Around) (outer : List Env) (s : Shared) (H : Hp) (args : Args) (us : List Value) (vs : List V) (Q : VK) (E : XK), Room k A → A.guards = some [] → Env0 P w K mg base A outer s H → BindsTo s fd args (ps.zip us) → Vals vs us → sp vs H Q E →
    codeAny (model P w) A (.call (.ref f) args) (CR CX outer P w H s Q E) s
theorem FnOk.g {P : Program} {w : World} {K : PySem.W.Frag} {mg : Str → Option Value} {base : Heap} {CX : CXT} {k : Nat} {f : Addr} {fd : FuncData} {ps : List Str} {sp : Sp} (F : FnOk P w K mg base CX k f fd ps sp) : FnG P w K mg base CX k f fd ps sp :=
  ⟨F.len, fun A outer s H args us vs Q E hr _ => F.run A outer s H args us vs Q E hr⟩
section
variable {P : Program} {w : World} {K : PySem.W.Frag} {mg : Str → Option Value} {base : Heap}
theorem Fun.okG {x qual : Str} {st : Stmt} {f : Addr} {fd : FuncData} {N ps : List Str} {k : Nat} {sp : Sp} (F : Fun K x qual st f fd) (S : FnScope N ps (defScope st)) (len : ∀ vs H Q E, sp vs H Q E → vs.length = ps.length)
    (hbody : ∀ (cdv : Value) (A : Around) (outer : List Env) (s : Shared) (H : Hp) (vs : List V) (Q : VK) (E : XK), Room k (A.deeper (envOfC qual (defScope st) s.heap.objs.size f cdv)) → A.guards = some [] → sp vs H Q E →
      ∃ t, PSs (cxOf CX0 P w K mg base N qual (defScope st) f cdv A outer s H E).nox (defBody st) t ∧ t { nx := fun _ H' => Q .non H', rt := Q } (start N vs) H) : FnG P w K mg base CX0 (k + 1) f fd ps sp := by
  obtain ⟨oc, od, kV, doc, pm, an, cdv, ct, osl, rfl, lk, hcd⟩ := F.ex
  refine ⟨len, fun A outer s H args us vs Q E hr hg e0 hb r hsp => LamX.run_ofS lk hcd S hr e0 hb r (len _ _ _ _ hsp) fun hr' => ?_⟩
  obtain ⟨t, h, q⟩ := hbody cdv A outer s H vs Q E hr' hg hsp
  exact ⟨t, h.nox, q⟩
end
section
variable {X : Cx} {CX : CXT} {k : Nat} {f : Addr} {fd : FuncData} {ps : List Str} {sp : Sp} {E : XK} {x : Str} {ds : List Value} {dvs : List V} {e : Expr} {es : List Expr} {t : TA} {p pos : Pos}
theorem run_fnG {pins : List (Addr × Obj)} {σ : St} {H : Hp} {s : Shared} {Q : VK} {us : List Value} {vs : List V} (hG : X.A.guards = some []) (F : FnG X.prog X.w X.K X.mg X.base CX k f fd ps sp) (hr : Room k X.A) (hb : Binds X.K fd ps ds) (hd : Vals dvs ds)
    (hx : Passes CX X E) (I : Inv X pins σ H s) (r : Vals vs us) (h : sp (vs ++ dvs) H Q E) : wpAny (model X.prog X.w) X.A (call (.ref f) us) (EP X pins σ Q) X.xe s := by
  have rr : Vals (vs ++ dvs) (us ++ ds) := r.append hd
  have hlen : (us ++ ds).length = ps.length := by rw [← rr.length]; exact F.len _ _ _ _ h
  refine wpAny_call (codeAny_mono (F.run X.A X.stack s H ⟨us, []⟩ (us ++ ds) (vs ++ dvs) Q E hr hG I.env0 (hb s us I.kIn hlen) rr h) fun r s' hq => ?_)
  cases r with
  | error e => exact hx pins σ H s e s' I hq
  | ok fl =>
    cases fl with
    | ret u => exact I.after hq
    | next => exact False.elim hq
    | brk => exact False.elim hq
    | cont => exact False.elim hq
theorem pe_callG (hG : X.A.guards = some []) (F : FnG X.prog X.w X.K X.mg X.base CX k f fd ps sp) (hr : Room k X.A) (hg : Gl X x) (hm : X.mg x = some (.ref f)) (hk : PySem.W.keepIn X.K (.ref f) = true) (hb : Binds X.K fd ps ds) (hd : Vals dvs ds) (hx : Passes CX X E)
    (ha : PA X (e :: es) t) (hdb : (x == ("__debug__" : Str)) = false := by decide) (he : starEach (e :: es) X.env = (false, eval e X.env) :: starEach es X.env := by rfl) (hpl : (backTo pos (starEach es X.env)).any (·.1) = false := by rfl) :
    PE X (.Call (.Name x p) (e :: es) [] pos) (tCall sp dvs E t) := by
  refine ⟨fun pins s σ H Q I h => wpAny_Call_Name_kw (ld_glob I hg hm ?_ hdb)⟩
  refine PySem.W.callWith_K (h₀ := X.base) I.ok.mod.kin hk (thn (ha.run pos pins s σ H _ I h) fun us s1 ⟨vs, H1, I1, r, q⟩ => ⟨I1.kIn, run_fnG hG F hr hb hd hx I1 r q⟩) he hpl
/-- repr of a list or tuple of data -/
def rRepr (K : PySem.W.Frag) : List V → Hp → VK → Prop := fun xs H Q => ∃ (a : Addr) (d : PyData), xs = [.ref a] ∧ Dp K H (.ref a) d ∧ d.showable = true ∧ d.hasDict = false ∧ d.depth ≤ 64 ∧ d.shown.length ≤ sizeLine ∧ Q (.str d.shown) H
theorem c_repr (hG : X.A.guards = some []) (hu : X.A.units + 128 < cLine) : CallR X (.builtin "repr") (rRepr X.K) := by
  intro pins s σ H xs us Q I r h
  obtain ⟨a, d, rfl, hd, h1, h2, h3, h4, q⟩ := h
  obtain ⟨u, rfl, rx⟩ := vals1 r
  cases (show u = Value.ref a from rx)
  obtain ⟨as, hr⟩ := Dp.reads I d _ _ hd rx
  refine repr_of_reads' hr h1 (fun z => by rw [h2] at z; cases z) hG (by omega) (fun _ _ z => z) (fun h' u tk hk => ?_) h4
  exact ⟨.str d.shown, H, I.kept hk, ⟨u, rfl⟩, q⟩
end
end L2

namespace LamX
open PySem PySem.Spec PyProof.Rows L2
theorem law_callG {P : Program} {w : World} {K : PySem.W.Frag} {mg mBlt : Str → Option Value} {CX : CXT} {k : Nat} {fLaw a : Addr} {tabs : List (Addr × Addr)} {fdLaw : FuncData} {x : Str} {spc : Sp} {s₁ : Shared} {items : List Value} {nums : List Int}
    (KH : K.In s₁.heap) (nsG : s₁.heap.Ns mainGlobals mg) (hB2 : s₁.heap.Ns builtinsNs mBlt) (bltB : ∀ x : Str, x ≠ "__name__" → mBlt x = bootBuiltins x) (limG : s₁.heap.NoLimit) (gnE : s₁.gens = #[])
    (tabE : ∀ p ∈ tabs, s₁.heap.get? p.2 = some { cls := .none, data := .fields #[] }) (tabK : ∀ p ∈ tabs, K.lookup p.2 = none) (cdE : ∀ p ∈ tabs, PySem.W.CodeHd s₁.heap p.1 p.2)
    (bmE : ∃ (bmA : Addr) (obj : Obj), mg "__builtins__" = some (.ref bmA) ∧ bmA ≠ builtinsNs ∧ s₁.heap.get? bmA = some obj ∧ obj.cls = .type "module" ∧ obj.dict = some builtinsNs ∧ obj.data = .plain)
    (scE : s₁.heap.get? a = some { cls := .type "list", data := .seq items.toArray }) (inE : IntsAre items nums) (lnE : nums.length ≤ sizeLine) (rmE : Room k callerA)
    (FF : ∀ base : Heap, K.In base → base.Ns mainGlobals mg → (∀ p ∈ tabs, TabB base mg p.1 p.2) → L2.FnG P w K mg base CX k fLaw fdLaw [x] spc) (bdE : ∀ (s : Shared) (u : Value), BindsTo s fdLaw ⟨[u], []⟩ [(x, u)])
    (spE : ∀ H : Hp, (∀ p ∈ tabs, H p.2 = some (.tbl #[])) → SqL K H a (nums.map V.int) → spc [.ref a] H (fun v _ => v = .bl true) fun _ _ _ => False)
    (cxE : ∀ H e s', CX [] H s₁ (fun _ _ _ => False) e s' → False) :
    codeAny (model P w) callerA (.call (.ref fLaw) ⟨[.ref a], []⟩) (fun r s' => r = .ok (.ret (.bool true)) ∧ OldK s₁.heap s'.heap ∧ s'.os = s₁.os ∧ AllBare s'.gens) s₁ := by
  have rvs := vals_ints inE
  have lenW := inE.length
  have isTb : ∀ b : Addr, b ∈ tabs.map (·.2) → s₁.heap.get? b = some { cls := .none, data := .fields #[] } := fun b hB2 => by
    obtain ⟨p, memP, e⟩ := List.mem_map.mp hB2
    rw [← e]
    exact tabE p memP
  have notTb : a ∉ tabs.map (·.2) := fun zq => by
    have qq := isTb a zq
    rw [scE] at qq
    have z' : Data.seq items.toArray _ = Data.fields #[] := congrArg Obj.data (Option.some.inj qq)
    cases z'
  have inTb : ∀ p ∈ tabs, p.2 ∈ tabs.map (·.2) := fun p memP => List.mem_map.mpr ⟨p, memP, rfl⟩
  -- from an abstract heap in which nothing but the script and the tables may be tracked
  have main0 : ∀ H : Hp, (∀ p ∈ tabs, H p.2 = some (.tbl #[])) → (∀ b, H b = none ∨ b ∈ tabs.map (·.2) ∨ ∃ o xs, H b = some (.frz o (.lst xs))) → SqL K H a (nums.map V.int) → HOk P w H s₁.heap → (∀ b, H b ≠ none → b = a ∨ b ∈ tabs.map (·.2)) → (H a ≠ none → K.lookup a = none) →
      codeAny (model P w) callerA (.call (.ref fLaw) ⟨[.ref a], []⟩) (fun r s' => r = .ok (.ret (.bool true)) ∧ OldK s₁.heap s'.heap ∧ s'.os = s₁.os ∧ AllBare s'.gens) s₁ := by
    intro H Htab Hone Hscr Hok0 Hall HKn
    have toBase : ∀ {b : Addr} {o : Obj}, s₁.heap.get? b = some o → H b = none → (hidT s₁.heap H).get? b = some o := fun e n => hidT_get e n
    have notD : ∀ {b : Addr} {o : Obj}, s₁.heap.get? b = some o → (∀ items n, o.data ≠ .seq items n) → o.data ≠ .fields #[] → H b = none := fun {b o} e h11 hh => by
      cases qq : H b with
      | none => rfl
      | some u =>
        rcases Hall b (by rw [qq]; simp) with e' | e'
        · rw [e', scE] at e
          cases e
          exact (h11 _ _ rfl).elim
        · rw [isTb b e'] at e
          cases e
          exact (hh rfl).elim
    have notA : ∀ {b : Addr} {o : Obj} {es : Array DictEntry} {epp : Nat}, s₁.heap.get? b = some o → o.data = .dict es epp → H b = none := fun {b o es epp} e d => by
      refine notD e (fun items n zq => ?_) fun zq => ?_
      · rw [d] at zq
        cases zq
      · rw [d] at zq
        cases zq
    have nsB0 : ∀ {b : Addr} {m : Str → Option Value}, s₁.heap.Ns b m → (hidT s₁.heap H).Ns b m := fun {b m} ⟨o, es, epp, e, d, r⟩ => ⟨o, es, epp, toBase e (notA e d), d, r⟩
    have KBase : K.In (hidT s₁.heap H) := fun b o e => toBase (KH b o e) (by
      cases qq : H b with
      | none => rfl
      | some u =>
        rcases Hall b (by rw [qq]; simp) with e' | e'
        · rw [e'] at e qq
          rw [HKn (by rw [qq]; simp)] at e
          cases e
        · obtain ⟨p, memP, epp⟩ := List.mem_map.mp e'
          rw [← epp, tabK p memP] at e
          cases e)
    have modB : L2.Mod K mg (hidT s₁.heap H) := ⟨KBase, nsB0 nsG, ⟨mBlt, nsB0 hB2, bltB⟩, let ⟨mc, h11, hh⟩ := limG; ⟨mc, nsB0 h11, hh⟩⟩
    have tabB0 : ∀ p ∈ tabs, TabB (hidT s₁.heap H) mg p.1 p.2 := fun p memP => by
      have hTp := tabE p memP
      refine ⟨?_, ?_, fun zq => ?_⟩
      · obtain ⟨o, uus, file, tf, flags, tg, inF, text, tt, e1, r1, r2, r3, r4, r5, r6, r7, r8, hne⟩ := cdE p memP
        refine ⟨o, uus, file, tf, flags, tg, inF, text, tt, toBase e1 (notD e1 (fun items n zq => ?_) fun zq => ?_), r1, r2, r3, r4, r5, r6, r7, r8, hne⟩
        · rw [r2] at zq
          cases zq
        · rw [r2] at zq
          cases zq
          simp at r3
      · obtain ⟨bmA, obj, b1, b2, b3, b4, b5, b6⟩ := bmE
        have nG : bmA ≠ mainGlobals := fun qq => by
          obtain ⟨o, es, epp, e, hd, _⟩ := nsG
          rw [qq, e] at b3
          cases b3
          rw [hd] at b6
          cases b6
        have nP : bmA ≠ p.2 := fun qq => by
          rw [qq, hTp] at b3
          cases b3
          cases b6
        refine ⟨bmA, obj, b1, b2, nG, nP, toBase b3 (notD b3 (fun items n zq => ?_) fun zq => ?_), b4, b5, b6⟩
        · rw [b6] at zq
          cases zq
        · rw [b6] at zq
          cases zq
      · obtain ⟨o, es, epp, e, hd, _⟩ := nsG
        rw [zq, hTp] at e
        cases e
        cases hd
    have env0 : Env0 P w K mg (hidT s₁.heap H) callerA [] s₁ H := ⟨rfl, modB, fun b o e => of_hidT e, Nat.le_of_eq (hidT_size _ _), trivial, fun b hB2 => absurd (show b ∈ ([] : List Addr) from hB2) (by simp), Hok0, .of_eq gnE⟩
    refine codeAny_mono ((FF _ KBase (nsB0 nsG) tabB0).run callerA [] s₁ H ⟨[.ref a], []⟩ [.ref a] [.ref a] _ _ rmE rfl env0 (bdE s₁ (.ref a)) (.cons rfl .nil) (spE H Htab Hscr)) fun r s' h => ?_
    cases r with
    | error e => exact (cxE H e s' h).elim
    | ok fl =>
      cases fl with
      | next => exact False.elim h
      | brk => exact False.elim h
      | cont => exact False.elim h
      | ret u =>
        obtain ⟨v, H', osE, bareE, unk, Hok1, r', qq⟩ := h
        have q' : v = .bl true := qq
        subst q'
        obtain rfl : u = Value.bool true := r'
        have kept0 : ∀ b o, b ∉ tabs.map (·.2) → s₁.heap.get? b = some o → s'.heap.get? b = some o := fun b o nb e => by
          cases qq : H b with
          | none => exact unk.keep b o e qq (by intro zq; exact absurd (show b ∈ ([] : List Addr) from zq) (by simp)) (by simp)
          | some u =>
            rcases Hone b with zq | zq | ⟨obj, xs, zq⟩
            · rw [qq] at zq; cases zq
            · exact absurd zq nb
            · have zz := unk.frzs b obj _ zq
              obtain ⟨e1, _⟩ := Hok0 b _ zq
              obtain ⟨ee, _⟩ := Hok1 b _ zz
              rw [e] at e1; cases e1
              exact ee
        have grew : ∀ p ∈ tabs, ∃ rest : Array Value, s'.heap.get? p.2 = some { cls := .none, data := .fields rest } := fun p memP => by
          obtain ⟨rest, zq⟩ := unk.tbls p.2 #[] (Htab p memP)
          exact ⟨_, Hok1 p.2 _ zq⟩
        refine ⟨rfl, ⟨fun b o e => ?_, fun b o e => ?_⟩, osE, bareE⟩
        · by_cases hB2 : b ∈ tabs.map (·.2)
          · obtain ⟨p, memP, epp⟩ := List.mem_map.mp hB2
            obtain ⟨rest, hmo⟩ := grew p memP
            rw [← epp] at e ⊢
            rw [tabE p memP] at e
            cases e
            exact .inr (.inl ⟨((cdE p memP).tab (tabE p memP)).isCodeTable, rfl, #[], rest, rfl, by rw [Array.empty_append]; exact hmo⟩)
          · exact .inl (kept0 b o hB2 e)
        · by_cases hB2 : b ∈ tabs.map (·.2)
          · obtain ⟨p, memP, epp⟩ := List.mem_map.mp hB2
            obtain ⟨rest, hmo⟩ := grew p memP
            rw [← epp]
            exact ⟨_, hmo⟩
          · exact ⟨o, kept0 b o hB2 e⟩
  cases lookE : K.lookup a with
  | some o =>
    have e := KH a o lookE
    rw [scE] at e
    cases e
    refine main0 (fun b => if b ∈ tabs.map (·.2) then some (.tbl #[]) else none) (fun p memP => if_pos (inTb p memP)) (fun b => ?_) (.inr ⟨_, items.toArray, _, lookE, rfl, rfl, rfl, by rw [List.size_toArray, lenW]; exact lnE, by simpa using rvs⟩) (fun b u zq => ?_) (fun b zq => ?_) fun zq => absurd (show (if a ∈ tabs.map (·.2) then some (HO.tbl #[]) else none) = none from if_neg notTb) zq
    · by_cases hB2 : b ∈ tabs.map (·.2)
      · exact .inr (.inl hB2)
      · exact .inl (if_neg hB2)
    · by_cases hB2 : b ∈ tabs.map (·.2)
      · have z' := (if_pos hB2).symm.trans zq
        cases z'
        exact isTb b hB2
      · have z' := (if_neg hB2).symm.trans zq
        cases z'
    · by_cases hB2 : b ∈ tabs.map (·.2)
      · exact .inr hB2
      · exact absurd (if_neg hB2) zq
  | none =>
    refine main0 (fun b => if b = a then some (.frz { cls := .type "list", data := .seq items.toArray } (.lst (nums.map V.int))) else if b ∈ tabs.map (·.2) then some (.tbl #[]) else none) (fun p memP => (if_neg (show ¬ p.2 = a from fun zq => notTb (by rw [← zq]; exact inTb p memP))).trans (if_pos (inTb p memP))) (fun b => ?_)
      (.inl (.inr ⟨{ cls := .type "list", data := .seq items.toArray }, if_pos rfl⟩)) (fun b u zq => ?_) (fun b zq => ?_) fun _ => lookE
    · by_cases hB2 : b = a
      · exact .inr (.inr ⟨_, _, if_pos hB2⟩)
      · by_cases hb2 : b ∈ tabs.map (·.2)
        · exact .inr (.inl hb2)
        · exact .inl ((if_neg hB2).trans (if_neg hb2))
    · by_cases hB2 : b = a
      · have z' := (if_pos hB2).symm.trans zq
        cases z'
        rw [hB2]
        exact ⟨scE, by rw [List.length_map]; exact lnE, items, _, rvs, scE⟩
      · have z1 := (if_neg hB2).symm.trans zq
        by_cases hb2 : b ∈ tabs.map (·.2)
        · have z' := (if_pos hb2).symm.trans z1
          cases z'
          exact isTb b hb2
        · have z' := (if_neg hb2).symm.trans z1
          cases z'
    · by_cases hB2 : b = a
      · exact .inl hB2
      · by_cases hb2 : b ∈ tabs.map (·.2)
        · exact .inr hb2
        · exact absurd ((if_neg hB2).trans (if_neg hb2)) zq
/-- what is known of the law's promise at the head's heap h -/
def LawAtG (l : PySem.W.OpenLaw) (w : World) (K : PySem.W.Frag) (CX : CXT) (k n : Nat) (x : Str) (mg : Str → Option Value) (fLaw : Addr) (h : Heap) : Prop :=
  ∃ (fdLaw : FuncData) (tabs : List (Addr × Addr)) (spc : Sp), (∀ p ∈ tabs, h.get? p.2 = some { cls := .none, data := .fields #[] }) ∧ (∀ p ∈ tabs, K.lookup p.2 = none) ∧ (∀ p ∈ tabs, PySem.W.CodeHd h p.1 p.2) ∧ (∀ (s : Shared) (u : Value), BindsTo s fdLaw ⟨[u], []⟩ [(x, u)]) ∧
    (∀ (H : Hp) (a : Addr) (nums : List Int), nums.length ≤ n → (∀ zq ∈ nums, Builtin.Int.intBits zq ≤ 1048576) → (∀ p ∈ tabs, H p.2 = some (.tbl #[])) → SqL K H a (nums.map V.int) → spc [.ref a] H (fun v _ => v = .bl true) fun _ _ _ => False) ∧
    ∀ base : Heap, K.In base → base.Ns mainGlobals mg → (∀ p ∈ tabs, TabB base mg p.1 p.2) → L2.FnG l.prog w K mg base CX k fLaw fdLaw [x] spc
theorem walk_ofG {l : PySem.W.OpenLaw} {n k : Nat} {qq : Program} {loose : List Str} {XP : (Str → Option Value) → Heap → Prop} {YP : World → Heap → Prop} {d : DefRec} {K : Params → PySem.W.Frag} {CX : World → CXT} {x : Str}
    (hn : l.most = some n) (hn2 : n ≤ sizeLine) (hdf : d.params.defaults = []) (rmE : Room k callerA) (hY : ∀ (w : World) (h : Heap), YP w h → (K w.params).In h)
    (FF : ∀ (w : World) (mg : Str → Option Value) (fLaw : Addr) (h : Heap), YP w h → (K w.params).In h → h.Ns mainGlobals mg → mg d.name = some (.ref fLaw) → LawAtG l w (K w.params) (CX w) k n x mg fLaw h)
    (cxE : ∀ (w : World) (H : Hp) (s : Shared) (e : Value) (s' : Shared), CX w [] H s (fun _ _ _ => False) e s' → False) :
    PySem.W.WalkO qq loose XP YP l.row.toRowW d [] (fun f items => PySem.call f items) := by
  refine Att.attach_callB hn hdf fun w s₀ s₁ mg mBlt fLaw o pm cd doc a items nums G Y ho hd hcd hmg hobj hints hlen hbits gnE => ?_
  have KH := hY w _ Y
  obtain ⟨fdLaw, tabs, spc, tabE, tabK, cdE, hB2, spE, hF⟩ := FF w mg fLaw _ Y KH G.T.g hmg
  exact law_callG KH G.T.g G.T.b G.T.builtins G.T.nolimit gnE tabE tabK cdE G.T.bmain hobj hints (Nat.le_trans hlen hn2) rmE hF hB2 (fun H Htab Hscr => spE H a nums hlen hbits Htab Hscr) fun H e s' => cxE w H s₁ e s'
end LamX

/-! len(x), str(x) of an own class. -/
namespace L2
open PySem PySem.Spec PyProof.Rows
section
variable {X : Cx} {CX : CXT} {k : Nat} {f C : Addr} {fd : FuncData} {ps : List Str} {sp : Sp}
/-- a special method of the class -/
structure SpM (K : PySem.W.Frag) (C f : Addr) (name : Str) : Prop where
  hs : PySem.W.findIn K (.ref C) name = some (some (.ref f))
  hf : PySem.W.isFn K (.ref f) = true
def rLenO (C : Addr) (sp : Sp) : List V → Hp → VK → Prop := fun xs H Q => ∃ a dx fs, xs = [.ref a] ∧ H a = some (.ins C dx fs) ∧ sp [.ref a] H (fun v H' => ∃ n : Int, v = .int n ∧ (0 ≤ n ∧ n < 2 ^ 63) ∧ Q (.int n) H') (fun _ _ _ => False)
theorem c_lenO (M : SpM X.K C f "__len__") (F : FnOk X.prog X.w X.K X.mg X.base CX k f fd ps sp) (hr : Room (k + 1) X.A) (hb : Binds X.K fd ps []) (hx : Passes CX X (fun _ _ _ => False)) : CallR X (.builtin "len") (rLenO C sp) := by
  intro pins s σ H xs us Q I r h
  obtain ⟨a, dx, fs, rfl, ha, hq⟩ := h
  obtain ⟨u, rfl, rx⟩ := vals1 r
  cases (show u = Value.ref a from rx)
  obtain ⟨_, J, _⟩ := ins_get I.hok ha
  obtain ⟨_, J, _⟩ := J.look
  obtain ⟨_, hF⟩ := I.fr
  refine PySem.W.len_K hF I.ok.mod.kin J M.hs M.hf (wpAny_mono (callA (A := X.A.in1) (vs := [.ref a]) F hr.in1 rfl hb hx I (.cons rfl .nil) hq) (fun z s' hz => ?_) fun _ _ z => z)
  obtain ⟨v', H', I', rv, n, e, hn, q⟩ := hz
  subst e
  obtain ⟨t, rfl⟩ := (show ∃ t, z = Value.int n t from rv)
  exact ⟨hn, .int n, H', I'.tok _, ⟨_, rfl⟩, q⟩
def rStrO (C : Addr) (sp : Sp) : List V → Hp → VK → Prop := fun xs H Q => ∃ a dx fs, xs = [.ref a] ∧ H a = some (.ins C dx fs) ∧ sp [.ref a] H (fun v H' => ∃ x : Str, v = .str x ∧ Q (.str x) H') (fun _ _ _ => False)
theorem c_strO (M : SpM X.K C f "__str__") (F : FnOk X.prog X.w X.K X.mg X.base CX k f fd ps sp) (hr : Room (k + 2) X.A) (hb : Binds X.K fd ps []) (hx : Passes CX X (fun _ _ _ => False)) : CallR X (.type "str") (rStrO C sp) := by
  intro pins s σ H xs us Q I r h
  obtain ⟨a, dx, fs, rfl, ha, hq⟩ := h
  obtain ⟨u, rfl, rx⟩ := vals1 r
  cases (show u = Value.ref a from rx)
  obtain ⟨_, J, _⟩ := ins_get I.hok ha
  obtain ⟨_, J, _⟩ := J.look
  have hu := hr.un
  refine PySem.W.kso_call (by show X.A.units + 1 + 1 < cLine; omega) I.kIn J M.hs M.hf (wpAny_mono (callA (A := X.A.in1.in1) (vs := [.ref a]) F hr.in1.in1 rfl hb hx I (.cons rfl .nil) hq) (fun z s' hz => ?_) fun _ _ z => z)
  obtain ⟨v', H', I', rv, x, e, q⟩ := hz
  subst e
  obtain ⟨t, rfl⟩ := (show ∃ t, z = Value.str x t from rv)
  exact ⟨.str x, H', I', ⟨_, rfl⟩, q⟩
end
end L2

/-! Abstract rules for own classes, errors, lambdas, pens. -/
namespace L2
open PySem PySem.Spec PyProof.Rows
/-- as Fun.okG, the code object told -/
theorem Fun.okGC {P : Program} {w : World} {K : PySem.W.Frag} {mg : Str → Option Value} {base : Heap} {x qual : Str} {st : Stmt} {f : Addr} {fd : FuncData} {N ps : List Str} {k : Nat} {sp : Sp} (F : Fun K x qual st f fd) (S : FnScope N ps (defScope st)) (len : ∀ vs H Q E, sp vs H Q E → vs.length = ps.length)
    (hb : ∀ (A : Around) (outer : List Env) (s : Shared) (H : Hp) (vs : List V) (Q : VK) (E : XK), Room k (A.deeper (envOfC qual (defScope st) s.heap.objs.size f fd.code)) → A.guards = some [] → sp vs H Q E →
      ∃ t, PSs (cxOf CX0 P w K mg base N qual (defScope st) f fd.code A outer s H E).nox (defBody st) t ∧ t { nx := fun _ H' => Q .non H', rt := Q } (start N vs) H) : FnG P w K mg base CX0 (k + 1) f fd ps sp := by
  obtain ⟨oc, od, kV, doc, pm, an, cdv, ct, osl, rfl, lk, hcd⟩ := F.ex
  refine ⟨len, fun A outer s H args us vs Q E hr hg e0 hbd r hsp => LamX.run_ofS lk hcd S hr e0 hbd r (len _ _ _ _ hsp) fun hr' => ?_⟩
  obtain ⟨t, h, q⟩ := hb A outer s H vs Q E hr' hg hsp
  exact ⟨t, h.nox, q⟩
end L2
namespace AW
open PySem PySem.Spec PyProof.Rows L2 LamX ClX
theorem both_nt {A B : Prop} (h : B) : ((!true) = true → A) ∧ ((!true) = false → B) := ⟨fun z => Bool.noConfusion z, fun _ => h⟩
theorem both_nf {A B : Prop} (h : A) : ((!false) = true → A) ∧ ((!false) = false → B) := ⟨fun _ => h, fun z => Bool.noConfusion z⟩
theorem bor_t {A B : Prop} (h : B) : (true = false → A) ∧ (true = true → B) := ⟨fun z => Bool.noConfusion z, fun _ => h⟩
theorem bor_f {A B : Prop} (h : A) : (false = false → A) ∧ (false = true → B) := ⟨fun _ => h, fun z => Bool.noConfusion z⟩
theorem bor_nt {A B : Prop} (h : A) : ((!true) = false → A) ∧ ((!true) = true → B) := ⟨fun _ => h, fun z => Bool.noConfusion z⟩
theorem bor_nf {A B : Prop} (h : B) : ((!false) = false → A) ∧ ((!false) = true → B) := ⟨fun z => Bool.noConfusion z, fun _ => h⟩
theorem keep2 {kn : Hp} {a q : Addr} {o : HO} {u : HO} (h : a ≠ q) (e : kn a = some u) : upd kn q o a = some u := by
  rw [upd_ne h]
  exact e
section
variable {K : PySem.W.Frag} {H H' : Hp} {x : V} {t : Value}
theorem tyof_ext (e : Ext H H') (h : TyOf K H x t) : TyOf K H' x t := by
  cases h with
  | non => exact .non
  | bl x => exact .bl x
  | int i => exact .int i
  | str x => exact .str x
  | flt x => exact .flt x
  | lst h => exact .lst (e _ _ h)
  | frz h => exact .frz (e _ _ h)
  | tup h => exact .tup (e _ _ h)
  | dK h => exact .dK (e _ _ h)
  | dT h => exact .dT (e _ _ h)
  | ins h a b c d m => exact .ins (e _ _ h) a b c d m
theorem tyx_ext (e : Ext H H') (h : TyX K H x t) : TyX K H' x t := by
  cases h with
  | base b => exact .base (tyof_ext e b)
  | byt b => exact .byt b
  | set h => exact .set (e _ _ h)
  | kList h c => exact .kList h c
  | kTuple h c => exact .kTuple h c
  | kDict h c => exact .kDict h c
  | fTuple h => exact .fTuple (e _ _ h)
  | fDict h => exact .fDict (e _ _ h)
end
/-- the wish of errors -/
abbrev EAK := Value → Option Addr → Hp → Nat → Prop
def ErrOk (c : Cw) (EA : EAK) (E : XK) : Prop := ∀ cls d kn' n' H', EA cls d kn' n' → Good c kn' n' H' → E cls d H'
theorem err_no {c : Cw} {E : XK} : ErrOk c (fun _ _ _ _ => False) E := fun _ _ _ _ _ h => h.elim
abbrev bodyX (c : Cw) (E : XK) : EAK := fun cls d kn n => ∀ H', Good c kn n H' → E cls d H'
theorem err_body {c : Cw} {E : XK} : ErrOk c (bodyX c E) E := fun _ _ _ _ H' h g => h H' g
section
variable {c : Cw} {kn : Hp} {n : Nat} {σ : L2.St} {Q : V → Hp → Nat → Prop} {K : PySem.W.Frag} {E : XK} {EA : EAK} {B : List V → Hp → AK → AXK → Prop}
theorem r_isi {x cv : V} {t u : Value} {b : Bool} (k : ClsV cv u) (ty : TyX K kn x t) (e : PySem.W.kitOne K t u = some b) (q : Q (.bl b) kn n) : W c (rIsi K [x, cv]) kn n Q :=
  fun H g _ f => ⟨x, cv, t, u, b, rfl, k, tyx_ext g.ex ty, e, f _ kn n H q g⟩
theorem w_call {dvs : List V} {t : TA} (hm : MonoX B) (hE : ErrOk c EA E) (h : W c (t σ) kn n fun vs kn1 n1 => B (vs ++ dvs) kn1 (fun v k => Q v k n1) (fun cls d k => EA cls d k n1)) : W c (tCall (liftX B) dvs E t σ) kn n Q :=
  w_callX hm hE h
def rIsN : R2 := fun x y H Q => y = V.non ∧ Q (V.bl (decide (x = V.non))) H
theorem c_isN {X : Cx} : OpR X (compareOp .Is) rIsN := op_isN
theorem r_isN {x : V} (q : Q (.bl (decide (x = V.non))) kn n) : W c (rIsN x .non) kn n Q := fun H g _ k => ⟨rfl, k _ kn n H q g⟩
theorem r_isNt (q : Q (V.bl true) kn n) : W c (rIsN .non .non) kn n Q := fun H g _ k => ⟨rfl, k _ kn n H q g⟩
theorem r_isNr {a : Addr} (q : Q (V.bl false) kn n) : W c (rIsN (.ref a) .non) kn n Q := fun H g _ k => ⟨rfl, k _ kn n H q g⟩
theorem r_neV {v : V} (h : scal v v = true) (q : Q (V.bl false) kn n) : W c (rNe v v) kn n Q := r_ne h (by rw [decide_eq_true rfl]; exact q)
theorem r_eqV {v : V} (h : scal v v = true) (q : Q (V.bl true) kn n) : W c (rEq v v) kn n Q := r_eq h (by rw [decide_eq_true rfl]; exact q)
theorem r_neSelf {x : Str} (q : Q (V.bl false) kn n) : W c (rNe (.str x) (.str x)) kn n Q := r_ne rfl (by rw [decide_eq_true rfl]; exact q)
theorem r_eqSelf {x : Str} (q : Q (V.bl true) kn n) : W c (rEq (.str x) (.str x)) kn n Q := r_eq rfl (by rw [decide_eq_true rfl]; exact q)
theorem w_make {C : Addr} {t : TA} (hm : MonoX B) (hE : ErrOk c EA E) (h : W c (t σ) kn n fun vs kn1 n1 => ∀ x dx, kn1 x = none → kn1 dx = none → dx ≠ x →
    B (.ref x :: vs) (upd (upd kn1 dx (.own x)) x (.ins C dx [])) (fun v kn2 => v = .non ∧ Q (.ref x) kn2 n1) (fun cls d k => EA cls d k n1)) : W c (tMake C (liftX B) [] E t σ) kn n Q :=
  fun H g Q' q => h H g _ fun vs kn1 n1 H1 h1 g1 => fun x dx hx hdx hne => by
    have hx2 : upd H1 dx (.own x) x = none := by rw [upd_ne (Ne.symm hne)]; exact hx
    have z := sp_call (c := c) (n := n1) (Q := fun v kn2 n2 => v = .non ∧ Q (.ref x) kn2 n2) hm hE (h1 x dx (g1.free hx) (g1.free hdx) hne) _ ((g1.new hdx).new hx2) (fun v H2 => v = .non ∧ Q' (.ref x) H2)
      (fun v kn2 n2 H2 hq g2 => ⟨hq.1, q _ _ _ _ hq.2 g2⟩)
    have e : vs ++ [] = vs := List.append_nil vs
    rw [e]
    exact z
theorem w_meth {C : Addr} {m : Str} {ta : TE} {t : TA} (hm : MonoX B) (hE : ErrOk c EA E) (h : W c (ta σ) kn n fun x kn1 n1 => ∃ a dx fs, x = .ref a ∧ kn1 a = some (.ins C dx fs) ∧ fs.lookup m = none ∧
    W c (t σ) kn1 n1 fun vs kn2 n2 => B (.ref a :: vs) kn2 (fun v k => Q v k n2) (fun cls d k => EA cls d k n2)) : W c (tMeth C m (liftX B) [] E ta t σ) kn n Q :=
  fun H g Q' q => h H g _ fun x kn1 n1 H1 h1 g1 => by
    obtain ⟨a, dx, fs, rfl, ha, hl, h2⟩ := h1
    refine ⟨a, dx, fs, rfl, g1.ex _ _ ha, hl, h2 H1 g1 _ fun vs kn2 n2 H2 h3 g2 => ?_⟩
    have e : vs ++ [] = vs := List.append_nil vs
    rw [e]
    exact sp_call hm hE h3 H2 g2 Q' q
theorem r_own {op : Operator} {C a dx : Addr} {fs : List (Str × V)} {y : V} {t : Value} (hm : MonoX B) (hE : ErrOk c EA E) (ha : kn a = some (.ins C dx fs)) (ty : TyX K kn y t) (ot : OpT K op C t)
    (h : B [.ref a, y] kn (fun v k => Q v k n) (fun cls d k => EA cls d k n)) : W c (rOwn K op C (liftX B) E (.ref a) y) kn n Q :=
  fun H g Q' q => ⟨a, dx, fs, t, rfl, g.ex _ _ ha, tyx_ext g.ex ty, ot, sp_call hm hE h H g Q' q⟩
theorem r_eqO {C a dx : Addr} {fs : List (Str × V)} {y : V} {t : Value} {neg : Bool} (hm : MonoX B) (ha : kn a = some (.ins C dx fs)) (ty : TyX K kn y t) (nf : PySem.W.notFirst K C t = true)
    (h : B [.ref a, y] kn (fun v k => ∃ b, v = .bl b ∧ Q (.bl (if neg then !b else b)) k n) (fun _ _ _ => False)) : W c (rEqO K C (liftX B) neg (.ref a) y) kn n Q :=
  fun H g Q' q => ⟨a, dx, fs, t, rfl, g.ex _ _ ha, tyx_ext g.ex ty, nf, sp_call (EA := fun _ _ _ _ => False) (Q := fun v k n => ∃ b, v = .bl b ∧ Q (.bl (if neg then !b else b)) k n) hm err_no h H g _ fun v kn1 n1 H1 ⟨b, e, hq⟩ g1 => ⟨b, e, q _ _ _ _ hq g1⟩⟩
theorem r_lenO {C a dx : Addr} {fs : List (Str × V)} (hm : MonoX B) (ha : kn a = some (.ins C dx fs)) (h : B [.ref a] kn (fun v k => ∃ i : Int, v = .int i ∧ (0 ≤ i ∧ i < 2 ^ 63) ∧ Q (.int i) k n) (fun _ _ _ => False)) : W c (rLenO C (liftX B) [.ref a]) kn n Q :=
  fun H g Q' q => ⟨a, dx, fs, rfl, g.ex _ _ ha, sp_call (EA := fun _ _ _ _ => False) (Q := fun v k n => ∃ i : Int, v = .int i ∧ (0 ≤ i ∧ i < 2 ^ 63) ∧ Q (.int i) k n) hm err_no h H g _ fun v kn1 n1 H1 ⟨b, e, e2, hq⟩ g1 => ⟨b, e, e2, q _ _ _ _ hq g1⟩⟩
theorem r_strO {C a dx : Addr} {fs : List (Str × V)} (hm : MonoX B) (ha : kn a = some (.ins C dx fs)) (h : B [.ref a] kn (fun v k => ∃ x : Str, v = .str x ∧ Q (.str x) k n) (fun _ _ _ => False)) : W c (rStrO C (liftX B) [.ref a]) kn n Q :=
  fun H g Q' q => ⟨a, dx, fs, rfl, g.ex _ _ ha, sp_call (EA := fun _ _ _ _ => False) (Q := fun v k n => ∃ x : Str, v = .str x ∧ Q (.str x) k n) hm err_no h H g _ fun v kn1 n1 H1 ⟨b, e, hq⟩ g1 => ⟨b, e, q _ _ _ _ hq g1⟩⟩
theorem w_cval {ta : TE} {f : Str} (h : W c (ta σ) kn n fun x kn1 n1 => ∃ C mc v u, x = .ref C ∧ CRead K C mc ∧ CVal K C mc f v u ∧ Q v kn1 n1) : W c (tCVal K ta f σ) kn n Q :=
  fun H g Q' q => h H g _ fun x kn1 n1 H1 ⟨C, mc, v, u, e, r, cv, hq⟩ g1 => ⟨C, mc, v, u, e, r, cv, q _ _ _ _ hq g1⟩
theorem w_tupRg {ta tb : TE} (h : W c (ta σ) kn n fun x kn1 n1 => W c (tb σ) kn1 n1 fun y kn2 n2 => ∃ i j, x = .int i ∧ y = .int j ∧ RgOk i j ∧ ∀ q, kn2 q = none → Q (.ref q) (upd kn2 q (.tup (rgV i j))) n2) : W c (tTupRg (tRg2 ta tb) σ) kn n Q :=
  fun H g Q' q => h H g _ fun x kn1 n1 H1 h1 g1 => h1 H1 g1 _ fun y kn2 n2 H2 ⟨i, j, e1, e2, ok, h2⟩ g2 => ⟨i, j, e1, e2, ok, fun p hp => q _ _ _ _ (h2 p (g2.free hp)) (g2.new hp)⟩
theorem w_fmtI {te : TE} (h : W c (te σ) kn n fun x kn1 n1 => ∃ i : Int, x = .int i ∧ i.natAbs.log2 < 1920 ∧ Q (.str (toString i)) kn1 n1) : W c (tFmt te σ) kn n Q :=
  fun H g Q' q => h H g _ fun x kn1 n1 H1 ⟨i, e, hi, hq⟩ g1 => .inr ⟨i, e, hi, q _ _ _ _ hq g1⟩
theorem w_fmtS {te : TE} (h : W c (te σ) kn n fun x kn1 n1 => ∃ y : Str, x = .str y ∧ y.length ≤ sizeLine ∧ Q (.str y) kn1 n1) : W c (tFmt te σ) kn n Q :=
  fun H g Q' q => h H g _ fun x kn1 n1 H1 ⟨i, e, hi, hq⟩ g1 => .inl ⟨i, e, hi, q _ _ _ _ hq g1⟩
theorem w_js0 {acc : Str} {QS : Str → Hp → Nat → Prop} (q : QS acc kn n) : W c (tJs [] acc σ) kn n QS := fun H g _ k => k _ kn n H q g
theorem w_js {t : TE} {ts : List TE} {acc : Str} {QS : Str → Hp → Nat → Prop} (h : W c (t σ) kn n fun x kn1 n1 => ∃ y : Str, x = .str y ∧ (acc ++ y).length ≤ sizeLine ∧ W c (tJs ts (acc ++ y) σ) kn1 n1 QS) : W c (tJs (t :: ts) acc σ) kn n QS :=
  fun H g Q' q => h H g _ fun x kn1 n1 H1 ⟨y, e, hl, h2⟩ g1 => ⟨y, e, hl, h2 H1 g1 Q' q⟩
theorem w_joined {ts : List TE} (h : W c (tJs ts Str.empty σ) kn n fun out kn1 n1 => Q (.str out) kn1 n1) : W c (fun H Q' => tJs ts Str.empty σ H fun out H1 => Q' (.str out) H1) kn n Q :=
  fun H g Q' q => h H g _ fun out kn1 n1 H1 h1 g1 => q _ _ _ _ h1 g1
theorem r_repr {a : Addr} {d : PyData} (hd : Dp K kn (.ref a) d) (h1 : d.showable = true) (h2 : d.hasDict = false) (h3 : d.depth ≤ 64) (h4 : d.shown.length ≤ sizeLine) (q : Q (.str d.shown) kn n) : W c (rRepr K [.ref a]) kn n Q :=
  fun H g _ k => ⟨a, d, rfl, Dp.ext g.ex d _ hd, h1, h2, h3, h4, k _ kn n H q g⟩
theorem r_isK {a D dd : Addr} {fs : List (Str × V)} {cv : V} {u : Value} {b : Bool} (k : ClsV cv u) (ea : kn a = some (exh a (.ref D) (some dd))) (ed : kn dd = some (.xd fs)) (ex : ExcC K D) (e : PySem.W.kitOne K (.ref D) u = some b) (q : Q (.bl b) kn n) : W c (rIsK K [.ref a, cv]) kn n Q :=
  fun H g _ f => ⟨a, D, dd, fs, cv, u, b, rfl, k, g.ex _ _ ea, g.ex _ _ ed, ex, e, f _ kn n H q g⟩
theorem w_xk {te : TE} {f : Str} (h : W c (te σ) kn n fun x kn1 n1 => ∃ (a C dd : Addr) (fs : List (Str × V)) (v : V), x = .ref a ∧ kn1 a = some (exh a (.ref C) (some dd)) ∧ kn1 dd = some (.xd fs) ∧ XfC K C ∧ PySem.W.findIn K (.ref C) f = some none ∧ fs.lookup f = some v ∧ Q v kn1 n1) : W c (tXk K te f σ) kn n Q :=
  fun H g Q' q => h H g _ fun x kn1 n1 H1 ⟨a, C, dd, fs, v, e, ea, ed, xf, hn, hl, hq⟩ g1 => ⟨a, C, dd, fs, v, e, g1.ex _ _ ea, g1.ex _ _ ed, xf, hn, hl, q _ _ _ _ hq g1⟩
theorem w_dnew (h : ∀ q, kn q = none → Q (.ref q) (upd kn q (.dK [])) n) : W c (tDNewK σ) kn n Q := fun H g Q' q => fun p hp => q _ _ _ _ (h p (g.free hp)) (g.new hp)
theorem w_chain {r r' : R2} {ta tb tc : TE} (h : W c (ta σ) kn n fun x kn1 n1 => W c (tb σ) kn1 n1 fun y kn2 n2 => W c (r x y) kn2 n2 fun z kn3 n3 => ∃ k, z = .bl k ∧ (k = true → W c (tc σ) kn3 n3 fun w kn4 n4 => W c (r' y w) kn4 n4 Q) ∧ (k = false → Q (.bl false) kn3 n3)) : W c (tChain r r' ta tb tc σ) kn n Q :=
  fun H g Q' q => h H g _ fun x kn1 n1 H1 h1 g1 => h1 H1 g1 _ fun y kn2 n2 H2 h2 g2 => h2 H2 g2 _ fun z kn3 n3 H3 h3 g3 => by
    obtain ⟨k, e, a, b⟩ := h3
    refine ⟨k, e, ?_⟩
    cases k with
    | true => exact iteT (a rfl H3 g3 _ fun w kn4 n4 H4 h4 g4 => h4 H4 g4 Q' q)
    | false => exact iteF (q _ _ _ _ (b rfl) g3)
variable {D : AE}
theorem s_fld {ta tv : TE} {f : Str} (h : W c (tv σ) kn n fun y kn1 n1 => W c (ta σ) kn1 n1 fun x kn2 n2 => ∃ a C dx fs, x = .ref a ∧ kn2 a = some (.ins C dx fs) ∧ Cls K C ∧ NoAttr K C f ∧ fs.length < 1000 ∧ D.nx σ (upd kn2 a (.ins C dx (putF f y fs))) n2) : WS c (sFld K ta tv f) D σ kn n :=
  fun H g D' fit => h H g _ fun y kn1 n1 H1 h1 g1 => h1 H1 g1 _ fun x kn2 n2 H2 ⟨a, C, dx, fs, e, ha, cl, na, hl, hq⟩ g2 => ⟨a, C, dx, fs, e, g2.ex _ _ ha, cl, na, hl, fit.nx _ _ _ _ hq (g2.put ha rfl)⟩
theorem s_aug {i : Nat} {te : TE} {ti : TIp} {x : V} (hv : σ[i]? = some (some x)) (h : W c (te σ) kn n fun y kn1 n1 => W c (ti x y) kn1 n1 fun z kn2 n2 => D.nx (σ.set i (some z)) kn2 n2) : WS c (tAug i te ti) D σ kn n :=
  fun H g D' fit => ⟨x, hv, h H g _ fun y kn1 n1 H1 h1 g1 => h1 H1 g1 _ fun z kn2 n2 H2 h2 g2 => fit.nx _ _ _ _ h2 g2⟩
theorem room_u128 {k : Nat} {A : Around} (r : Room k A) : A.units + 128 < cLine := by have := r.un; omega
/-- an error class whose __init__ sets one field -/
def spX1 (K : PySem.W.Frag) (f : Str) : Sp := fun vs H Q _ => ∃ (a C : Addr) (y : V), vs = [.ref a, y] ∧ OexC K C ∧ PySem.W.findIn K (.ref C) f = some none ∧ H a = some (exo a C none) ∧
  ∀ dx, H dx = none → dx ≠ a → Q .non (upd (upd H dx (exd dx [(f, y)])) a (exo a C (some dx)))
theorem x1_end {H : Hp} {a d : Addr} {o1 o2 o3 o4 : HO} (ha : H a = none) (hd : d ≠ a) : upd (del (upd (upd (upd H a o1) d o2) a o3) a) d o4 = upd H d o4 := by
  funext x
  by_cases h1 : x = d
  · rw [h1, upd_same, upd_same]
  · rw [upd_ne h1, upd_ne h1]
    by_cases h2 : x = a
    · rw [h2, del_same, ha]
    · rw [del_ne h2, upd_ne h2, upd_ne h1, upd_ne h2]
theorem s_raise1 {C : Addr} {f : Str} {ta : TA} (oc : OexC K C) (hf : PySem.W.findIn K (.ref C) f = some none) (hE : ErrOk c EA E)
    (h : W c (ta σ) kn n fun vs kn1 n1 => ∃ y, vs = [y] ∧ ∀ d, kn1 d = none → EA (.ref C) (some d) (upd kn1 d (.xd [(f, y)])) n1) :
    WS c (fun _ σ H => tMkO C (spX1 K f) [] ta σ H fun cls d H' => E cls d H') D σ kn n :=
  fun H g D' fit => h H g _ fun vs kn1 n1 H1 ⟨y, e, h1⟩ g1 => by
    subst e
    refine ⟨Nat.le_add_left 1 999, fun a ha => ⟨a, C, y, rfl, oc, hf, upd_same, fun d hd hda => ⟨rfl, d, [(f, y)], upd_same, ?_, ?_, ?_⟩⟩⟩
    · rw [upd_ne hda, upd_same]
    · rw [upd_ne hda] at hd
      exact hd
    · rw [upd_ne hda] at hd
      rw [x1_end ha hda]
      exact hE _ _ _ _ _ (h1 d (g1.free hd)) (g1.new hd)
end
end AW

/-! C(.., k = v) at the abstract layer. -/
namespace L2
open PySem PySem.Spec PyProof.Rows
/-- o.m(k = v, ..), no positional argument -/
def tMethKW (C : Addr) (m : Str) (b : Nat) (sp : Sp) (gV : List V → List V → List V) (E : XK) (ta : TE) (tk : TA) : TE := fun σ H Q => ta σ H fun x H1 => ∃ a dx fs, x = .ref a ∧ H1 a = some (.ins C dx fs) ∧ fs.lookup m = none ∧ tk σ H1 fun zs H2 => zs.length = b ∧ sp (gV [x] zs) H2 Q E
section
variable {X : Cx} {CX : CXT} {k : Nat} {f C : Addr} {fd : FuncData} {ps ks : List Str} {sp : Sp} {E : XK} {m : Str} {apos pos : Pos} {o : Expr} {kws : List Keyword} {ta : TE} {tk : TA} {g : List Value → List Value → List Value} {gV : List V → List V → List V}
theorem pe_methKW {pl : Sem Bool} (he : PE X o ta) (c : Cls X.K C) (hm : Meth X.K C m f) (F : FnOk X.prog X.w X.K X.mg X.base CX k f fd ps sp) (hr : Room k X.A) (hb : KBn X.K fd ps 1 ks g gV) (hx : Passes CX X E) (hkw : PK X kws tk)
    (hall : (backToKw pos (keywordEach kws X.env)).all (·.1.isSome) = true := by rfl) (hks : (backToKw pos (keywordEach kws X.env)).filterMap (·.1) = ks := by rfl)
    (hpl : ((backTo pos (starEach [] X.env)).any (·.1) || (backToKw pos (keywordEach kws X.env)).any (·.1.isNone)) = false := by rfl)
    (ht : eval (.Call (.Attribute o m apos) [] kws pos) X.env = (do
      let ov ← eval o X.env
      standAt apos.atName
      let (fn, first) ← holding [ov] (getMethod ov m pl)
      callWith pos fn first (backTo pos (starEach [] X.env)) (backToKw pos (keywordEach kws X.env))) := by rfl) :
    PE X (.Call (.Attribute o m apos) [] kws pos) (tMethKW C m ks.length sp gV E ta tk) := by
  refine ⟨fun pins s σ H Q I h => ?_⟩
  refine PySem.W.methodCall_KW (pl := pl) (thn (he.run pins s σ H _ I h) fun u s1 ⟨x, H1, I1, rx, a, dx, fs, ex, ea, l, q⟩ => ?_) ht
  subst ex
  cases (show u = Value.ref a from rx)
  refine getmeth_ok I1 ea c hm l ?_
  refine PySem.W.callWith_KW0 (first := [.ref a]) (h₀ := X.base) I1.ok.mod.kin hm.kp hall ?_ hpl
  refine thn (hkw.run pos pins s1 σ H1 _ I1 q) fun ws s2 ⟨zs, H2, I2, rz, lz, q2⟩ => ⟨I2.kIn, ?_⟩
  rw [hks]
  have r1 : Vals [V.ref a] [Value.ref a] := .cons rfl .nil
  have lw : ws.length = ks.length := rz.length.symm.trans lz
  refine wpAny_call (codeAny_mono (F.run X.A X.stack s2 H2 ⟨[.ref a], ks.zip ws⟩ (g [.ref a] ws) (gV [.ref a] zs) Q E hr I2.env0 (hb.to s2 [.ref a] ws I2.kIn rfl lw) (hb.rel r1 rz) q2) fun r s' hq => ?_)
  cases r with
  | error e => exact hx pins σ H2 s2 e s' I2 hq
  | ok fl =>
    cases fl with
    | ret u => exact I2.after hq
    | next => exact False.elim hq
    | brk => exact False.elim hq
    | cont => exact False.elim hq
end
end L2
namespace AW
open PySem PySem.Spec PyProof.Rows L2
section
variable {c : Cw} {kn : Hp} {n : Nat} {σ : L2.St} {Q : V → Hp → Nat → Prop} {E : XK} {EA : EAK} {B : List V → Hp → AK → AXK → Prop} {C : Addr} {a b : Nat} {gV : List V → List V → List V} {t tk : TA}
theorem w_makeN (hm : MonoX B) (hE : ErrOk c EA E) (h : W c (t σ) kn n fun vs kn1 n1 => W c (tk σ) kn1 n1 fun zs kn2 n2 => vs.length = a ∧ zs.length = b ∧ ∀ x dx, kn2 x = none → kn2 dx = none → dx ≠ x →
    B (gV (.ref x :: vs) zs) (upd (upd kn2 dx (.own x)) x (.ins C dx [])) (fun v k => v = .non ∧ Q (.ref x) k n2) (fun cls d k => EA cls d k n2)) : W c (tMakeN C a b (liftX B) gV E t tk σ) kn n Q :=
  fun H g Q' q => h H g _ fun vs kn1 n1 H1 h1 g1 => h1 H1 g1 _ fun zs kn2 n2 H2 ⟨l1, l2, h2⟩ g2 => ⟨l1, l2, fun x dx hx hdx hne => by
    have hx2 : upd H2 dx (.own x) x = none := by rw [upd_ne (Ne.symm hne)]; exact hx
    exact sp_call (c := c) (n := n2) (Q := fun v k m => v = .non ∧ Q (.ref x) k m) hm hE (h2 x dx (g2.free hx) (g2.free hdx) hne) _ ((g2.new hdx).new hx2) (fun v H3 => v = .non ∧ Q' (.ref x) H3) fun v k m H3 hq g3 => ⟨hq.1, q _ _ _ _ hq.2 g3⟩⟩
theorem w_makeK (hm : MonoX B) (hE : ErrOk c EA E) (h : W c (t σ) kn n fun vs kn1 n1 => W c (tk σ) kn1 n1 fun zs kn2 n2 => vs.length = a ∧ zs.length = b ∧ ∀ x dx, kn2 x = none → kn2 dx = none → dx ≠ x →
    B (gV (.ref x :: vs) zs) (upd (upd kn2 dx (.own x)) x (.ins C dx [])) (fun v k => v = .non ∧ Q (.ref x) k n2) (fun cls d k => EA cls d k n2)) : W c (tMakeK C a b (liftX B) gV E t tk σ) kn n Q :=
  fun H g Q' q => h H g _ fun vs kn1 n1 H1 h1 g1 => h1 H1 g1 _ fun zs kn2 n2 H2 ⟨l1, l2, h2⟩ g2 => ⟨l1, l2, fun x dx hx hdx hne => by
    have hx2 : upd H2 dx (.own x) x = none := by rw [upd_ne (Ne.symm hne)]; exact hx
    exact sp_call (c := c) (n := n2) (Q := fun v k m => v = .non ∧ Q (.ref x) k m) hm hE (h2 x dx (g2.free hx) (g2.free hdx) hne) _ ((g2.new hdx).new hx2) (fun v H3 => v = .non ∧ Q' (.ref x) H3) fun v k m H3 hq g3 => ⟨hq.1, q _ _ _ _ hq.2 g3⟩⟩
theorem w_methKW {m : Str} {ta : TE} (hm : MonoX B) (hE : ErrOk c EA E) (h : W c (ta σ) kn n fun x kn1 n1 => ∃ a dx fs, x = .ref a ∧ kn1 a = some (.ins C dx fs) ∧ fs.lookup m = none ∧
    W c (tk σ) kn1 n1 fun zs kn2 n2 => zs.length = b ∧ B (gV [.ref a] zs) kn2 (fun v k => Q v k n2) (fun cls d k => EA cls d k n2)) : W c (tMethKW C m b (liftX B) gV E ta tk σ) kn n Q :=
  fun H g Q' q => h H g _ fun x kn1 n1 H1 h1 g1 => by
    obtain ⟨a, dx, fs, rfl, ha, hl, h2⟩ := h1
    exact ⟨a, dx, fs, rfl, g1.ex _ _ ha, hl, h2 H1 g1 _ fun zs kn2 n2 H2 ⟨lz, h3⟩ g2 => ⟨lz, sp_call hm hE h3 H2 g2 Q' q⟩⟩
end
end AW

/-! x in o, x not in o: o of an own class with __contains__; truth of an own class by __bool__ or __len__ is not here. -/
namespace L2
open PySem PySem.Spec PyProof.Rows
section
variable {X : Cx} {CX : CXT} {k : Nat} {f C : Addr} {fd : FuncData} {ps : List Str} {sp : Sp}
def rInO (C : Addr) (sp : Sp) (neg : Bool) : R2 := fun x y H Q => ∃ a dx fs, y = .ref a ∧ H a = some (.ins C dx fs) ∧ sp [.ref a, x] H (fun v H' => ∃ b, v = .bl b ∧ Q (.bl (if neg then !b else b)) H') (fun _ _ _ => False)
theorem op_inO (M : SpM X.K C f "__contains__") (F : FnOk X.prog X.w X.K X.mg X.base CX k f fd ps sp) (hr : Room k X.A) (hb : Binds X.K fd ps []) (hx : Passes CX X (fun _ _ _ => False)) : OpR X (compareOp .In) (rInO C sp false) := by
  intro pins s σ H x y v u Q I rx ry h
  obtain ⟨a, dx, fs, rfl, ha, hq⟩ := h
  cases (show u = Value.ref a from ry)
  obtain ⟨_, J, _⟩ := ins_get I.hok ha
  obtain ⟨_, J, _⟩ := J.look
  obtain ⟨_, hF⟩ := I.fr
  refine PySem.W.in_K hF I.ok.mod.kin J M.hs M.hf (wpAny_mono (callA (vs := [.ref a, x]) F hr rfl hb hx I (.cons rfl (.cons rx .nil)) hq) (fun z s' hz => ?_) fun _ _ z => z)
  obtain ⟨v', H', I', rv, b, e, q⟩ := hz
  subst e
  cases (show z = Value.bool b from rv)
  exact wpAny_truthy_bool ⟨.bl b, H', I', rfl, q⟩
theorem op_notInO (M : SpM X.K C f "__contains__") (F : FnOk X.prog X.w X.K X.mg X.base CX k f fd ps sp) (hr : Room k X.A) (hb : Binds X.K fd ps []) (hx : Passes CX X (fun _ _ _ => False)) : OpR X (compareOp .NotIn) (rInO C sp true) := by
  intro pins s σ H x y v u Q I rx ry h
  obtain ⟨a, dx, fs, rfl, ha, hq⟩ := h
  cases (show u = Value.ref a from ry)
  obtain ⟨_, J, _⟩ := ins_get I.hok ha
  obtain ⟨_, J, _⟩ := J.look
  obtain ⟨_, hF⟩ := I.fr
  refine PySem.W.notIn_K hF I.ok.mod.kin J M.hs M.hf (wpAny_mono (callA (vs := [.ref a, x]) F hr rfl hb hx I (.cons rfl (.cons rx .nil)) hq) (fun z s' hz => ?_) fun _ _ z => z)
  obtain ⟨v', H', I', rv, b, e, q⟩ := hz
  subst e
  cases (show z = Value.bool b from rv)
  exact wpAny_truthy_bool ⟨.bl (!b), H', I', rfl, q⟩
end
end L2
namespace AW
open PySem PySem.Spec PyProof.Rows L2
section
variable {c : Cw} {kn : Hp} {n : Nat} {Q : V → Hp → Nat → Prop} {B : List V → Hp → AK → AXK → Prop}
theorem r_inO {C a dx : Addr} {fs : List (Str × V)} {x : V} {neg : Bool} (hm : MonoX B) (ha : kn a = some (.ins C dx fs)) (h : B [.ref a, x] kn (fun v k => ∃ b, v = .bl b ∧ Q (.bl (if neg then !b else b)) k n) (fun _ _ _ => False)) : W c (rInO C (liftX B) neg x (.ref a)) kn n Q :=
  fun H g Q' q => ⟨a, dx, fs, rfl, g.ex _ _ ha, sp_call (EA := fun _ _ _ _ => False) (Q := fun v k n => ∃ b, v = .bl b ∧ Q (.bl (if neg then !b else b)) k n) hm err_no h H g _ fun v kn1 n1 H1 ⟨b, e, hq⟩ g1 => ⟨b, e, q _ _ _ _ hq g1⟩⟩
end
end AW

/-! The pen: what it draws is not told, but its bounds. -/
namespace AW
open PySem PySem.Spec PyProof.Rows L2 LamX
/-- the pen: a list of the cells' list, the spot, the number that is left over -/
structure PenAt (H : Hp) (p a : Addr) (ns : List Int) (n : Nat) : Prop where
  pen : ∃ i g : Int, H p = some (.lst [.ref a, .int i, .int g]) ∧ 0 ≤ i ∧ i ≤ n ∧ 0 ≤ g
  cells : H a = some (.lst (ns.map V.int))
  pa : p ≠ a
theorem PenAt.mono {H : Hp} {p a : Addr} {ns : List Int} {n m : Nat} (h : PenAt H p a ns n) (e : n ≤ m) : PenAt H p a ns m := by
  obtain ⟨⟨i, g, h1, h2, h3, h4⟩, h5, h6⟩ := h
  exact ⟨⟨i, g, h1, h2, by omega, h4⟩, h5, h6⟩
/-- _law_draw -/
def spDraw : Sp := fun vs H Q _ => ∃ (p a : Addr) (ns : List Int) (n : Nat) (many : Int), vs = [.ref p, .int many] ∧ PenAt H p a ns n ∧ n < 1000000 ∧ 0 < many ∧ many < 1180591620717411303424 ∧
  ∀ (k : Int) (H' : Hp), 0 ≤ k → k < many → PenAt H' p a ns (n + 1) → (∀ x o, x ≠ p → H x = some o → H' x = some o) → Q (.int k) H'
theorem nil_eqv (ns : List Int) : PyData.eqv (.list (ns.map PyData.int)) (.list []) = ns.isEmpty := by
  cases ns <;> simp [PyData.eqv, PyData.eqvAll]
theorem dp_ints {K : PySem.W.Frag} {H : Hp} : ∀ ns : List Int, DpAll K H (ns.map V.int) (ns.map PyData.int)
  | [] => .nil
  | n :: r => .cons (.int n) (dp_ints r)
theorem mul_bd {a b A B : Int} (h1 : 0 ≤ a) (h2 : a ≤ A) (h3 : 0 ≤ b) (h4 : b ≤ B) : 0 ≤ a * b ∧ a * b ≤ A * B :=
  ⟨Int.mul_nonneg h1 h3, Int.mul_le_mul h2 h4 h3 (Int.le_trans h1 h2)⟩
theorem at_mod (ns : List Int) (i : Int) (h : 0 < ns.length) : ∃ z, atI (ns.map V.int) (i % ((ns.map V.int).length : Int)) = some (.int z) := by
  rw [List.length_map]
  have h1 : 0 ≤ i % (ns.length : Int) := Int.emod_nonneg _ (by omega)
  have h2 : i % (ns.length : Int) < ns.length := Int.emod_lt_of_pos _ (by omega)
  obtain ⟨j, hj⟩ : ∃ j : Nat, i % (ns.length : Int) = j := ⟨(i % (ns.length : Int)).toNat, by omega⟩
  have hj2 : j < ns.length := by omega
  rw [hj]
  refine ⟨ns[j], atI_nat ?_⟩
  rw [List.getElem?_map, List.getElem?_eq_getElem hj2]
  rfl
theorem lay_ints : ∀ ns : List Int, PyData.canLayAll0 (ns.map PyData.int) = true
  | [] => by simp [PyData.canLayAll0]
  | n :: r => by simp only [List.map_cons, PyData.canLayAll0, PyData.canLay0, Bool.true_and]; exact lay_ints r
theorem deep_ints : ∀ ns : List Int, PyData.depthAll (ns.map PyData.int) = 0
  | [] => by simp [PyData.depthAll]
  | n :: r => by simp only [List.map_cons, PyData.depthAll, PyData.depth]; rw [deep_ints r]; rfl
theorem shaped_ints (ns : List Int) : SeqAt.shaped (.list (ns.map PyData.int)) = true := by
  unfold SeqAt.shaped
  rw [show PyData.canLay0 (.list (ns.map PyData.int)) = true by simp only [PyData.canLay0]; exact lay_ints ns, show PyData.depth (.list (ns.map PyData.int)) = 1 by simp only [PyData.depth]; rw [deep_ints ns]]
  rfl
theorem weigh_int {i : Int} (h : i.natAbs < 10 ^ 12) : PyData.weight (.int i) ≤ 41 := by
  simp only [PyData.weight]
  split
  · omega
  · rename_i z
    have z0 : i.natAbs ≠ 0 := fun e => z (by rw [beq_iff_eq]; omega)
    have a : i.natAbs < 2 ^ 40 := by omega
    have := (Nat.log2_lt z0).mpr a
    omega
theorem weigh_ints : ∀ ns : List Int, (∀ n ∈ ns, n.natAbs < 10 ^ 12) → PyData.weightAll (ns.map PyData.int) ≤ 42 * ns.length
  | [], _ => by simp [PyData.weightAll]
  | n :: r, h => by
    have h1 := weigh_int (h n List.mem_cons_self)
    have h2 := weigh_ints r fun m hm => h m (List.mem_cons_of_mem _ hm)
    simp only [List.map_cons, PyData.weightAll, List.length_cons]
    omega
theorem lay0_ints {ns : List Int} (h : ∀ n ∈ ns, n.natAbs < 10 ^ 12) (l : ns.length ≤ 1000) : PyData.layable0 (.list (ns.map PyData.int)) = true := by
  have h1 := weigh_ints ns h
  have h2 : PyData.weight (.list (ns.map PyData.int)) ≤ 2 ^ 20 := by simp only [PyData.weight]; omega
  unfold PyData.layable0
  rw [show PyData.canLay0 (.list (ns.map PyData.int)) = true by simp only [PyData.canLay0]; exact lay_ints ns, show PyData.depth (.list (ns.map PyData.int)) = 1 by simp only [PyData.depth]; rw [deep_ints ns], decide_eq_true h2]
  rfl
theorem show_ints : ∀ ns : List Int, (∀ n ∈ ns, n.natAbs < 10 ^ 12) → PyData.showableAll (ns.map PyData.int) = true
  | [], _ => by simp [PyData.showableAll]
  | n :: r, h => by
    have h0 : n.natAbs.log2 < 1920 := by
      have := h n List.mem_cons_self
      by_cases z : n.natAbs = 0
      · rw [z]; decide
      · exact Nat.lt_trans ((Nat.log2_lt z).mpr (show n.natAbs < 2 ^ 40 by omega)) (by decide)
    simp only [List.map_cons, PyData.showableAll, PyData.showable, decide_eq_true h0, Bool.true_and]
    exact show_ints r fun m hm => h m (List.mem_cons_of_mem _ hm)
theorem nodict_ints : ∀ ns : List Int, PyData.hasDictAll (ns.map PyData.int) = false
  | [] => by simp [PyData.hasDictAll]
  | n :: r => by simp only [List.map_cons, PyData.hasDictAll, PyData.hasDict, Bool.false_or]; exact nodict_ints r
theorem r_reprInts {K : PySem.W.Frag} {c : Cw} {kn : Hp} {n : Nat} {Q : V → Hp → Nat → Prop} {a : Addr} {vs : List V} (ns : List Int) (e : vs = ns.map V.int) (h : kn a = some (.lst vs)) (hb : ∀ n ∈ ns, n.natAbs < 10 ^ 12) (hl : ns.length ≤ 1000) (q : Q (.str (PyData.shown (.list (ns.map PyData.int)))) kn n) : W c (rRepr K [.ref a]) kn n Q := by
  subst e
  refine r_repr (.lst (sql h) (dp_ints ns)) ?_ ?_ ?_ ?_ q
  · simp only [PyData.showable]; exact show_ints ns hb
  · simp only [PyData.hasDict]; exact nodict_ints ns
  · simp only [PyData.depth]; rw [deep_ints ns]; decide
  · exact PyData.shown_fits_of_layable0 (B := 13) (by decide) (by decide) (lay0_ints hb hl) (by simp only [PyData.intsShort]; exact PyData.intsShortAll_ints ns hb)
theorem r_cat {c : Cw} {kn : Hp} {n : Nat} {Q : V → Hp → Nat → Prop} {l b : Addr} {xs zs : List V} (h1 : kn l = some (.lst xs)) (h2 : kn b = some (.lst zs)) (hz : xs.length + zs.length ≤ 1000) (q : ∀ p, kn p = none → Q (.ref p) (upd kn p (.lst (xs ++ zs))) n) : W c (rCat (.ref l) (.ref b)) kn n Q :=
  fun H g _ k => ⟨l, b, xs, zs, rfl, rfl, g.ex _ _ h1, g.ex _ _ h2, Nat.le_trans hz (by rw [sizeLine_eq]; decide), fun p hp => k _ _ _ _ (q p (g.free hp)) (g.new hp)⟩
theorem w_append {K : PySem.W.Frag} {c : Cw} {kn : Hp} {n i : Nat} {σ : L2.St} {Q : V → Hp → Nat → Prop} {l : Addr} {xs0 : List V} {t : TA} (hv : σ[i]? = some (some (.ref l))) (h0 : kn l = some (.lst xs0))
    (h : W c (t σ) kn n fun vs kn1 n1 => ∃ y xs, vs = [y] ∧ kn1 l = some (.lst xs) ∧ xs.length ≤ 1000 ∧ Q .non (upd kn1 l (.lst (xs ++ [y]))) n1) : W c (tBM K "list" rAppend (tVar i) t σ) kn n Q :=
  fun H g Q' q => ⟨.ref l, hv, .inl ⟨rfl, _, sql (g.ex _ _ h0)⟩, h H g _ fun vs kn1 n1 H1 ⟨y, xs, e, e1, hl, hq⟩ g1 => ⟨l, xs, y, rfl, e, g1.ex _ _ e1, Nat.lt_of_le_of_lt hl (by rw [sizeLine_eq]; decide), q _ _ _ _ hq (g1.put e1 rfl)⟩⟩
theorem Good.grow {c : Cw} {kn H H' : Hp} {n : Nat} {q : Addr} {o : HO} (g : Good c kn n H) (e : Ext H H') (h0 : H q = none) (h1 : H' q = some o) (ht : isTbl o = false := by rfl) : Good c (upd kn q o) n H' := by
  refine ⟨fun x u hx => ?_, c.step n kn H H' g.inv g.res fun x u hx _ => e x u hx, fun x r => ?_, nt_upd g.nt ht⟩
  · by_cases z : x = q
    · rw [z, upd_same] at hx; cases hx; rw [z]; exact h1
    · rw [upd_ne z] at hx; exact e x u (g.ex x u hx)
  · rw [upd_ne (fun z => c.live n H x g.inv r (by rw [z]; exact h0))]
    exact g.res x r
/-- the pen and its cells alone are known -/
def penKn (H : Hp) (p a : Addr) : Hp := fun x => if x = p ∨ x = a then H x else none
theorem TabS.keep {H H' : Hp} {P : Addr} {q : Str} (e : ∀ b o, H b = some o → isMut o = false → H' b = some o) (h : TabS H P q) : TabS H' P q := by
  obtain ⟨ps, h1, h2, h3⟩ := h
  refine ⟨ps, e _ _ h1 rfl, h2, fun pos cv hc => ?_⟩
  obtain ⟨c, e1, e2⟩ := h3 pos cv hc
  exact ⟨c, e1, e _ _ e2 rfl⟩
theorem Tabs.keep {T : List (Addr × Str)} {H H' : Hp} (e : ∀ b o, H b = some o → isMut o = false → H' b = some o) (h : Tabs T H) : Tabs T H' := fun p hp => TabS.keep e (h p hp)
def penC (p a : Addr) (ns : List Int) (T : List (Addr × Str)) : Cw where
  inv n H := PenAt H p a ns n ∧ Tabs T H
  res x := x = p ∨ x = a ∨ ∃ t ∈ T, x = t.1
  live n H x h r := by
    obtain ⟨⟨⟨i, g, h1, _⟩, h2, _⟩, hT⟩ := h
    rcases r with rfl | rfl | ⟨t, ht, rfl⟩
    · rw [h1]; exact fun z => nomatch z
    · rw [h2]; exact fun z => nomatch z
    · obtain ⟨ps, h3, _⟩ := hT t ht
      rw [h3]; exact fun z => nomatch z
  step n kn H H' h r k := by
    obtain ⟨⟨⟨i, g, h1, h1'⟩, h2, h3⟩, hT⟩ := h
    exact ⟨⟨⟨i, g, k _ _ h1 (.inl (r _ (.inl rfl))), h1'⟩, k _ _ h2 (.inl (r _ (.inr (.inl rfl)))), h3⟩, Tabs.keep (fun b o e m => k b o e (.inr m)) hT⟩
  up n m H h l := ⟨h.1.mono l, h.2⟩
section
variable {p a : Addr} {ns : List Int} {T : List (Addr × Str)} {kn : Hp} {n : Nat} {σ : L2.St} {Q : V → Hp → Nat → Prop} {E : XK} {EA : EAK} {B : List V → Hp → AK → AXK → Prop} {t : TA}
theorem w_draw (h : W (penC p a ns T) (t σ) kn n fun vs kn1 n1 => ∃ many, vs = [.ref p, .int many] ∧ n1 < 1000000 ∧ 0 < many ∧ many < 1180591620717411303424 ∧ ∀ k : Int, 0 ≤ k → k < many → Q (.int k) kn1 (n1 + 1)) : W (penC p a ns T) (tCall spDraw [] E t σ) kn n Q :=
  fun H g Q' q => h H g _ fun vs kn1 n1 H1 h1 g1 => by
    obtain ⟨many, rfl, b1, b2, b3, h2⟩ := h1
    refine ⟨p, a, ns, n1, many, rfl, g1.inv.1, b1, b2, b3, fun k H' k0 k1 hp hk => q _ _ _ _ (h2 k k0 k1) ⟨fun x o e => hk x o (fun z => ?_) (g1.ex x o e), ⟨hp, Tabs.keep (fun b o e m => hk b o (fun z => ?_) e) g1.inv.2⟩, g1.res, g1.nt⟩⟩
    · have := g1.res x (.inl z)
      rw [e] at this
      cases this
    · obtain ⟨i, g, hP, _⟩ := g1.inv.1.pen
      rw [z, hP] at e
      cases e
      cases m
/-- a promise of a def that draws m times at most -/
def liftP (T : List (Addr × Str)) (m : Nat) (B : List V → Hp → AK → AXK → Prop) : Sp := fun vs H Q E => ∃ p a ns n kn ws, vs = .ref p :: ws ∧ Good (penC p a ns T) kn n H ∧ n + m < 1000000 ∧
  B ws kn (fun v k => ∀ H', Good (penC p a ns T) k (n + m) H' → Q v H') (fun cls d k => ∀ H', Good (penC p a ns T) k (n + m) H' → E cls d H')
theorem w_callP {m : Nat} (hm : MonoX B) (hE : ErrOk (penC p a ns T) EA E) (h : W (penC p a ns T) (t σ) kn n fun vs kn1 n1 => ∃ ws, vs = .ref p :: ws ∧ n1 + m < 1000000 ∧ B ws kn1 (fun v k => Q v k (n1 + m)) (fun cls d k => EA cls d k (n1 + m))) : W (penC p a ns T) (tCall (liftP T m B) [] E t σ) kn n Q :=
  fun H g Q' q => h H g _ fun vs kn1 n1 H1 h1 g1 => by
    obtain ⟨ws, rfl, hb, h2⟩ := h1
    refine ⟨p, a, ns, n1, kn1, ws, by simp, g1, hb, hm _ _ _ _ _ _ (fun v k hq H' g' => q _ _ _ _ hq g') (fun cls d k hq H' g' => hE _ _ _ _ _ hq g') h2⟩
theorem takes_len {X : Cx} {W : WX} {m : Nat} (tk : L2.Takes X W) (h : X.N.length = m := by rfl) : L2.Takes X (fun cls d σ H => σ.length = m → W cls d σ H) :=
  fun u s' ⟨a, B, sI, pins, σ, H, cls, d, e, I, nb, up, sky, na, os, ag, w⟩ => tk u s' ⟨a, B, sI, pins, σ, H, cls, d, e, I, nb, up, sky, na, os, ag, w (I.len.trans h)⟩
/-- the abstract meaning of def heard(ask): [what was found], or (.., the error's field) -/
def EAh (B : Addr) (word : Str) (Q : V → Hp → Nat → Prop) : EAK := fun cls d kn n => cls = .ref B ∧ ∃ dd fs y, d = some dd ∧ kn dd = some (.xd fs) ∧ fs.lookup ("part" : Str) = some y ∧
  ∀ q kn2, Ext kn kn2 → kn q = none → kn2 q = some (.tup [.str word, y]) → Q (.ref q) kn2 n
def TTh (B : Addr) (word : Str) : (XK → Hp → VK → Prop) → Hp → VK → Prop := fun tl H Q => ∃ (c : Cw) (kn : Hp) (n : Nat) (QA : V → Hp → Nat → Prop), Good c kn n H ∧ (∀ v kn' n' H', QA v kn' n' → Good c kn' n' H' → Q v H') ∧
  ∀ E, ErrOk c (EAh B word QA) E → W c (fun H' Q' => tl E H' Q') kn n fun v kn1 n1 => ∀ q, kn1 q = none → QA (.ref q) (upd kn1 q (.lst [v])) n1
theorem good_lam {H H1 : Hp} (g : Good (penC p a ns T) kn n H) (e : ExtN H H1) (hT : Tabs T H1) : Good (penC p a ns T) kn n H1 := by
  obtain ⟨⟨⟨i, k, h1, h1'⟩, h2, h3⟩, _⟩ := g.inv
  refine ⟨fun x o hx => e x o (g.ex x o hx) (fun ps z => ?_), ⟨⟨⟨i, k, e _ _ h1 (fun _ z => nomatch z), h1'⟩, e _ _ h2 (fun _ z => nomatch z), h3⟩, hT⟩, g.res, g.nt⟩
  have := g.nt x o hx
  rw [z] at this
  cases this
theorem w_lam {B : Addr} {word : Str} {tt : XK → TE}
    (h : ∀ E, ErrOk (penC p a ns T) (EAh B word Q) E → W (penC p a ns T) (tt E σ) kn n fun v kn1 n1 => ∀ q, kn1 q = none → Q (.ref q) (upd kn1 q (.lst [v])) n1) : W (penC p a ns T) (tLam T (TTh B word) tt σ) kn n Q :=
  fun H g Q' q => ⟨g.inv.2, fun H1 e hT => ⟨penC p a ns T, kn, n, Q, good_lam g e hT, q, h⟩⟩
theorem fin_at {c : Cw} {kn : Hp} {n m : Nat} {P : Hp → Prop} (le : n ≤ m) (f : ∀ H', Good c kn m H' → P H') : ∀ H', Good c kn n H' → P H' := fun H' g => f H' (g.up le)
end
end AW

/-! Built-in types as right operands of own operators. -/
namespace L2
open PySem PySem.Spec PyProof.Rows
section
variable {K : PySem.W.Frag} {C : Addr}
theorem ot_int_shr (h : PySem.W.subIn K (.type "int") (.ref C) = some false) : OpT K .RShift C (.type "int") := .ty (r := true) (o := some (.builtin "int.__rrshift__")) (by first | rfl | kernel_rfl) h (by rw [typeLookup_type, builtinLookup_eq_fast]; kernel_rfl)
theorem ot_int_shl (h : PySem.W.subIn K (.type "int") (.ref C) = some false) : OpT K .LShift C (.type "int") := .ty (r := true) (o := some (.builtin "int.__rlshift__")) (by first | rfl | kernel_rfl) h (by rw [typeLookup_type, builtinLookup_eq_fast]; kernel_rfl)
theorem ot_int_div (h : PySem.W.subIn K (.type "int") (.ref C) = some false) : OpT K .FloorDiv C (.type "int") := .ty (r := true) (o := some (.builtin "int.__rfloordiv__")) (by first | rfl | kernel_rfl) h (by rw [typeLookup_type, builtinLookup_eq_fast]; kernel_rfl)
theorem ot_bool_div (h : PySem.W.subIn K (.type "bool") (.ref C) = some false) : OpT K .FloorDiv C (.type "bool") := .ty (r := true) (o := some (.builtin "int.__rfloordiv__")) (by first | rfl | kernel_rfl) h (by rw [typeLookup_type, builtinLookup_eq_fast]; kernel_rfl)
theorem ot_none_div (h : PySem.W.subIn K (.type "NoneType") (.ref C) = some false) : OpT K .FloorDiv C (.type "NoneType") := .ty (r := false) (o := none) (by first | rfl | kernel_rfl) h (by rw [typeLookup_type, builtinLookup_eq_fast]; kernel_rfl)
theorem ot_str_div (h : PySem.W.subIn K (.type "str") (.ref C) = some false) : OpT K .FloorDiv C (.type "str") := .ty (r := false) (o := none) (by first | rfl | kernel_rfl) h (by rw [typeLookup_type, builtinLookup_eq_fast]; kernel_rfl)
theorem ot_tuple_div (h : PySem.W.subIn K (.type "tuple") (.ref C) = some false) : OpT K .FloorDiv C (.type "tuple") := .ty (r := false) (o := none) (by first | rfl | kernel_rfl) h (by rw [typeLookup_type, builtinLookup_eq_fast]; kernel_rfl)
theorem ot_list_div (h : PySem.W.subIn K (.type "list") (.ref C) = some false) : OpT K .FloorDiv C (.type "list") := .ty (r := false) (o := none) (by first | rfl | kernel_rfl) h (by rw [typeLookup_type, builtinLookup_eq_fast]; kernel_rfl)
theorem ot_dict_div (h : PySem.W.subIn K (.type "dict") (.ref C) = some false) : OpT K .FloorDiv C (.type "dict") := .ty (r := false) (o := none) (by first | rfl | kernel_rfl) h (by rw [typeLookup_type, builtinLookup_eq_fast]; kernel_rfl)
end
end L2

/-! iter(t) of a tuple; list(o), o of an own class whose __iter__ gives that, with a __len__ of its own. -/
namespace L2
open PySem PySem.Spec PyProof.Rows
def TitO (t it : Addr) : HO := .ext fun h => h.IsTupleIter it t 0
theorem titO_ok {P : Program} {w : World} {H : Hp} {h : Heap} {t it : Addr} (e : h.IsTupleIter it t 0) : ObjOk P w H h it (TitO t it) := ⟨e, (let ⟨o, ho, _⟩ := e; ⟨o, ho⟩), fun h1 h2 q k => let ⟨o, ho, r⟩ := q; ⟨o, k _ ho, r⟩⟩
def rIterT (K : PySem.W.Frag) : List V → Hp → VK → Prop := fun xs H Q => ∃ (t : Addr) (zs : List V), xs = [.ref t] ∧ SqT K H t zs ∧ ∀ it, H it = none → Q (.ref it) (upd H it (TitO t it))
section
variable {X : Cx}
theorem c_iterT : CallR X (.builtin "iter") (rIterT X.K) := by
  intro pins s σ H xs us Q I r h
  obtain ⟨t, zs, rfl, hq, q⟩ := h
  obtain ⟨u, rfl, rx⟩ := vals1 r
  cases (show u = Value.ref t from rx)
  obtain ⟨its, rv, pl, hz⟩ := I.tuple hq
  refine Calls.call_function_entry (by decide +kernel) (by decide +kernel) PySem.W.kdk_entry_iter (PySem.W.kdk_args_iter _) ?_
  unfold Builtin.«iter»
  refine wpAny_bind (m := someArgs "iter" 1 2 _) (wpAny_of_eq (a := [Value.ref t]) (by first | rfl | kernel_rfl!) ?_)
  show wpAny _ _ (pyIter (.ref t) >>= _) _ _ _
  refine wpAny_bind (wpAny_pyIter_tuple pl ?_)
  refine wpAny_pure ⟨_, rfl, ?_⟩
  exact ⟨.ref s.heap.objs.size, _, I.laid (t' := s.toks) (fun b u e => Heap.get?_push_of_some _ e) (Nat.le_refl _) (titO_ok ⟨_, Heap.get?_push_size _ rfl, rfl, rfl⟩), rfl, q _ (I.hok.fresh (Nat.le_refl _))⟩
/-- the promise of such an __iter__ -/
def spIterT (C : Addr) (f : Str) : Sp := fun vs H Q _ => ∃ a dx fs t zs, vs = [.ref a] ∧ H a = some (.ins C dx fs) ∧ fs.lookup f = some (.ref t) ∧ H t = some (.tup zs) ∧ ∀ it, H it = none → Q (.ref it) (upd H it (TitO t it))
variable {kI kL n : Nat} {C fI fL S a t : Addr} {fdI fdL : FuncData} {psI psL : List Str} {spL : Sp} {f : Str} {A1 : Around} {pins : List (Addr × Obj)} {σ : St} {HA : Hp} {sA : Shared} {dx : Addr} {fs : List (Str × V)} {zs : List V} {Rs : Result → Shared → Prop}
/-- what the own __len__ answers, wherever more is known -/
def TellsLen (spL : Sp) (a : Addr) (H : Hp) (n : Nat) : Prop := ∀ H', (∀ b o, H b = some o → H' b = some o) → spL [.ref a] H' (fun v H2 => v = .int (n : Int) ∧ ∀ b o, H' b = some o → H2 b = some o) (fun _ _ _ => False)
theorem lot_hint {Q : Bool → Shared → Prop} {E : Value → Shared → Prop} {H : Hp} {s : Shared} (ML : SpM X.K C fL "__len__") (FL : FnOk X.prog X.w X.K X.mg X.base CX0 kL fL fdL psL spL) (bL : Binds X.K fdL psL []) (hr : Room (kL + 1) A1) (hfr : A1.frames = X.A.frames)
    (I : Inv X pins σ H s) (ha : H a = some (.ins C dx fs)) (hz : n ≤ 1000) (hL : TellsLen spL a H n)
    (q : ∀ k s' H', Inv X pins σ H' s' → Un (frs X.stack) [] H H' s.heap s'.heap → s'.os = s.os → (∀ b o, H b = some o → H' b = some o) → Q k s') : wpAny (model X.prog X.w) A1 (Builtin.List.listLengthHint (.ref a)) Q E s := by
  obtain ⟨mA, J, _⟩ := ins_get I.hok ha
  obtain ⟨od, J, _⟩ := J.look
  obtain ⟨m0, hF⟩ := I.fr
  unfold Builtin.List.listLengthHint
  refine wpAny_bind (wpAny_bind (J.type.here ((PySem.W.looks_findIn I.kIn ML.hs).here ?_)))
  refine PySem.W.KFB.if_not rfl ?_
  dsimp only
  refine wpAny_ite_split (fun _ => ?_) (fun z => absurd rfl z)
  refine wpAny_bind (wpAny_rule ?_)
  have e0 : Env0 X.prog X.w X.K X.mg X.base A1.in1 X.stack s H := by
    have e := I.env0
    exact ⟨hfr.trans e.frames, e.mod, e.bs, e.bsz, e.funs, e.frf, e.hok, e.bare⟩
  have r2 : Vals [V.ref a] [Value.ref a] := .cons rfl .nil
  have hsp := hL H fun _ _ z => z
  have hlen := FL.len _ _ _ _ hsp
  refine wpAny_bind (wpAny_attempt (PySem.W.len_K hF I.ok.mod.kin J ML.hs ML.hf (wpAny_call (codeAny_mono (FL.run A1.in1 X.stack s H ⟨[.ref a], []⟩ [.ref a] [.ref a] _ _ hr.in1 e0 (by
    have := bL s [.ref a] I.kIn (by simpa using hlen)
    simpa using this) r2 hsp) fun r s1 hq1 => ?_))))
  cases r with
  | error e => exact hq1.elim
  | ok fl =>
    cases fl with
    | next => exact False.elim hq1
    | brk => exact False.elim hq1
    | cont => exact False.elim hq1
    | ret u =>
      obtain ⟨v, H1, os1, bare1, un1, hok1, rv, ev, ex1⟩ := (show CE _ _ _ _ _ _ _ _ from hq1)
      subst ev
      obtain ⟨tk, rfl⟩ := (show ∃ tk, u = Value.int (n : Int) tk from rv)
      obtain ⟨h1, g1, d1, t1, o1⟩ := s1
      cases (show o1 = s.os from os1)
      have I1 : Inv X pins σ H1 _ := I.call (h' := h1) (g' := g1) (d' := d1) (t' := t1 + 1) (ch := []) un1 hok1 bare1 (fun b z => absurd z (by simp))
      refine ⟨⟨Int.natCast_nonneg _, by omega⟩, ?_⟩
      refine wpAny_bind (m := asInt? (.int (n : Int) _)) (wpAny_pure ?_)
      dsimp only
      have small : Builtin.List.listTooLong ((n : Int)).toNat = false := by
        rw [Int.toNat_natCast]
        unfold Builtin.List.listTooLong
        exact decide_eq_false (by rw [sizeLine_eq]; omega)
      refine PySem.W.KFB.if_not small ?_
      exact wpAny_pure (q _ _ H1 I1 un1 rfl ex1)
theorem items_same {its : List Value} {acc : Array Value} (h : ItemsOf (fun i v => its.toArray[i]? = some v) acc its.toArray.size) : acc.toList = its := by
  refine List.ext_getElem? fun j => ?_
  have h1 : acc.size = its.length := h.1.trans List.size_toArray
  cases e : acc[j]? with
  | some u =>
    have q : its.toArray[j]? = some u := h.2 j u e
    rw [List.getElem?_toArray] at q
    rw [Array.getElem?_toList, e, q]
  | none =>
    have l : acc.size ≤ j := Array.getElem?_eq_none_iff.mp e
    rw [Array.getElem?_toList, e, List.getElem?_eq_none (by omega)]
theorem lot_extend (MI : SpM X.K C fI "__iter__") (FI : FnOk X.prog X.w X.K X.mg X.base CX0 kI fI fdI psI (spIterT C f)) (bI : Binds X.K fdI psI []) (ML : SpM X.K C fL "__len__") (FL : FnOk X.prog X.w X.K X.mg X.base CX0 kL fL fdL psL spL) (bL : Binds X.K fdL psL [])
    (rI : Room kI A1.in1) (rL : Room (kL + 1) A1.in1) (hfr : A1.in1.frames = X.A.frames) (IA : Inv X pins σ HA sA) (ha : HA a = some (.ins C dx fs)) (hl : fs.lookup f = some (.ref t)) (ht : HA t = some (.tup zs)) (hz : zs.length ≤ 1000)
    (hL : TellsLen spL a HA zs.length) (hS : HA S = some (.lst [])) (hdone : ∀ s5 H5, Inv X pins σ H5 s5 → (∀ b o, b ≠ S → HA b = some o → H5 b = some o) → H5 S = some (.lst zs) → Rs (.ok (.ret .none)) s5) :
    wpAny (model X.prog X.w) A1.in1 (Builtin.List.listExtendWith (.ref S) (.ref a) .none)
      (fun fin s' => match fin with | .done g => Rs (.ok g) s' | .again cd => cd.quiet = true ∧ codeAny (model X.prog X.w) A1 cd Rs s') (fun e s' => Rs (.error e) s') sA := by
  have neq : S ≠ a := fun z => by rw [z, ha] at hS; cases hS
  obtain ⟨mA, J, _⟩ := ins_get IA.hok ha
  obtain ⟨od, J, _⟩ := J.look
  obtain ⟨m0, hF⟩ := IA.fr
  unfold Builtin.List.listExtendWith
  refine wpAny_bind (J.type.here ?_)
  have z1 : Builtin.List.listSameRef (.ref S) (.ref a) = false := by simp [Builtin.List.listSameRef, neq]
  have z2 : ((Value.ref C) == (Value.type "list")) = false := rfl
  have z3 : ((Value.ref C) == (Value.type "tuple")) = false := rfl
  simp only [z1, z2, z3, Bool.or_false, Bool.false_eq_true, if_false]
  refine wpAny_bind (PySem.W.owit_iter hF IA.ok.mod.kin J MI.hs MI.hf ?_)
  have e0 : Env0 X.prog X.w X.K X.mg X.base A1.in1 X.stack sA HA := by
    have e := IA.env0
    exact ⟨hfr.trans e.frames, e.mod, e.bs, e.bsz, e.funs, e.frf, e.hok, e.bare⟩
  have rv0 : Vals [V.ref a] [Value.ref a] := .cons rfl .nil
  have hsp : spIterT C f [.ref a] HA (fun v H' => ∃ it, HA it = none ∧ v = .ref it ∧ H' = upd HA it (TitO t it)) (fun _ _ _ => False) := ⟨a, dx, fs, t, zs, rfl, ha, hl, ht, fun it hi => ⟨it, hi, rfl, rfl⟩⟩
  have hlen := FI.len _ _ _ _ hsp
  refine wpAny_call (codeAny_mono (FI.run A1.in1 X.stack sA HA ⟨[.ref a], []⟩ [.ref a] [.ref a] _ _ rI e0 (by
    have z := bI sA [.ref a] IA.kIn (by simpa using hlen)
    simpa using z) rv0 hsp) fun r s1 hr1 => ?_)
  cases r with
  | error e => exact hr1.elim
  | ok fl =>
    cases fl with
    | next => exact False.elim hr1
    | brk => exact False.elim hr1
    | cont => exact False.elim hr1
    | ret u =>
      obtain ⟨v, H1, os1, bare1, un1, hok1, rv, it, hit, ev, eH⟩ := (show CE _ _ _ _ _ _ _ _ from hr1)
      subst ev
      subst eH
      cases (show u = Value.ref it from rv)
      obtain ⟨h1, g1, d1, t1, o1⟩ := s1
      cases (show o1 = sA.os from os1)
      have I1 : Inv X pins σ (upd HA it (TitO t it)) _ := IA.call (h' := h1) (g' := g1) (d' := d1) (t' := t1) (ch := []) un1 hok1 bare1 (fun b z => absurd z (by simp))
      have ex1 : ∀ b o, HA b = some o → upd HA it (TitO t it) b = some o := fun b o e => by rw [upd_ne (ne_of_none e hit)]; exact e
      have ti1 : h1.IsTupleIter it t 0 := (hok1 it _ upd_same).1
      show PySem.W.OwitIt _ _ _ _ _ _
      unfold PySem.W.OwitIt
      refine wpAny_specialOf (name := Str.ofString "__next__") (s := ⟨h1, g1, d1, t1, sA.os⟩) ti1.typeIs PySem.F.slot_tuple_iterator_next.lookup ?_
      dsimp only
      refine wpAny_bind (wpAny_holding (lot_hint ML FL bL rL hfr I1 (ex1 _ _ ha) hz (fun H' e => hL H' fun b o z => e b o (ex1 b o z)) fun k s2 H2 I2 un2 os2 ex2 => ?_))
      have nSi : S ≠ it := ne_of_none hS hit
      have hS2 : H2 S = some (.lst []) := ex2 _ _ (ex1 _ _ hS)
      have hT2 : H2 it = some (TitO t it) := ex2 _ _ upd_same
      have ht2 : H2 t = some (.tup zs) := ex2 _ _ (ex1 _ _ ht)
      obtain ⟨its, rvs, pl, hzz⟩ := I2.tuple (.inl (.inl ht2))
      have nti : t ≠ it := ne_of_none ht hit
      have nSt : S ≠ t := fun z => by rw [z, ht] at hS; cases hS
      have hzl := rvs.length
      have un12 : Un (frs X.stack) [] HA H2 sA.heap s2.heap := un1.trans un2
      have nit : sA.heap.get? it = none := by
        cases z : sA.heap.get? it with
        | none => rfl
        | some o =>
          have := un1.free it o z hit (by simp)
          rw [upd_same] at this
          cases this
      have loop : ∀ (s4 : Shared) (c4 : Nat), (∀ b o, b ≠ S → s2.heap.get? b = some o → s4.heap.get? b = some o) → s4.heap.get? S = some { cls := .type "list", dict := none, data := .seq #[] c4, slots := #[] } → s4.gens = s2.gens → s4.os = s2.os →
          codeAny (model X.prog X.w) A1 (.builtin "list.extend.loop" ⟨[.ref S, .ref it, .none], []⟩) Rs s4 := by
        intro s4 c4 k4 e4 q4 o4
        have hh : A1.in1.handled = none := rI.hd
        have W := (Walks.tuple (prog := X.prog) (w := X.w) (A := A1.in1) hh it t nti its.toArray).toS
        have st0 : s4.heap.IsTupleIter it t 0 ∧ s4.heap.IsTuple t its.toArray := by
          refine ⟨?_, ?_⟩
          · obtain ⟨o, ho, r⟩ := (I2.hok it _ hT2).1
            exact ⟨o, k4 _ _ (Ne.symm nSi) ho, r⟩
          · obtain ⟨o, ho, r⟩ := pl
            exact ⟨o, k4 _ _ (Ne.symm nSt) ho, r⟩
        refine codeAny_extend_loopS W (by rw [List.size_toArray, sizeLine_eq]; omega) S (by simp [nSi, nSt]) .none _ 0 s4 #[] c4 rfl (Nat.zero_le _) st0 e4 (ItemsOf.nil _) fun s5 acc c5 mv e5 hacc => ?_
        have eacc : acc.toList = its := items_same hacc
        have k5 : ∀ b o, b ≠ S → b ≠ it → s2.heap.get? b = some o → s5.heap.get? b = some o := fun b o n1 n2 e => mv.heap b o (by simp [n1, n2]) (k4 b o n1 e)
        have un5 : Un (frs X.stack) [] HA (upd (del H2 it) S (.lst zs)) sA.heap s5.heap := by
          have nS : ∀ b, HA b = none → b ≠ S := fun b n z => by rw [z, hS] at n; cases n
          have nI : ∀ b o, sA.heap.get? b = some o → b ≠ it := fun b o e z => by rw [z, nit] at e; cases e
          have old : ∀ b y, HA b = some y → (∀ xs, y ≠ .lst xs) → upd (del H2 it) S (.lst zs) b = some y := fun b y e n => by
            rw [upd_ne (fun z => by rw [z, hS] at e; cases e; exact n _ rfl), del_ne (ne_of_none e hit)]
            exact ex2 _ _ (ex1 _ _ e)
          refine ⟨fun b o e n hb hx => k5 b o (nS b n) (nI b o e) (un12.keep b o e n hb hx), fun b o e n hb hx => ?_, fun b o e n hx => ?_, fun b o e hx => ?_, fun b xs e => old b _ e (fun _ z => nomatch z), fun b o y e => old b _ e (fun _ z => nomatch z), fun b ps e => ⟨#[], ?_⟩⟩
          · obtain ⟨sl, e'⟩ := un12.slot b o e n hb hx
            exact ⟨sl, k5 b _ (nS b n) (nI b o e) e'⟩
          · rw [upd_ne (nS b n), del_ne (nI b o e)]; exact un12.free b o e n hx
          · by_cases z : b = S
            · rw [z]; exact ⟨_, e5⟩
            · obtain ⟨o', e'⟩ := un12.there b o e hx
              exact ⟨o', k5 b o' z (nI b o e) e'⟩
          · rw [old b _ e (fun _ z => nomatch z)]; simp
        have hok5 : HOk X.prog X.w (upd (del H2 it) S (.lst zs)) s5.heap := fun b y e => by
          by_cases z : b = S
          · rw [z, upd_same] at e
            cases e
            rw [z]
            refine ⟨by rw [sizeLine_eq]; omega, its, c5, rvs, ?_⟩
            rw [← eacc, Array.toArray_toList]
            exact e5
          · rw [upd_ne z] at e
            have n2 : b ≠ it := fun w => by rw [w, del_same] at e; cases e
            rw [del_ne n2] at e
            have same : ∀ c y, H2 c = some y → (∀ xs, y ≠ .lst xs) → (∀ g, y ≠ .ext g) → upd (del H2 it) S (.lst zs) c = some y := fun c y e n m => by
              rw [upd_ne (fun z => by rw [z, hS2] at e; cases e; exact n _ rfl), del_ne (fun z => by rw [z, hT2] at e; cases e; exact m _ rfl)]
              exact e
            refine (I2.hok b y e).stay (fun c x hc q => k5 c x ?_ ?_ q) (fun c q => same c _ q (fun _ w => nomatch w) (fun _ w => nomatch w)) fun c xs q => same c _ q (fun _ w => nomatch w) (fun _ w => nomatch w)
            · rcases hc with hc | hc
              · rw [hc]; exact z
              · exact fun w => by rw [w, hS2] at hc; cases hc
            · rcases hc with hc | hc
              · rw [hc]; exact n2
              · exact fun w => by rw [w, hT2] at hc; cases hc
        obtain ⟨h5, g5, d5, t5, o5⟩ := s5
        have bare5 : AllBare g5 := by
          have : g5 = s4.gens := mv.gens
          rw [this, q4]
          exact I2.bare
        cases (show o5 = sA.os from (mv.os.trans o4).trans os2)
        refine hdone _ _ (IA.call (h' := h5) (g' := g5) (d' := d5) (t' := t5) (ch := []) un5 hok5 bare5 (fun b z => absurd z (by simp))) (fun b o nb e => ?_) upd_same
        rw [upd_ne nb, del_ne (ne_of_none e hit)]
        exact ex2 _ _ (ex1 _ _ e)
      obtain ⟨z4, its4, k4, r4, hl4, e4⟩ := I2.lstM hS2
      cases r4
      refine wpAny_ite_split (fun _ => ?_) (fun _ => wpAny_pure ⟨plainId_quiet PySem.F.plain_extend_loop _, loop s2 k4 (fun _ _ _ e => e) e4 rfl rfl⟩)
      refine wpAny_bind (wpAny_rule (wpAny_bind ?_))
      show wpAny _ _ (updateSeq S (·.push .none) >>= fun _ => updateSeq S (·.pop)) _ _ _
      refine wpAny_bind (wpAny_updateSeq e4 rfl ?_)
      have q1 := PySem.IsL.update e4 (·.push Value.none)
      refine wpAny_updateSeq q1 rfl ?_ (by show 1 ≤ sizeLine; rw [sizeLine_eq]; decide) (by show 0 ≤ sizeLine + 1; exact Nat.zero_le _)
      have q2 := PySem.IsL.update q1 (·.pop)
      refine wpAny_pure ⟨plainId_quiet PySem.F.plain_extend_loop _, loop _ _ (fun b o nb e => ?_) q2 rfl rfl⟩
      exact (Heap.get?_update_other _ _ (Ne.symm nb)).trans ((Heap.get?_update_other _ _ (Ne.symm nb)).trans e)
/-- list(o) -/
def rListOT (C : Addr) (f : Str) (spL : Sp) : List V → Hp → VK → Prop := fun xs H Q => ∃ a dx fs t zs, xs = [.ref a] ∧ H a = some (.ins C dx fs) ∧ fs.lookup f = some (.ref t) ∧ H t = some (.tup zs) ∧ zs.length ≤ 1000 ∧ TellsLen spL a H zs.length ∧
  ∀ q H', H q = none → (∀ b o, H b = some o → H' b = some o) → H' q = some (.lst zs) → Q (.ref q) H'
theorem c_listOT (MI : SpM X.K C fI "__iter__") (FI : FnOk X.prog X.w X.K X.mg X.base CX0 kI fI fdI psI (spIterT C f)) (bI : Binds X.K fdI psI []) (ML : SpM X.K C fL "__len__") (FL : FnOk X.prog X.w X.K X.mg X.base CX0 kL fL fdL psL spL) (bL : Binds X.K fdL psL [])
    (rI : Room (kI + 2) X.A) (rL : Room (kL + 3) X.A) : CallR X (.type "list") (rListOT C f spL) := by
  intro pins s σ H xs us Q I rv h
  obtain ⟨a, dx, fs, t, zs, rfl, ha, hl, ht, hz, hL, hq⟩ := h
  obtain ⟨u, rfl, ru⟩ := vals1 rv
  cases (show u = Value.ref a from ru)
  refine callType_codes (Q₁ := fun ob z => ob = .ref s.heap.objs.size ∧ z = { s with heap := s.heap.push { cls := .type "list", data := .seq #[] } })
    PySem.F.called_list (PySem.F.typeCall_list_1 _) PySem.F.entry_list_init (code_list_new _ ⟨rfl, rfl⟩) fun ob z hoz => ?_
  obtain ⟨rfl, rfl⟩ := hoz
  have gS : (s.heap.push { cls := .type "list", data := .seq #[] }).get? s.heap.objs.size = some { cls := .type "list", data := .seq #[] } := Heap.get?_push_size _ rfl
  refine ⟨⟨_, gS, rfl⟩, PySem.F.args_list_init_2 _ _, ?_⟩
  have nS : H s.heap.objs.size = none := I.hok.fresh (Nat.le_refl _)
  have J1 : Inv X pins σ (upd H s.heap.objs.size (.lst [])) { s with heap := s.heap.push { cls := .type "list", data := .seq #[] } } := I.lnew (its := []) (t' := s.toks) .nil (Nat.zero_le _)
  show wpAny _ _ (do
    let old ← Builtin.List.listItems (.ref s.heap.objs.size)
    Builtin.List.listUpdate (.ref s.heap.objs.size) (fun _ => #[])
    letGo old.toList.reverse
    Builtin.List.listExtendWith (.ref s.heap.objs.size) (.ref a) .none) _ _ _
  refine wpAny_bind ?_
  unfold Builtin.List.listItems
  refine wpAny_bind (wpAny_seqItems gS rfl (wpAny_pure ?_))
  show wpAny _ _ (updateSeq s.heap.objs.size (fun _ => #[]) >>= fun _ =>
    letGo (#[] : Array Value).toList.reverse >>= fun _ =>
    Builtin.List.listExtendWith (.ref s.heap.objs.size) (.ref a) .none) _ _ _
  refine wpAny_bind (wpAny_updateSeq gS rfl ?_)
  have J2 := J1.lset (f := fun _ => #[]) (its := []) (its' := []) (ys := []) (t' := s.toks) upd_same gS rfl .nil (Nat.zero_le _)
  rw [upd_upd] at J2
  refine wpAny_bind (wpAny_letGo ?_)
  have old : ∀ b o, H b = some o → upd H s.heap.objs.size (.lst []) b = some o := fun b o e => by rw [upd_ne (ne_of_none e nS)]; exact e
  exact lot_extend (A1 := X.A.in1) (Rs := wants (fun r z => r = .none ∧ EP X pins σ Q (.ref s.heap.objs.size) z) X.xe) MI FI bI ML FL bL (Room.in1 (Room.in1 rI)) (Room.in1 (Room.in1 rL)) rfl J2 (old _ _ ha) hl (old _ _ ht) hz
    (fun H' e => hL H' fun b o z => e b o (old b o z)) upd_same
    (fun s5 H5 I5 e5 q5 => ⟨rfl, .ref s.heap.objs.size, H5, I5, rfl, hq _ H5 nS (fun b o z => e5 b o (ne_of_none z nS) (old b o z)) q5⟩)
end
end L2

/-! for x in o, o of an own class whose __iter__ gives iter(t), t a tuple of its: the iterator is young. -/
namespace L2
open PySem PySem.Spec PyProof.Rows
/-- a promise that may tell the heap's size at the entry -/
structure FnN (P : Program) (w : World) (K : PySem.W.Frag) (mg : Str → Option Value) (base : Heap) (CX : CXT) (k : Nat) (f : Addr) (fd : FuncData) (ps : List Str) (sp : Nat → Sp) : Prop where
  len : ∀ n vs H Q E, sp n vs H Q E → vs.length = ps.length
  run : ∀ (A : Around) (outer : List Env) (s : Shared) (H : Hp) (args : Args) (us : List Value) (vs : List V) (Q : VK) (E : XK), Room k A → Env0 P w K mg base A outer s H → BindsTo s fd args (ps.zip us) → Vals vs us → sp s.heap.objs.size vs H Q E →
    codeAny (model P w) A (.call (.ref f) args) (CR CX outer P w H s Q E) s
theorem Fun.okN {P : Program} {w : World} {K : PySem.W.Frag} {mg : Str → Option Value} {base : Heap} {x qual : Str} {st : Stmt} {f : Addr} {fd : FuncData} {N ps : List Str} {k : Nat} {sp : Nat → Sp} (F : Fun K x qual st f fd) (S : FnScope N ps (defScope st)) (len : ∀ n vs H Q E, sp n vs H Q E → vs.length = ps.length)
    (hb : ∀ (cdv : Value) (A : Around) (outer : List Env) (s : Shared) (H : Hp) (vs : List V) (Q : VK) (E : XK), Room k (A.deeper (envOfC qual (defScope st) s.heap.objs.size f cdv)) → sp s.heap.objs.size vs H Q E →
      ∃ t, PSs (cxOf CX0 P w K mg base N qual (defScope st) f cdv A outer s H E).nox (defBody st) t ∧ t { nx := fun _ H' => Q .non H', rt := Q } (start N vs) H) : FnN P w K mg base CX0 (k + 1) f fd ps sp := by
  obtain ⟨oc, od, kV, doc, pm, an, cdv, ct, osl, rfl, lk, hcd⟩ := F.ex
  refine ⟨len, fun A outer s H args us vs Q E hr e0 hbd r hsp => LamX.run_ofS lk hcd S hr e0 hbd r (len _ _ _ _ _ hsp) fun hr' => ?_⟩
  obtain ⟨t, h, q⟩ := hb cdv A outer s H vs Q E hr' hsp
  exact ⟨t, h.nox, q⟩
def rIterTN (K : PySem.W.Frag) (n : Nat) : List V → Hp → VK → Prop := fun xs H Q => ∃ (t : Addr) (zs : List V), xs = [.ref t] ∧ SqT K H t zs ∧ ∀ it, H it = none → n ≤ it → Q (.ref it) (upd H it (TitO t it))
section
variable {X : Cx}
theorem c_iterTN : CallR X (.builtin "iter") (rIterTN X.K X.s_0.heap.objs.size) := by
  intro pins s σ H xs us Q I r h
  obtain ⟨t, zs, rfl, hq, q⟩ := h
  obtain ⟨u, rfl, rx⟩ := vals1 r
  cases (show u = Value.ref t from rx)
  obtain ⟨its, rv, pl, hz⟩ := I.tuple hq
  refine Calls.call_function_entry (by decide +kernel) (by decide +kernel) PySem.W.kdk_entry_iter (PySem.W.kdk_args_iter _) ?_
  unfold Builtin.«iter»
  refine wpAny_bind (m := someArgs "iter" 1 2 _) (wpAny_of_eq (a := [Value.ref t]) (by first | rfl | kernel_rfl!) ?_)
  show wpAny _ _ (pyIter (.ref t) >>= _) _ _ _
  refine wpAny_bind (wpAny_pyIter_tuple pl (wpAny_pure ⟨_, rfl, ?_⟩))
  exact ⟨.ref s.heap.objs.size, _, I.laid (t' := s.toks) (fun b u e => Heap.get?_push_of_some _ e) (Nat.le_refl _) (titO_ok ⟨_, Heap.get?_push_size _ rfl, rfl, rfl⟩), rfl, q _ (I.hok.fresh (Nat.le_refl _)) I.sz⟩
def spIterN (C : Addr) (f : Str) : Nat → Sp := fun n vs H Q _ => ∃ a dx fs t zs, vs = [.ref a] ∧ H a = some (.ins C dx fs) ∧ fs.lookup f = some (.ref t) ∧ H t = some (.tup zs) ∧ ∀ it, H it = none → n ≤ it → Q (.ref it) (upd H it (TitO t it))
theorem FnN.plain {P : Program} {w : World} {K : PySem.W.Frag} {mg : Str → Option Value} {base : Heap} {k : Nat} {f C : Addr} {fd : FuncData} {ps : List Str} {g : Str} (F : FnN P w K mg base CX0 k f fd ps (spIterN C g)) : FnOk P w K mg base CX0 k f fd ps (spIterT C g) :=
  ⟨fun vs H Q E h => F.len 0 vs H Q E (let ⟨a, dx, fs, t, zs, h1, h2, h3, h4, q⟩ := h; ⟨a, dx, fs, t, zs, h1, h2, h3, h4, fun it hi _ => q it hi⟩),
   fun A outer s H args us vs Q E hr e0 hb r h => F.run A outer s H args us vs Q E hr e0 hb r (let ⟨a, dx, fs, t, zs, h1, h2, h3, h4, q⟩ := h; ⟨a, dx, fs, t, zs, h1, h2, h3, h4, fun it hi _ => q it hi⟩)⟩
/-- for .. in e, e of such a class -/
def iOwnT (K : PySem.W.Frag) (C : Addr) (f : Str) (te : TE) : TI := fun σ H R => te σ H fun x H1 => ∃ a dx fs t zs, x = .ref a ∧ H1 a = some (.ins C dx fs) ∧ fs.lookup f = some (.ref t) ∧ H1 t = some (.tup zs) ∧ R (Itt K t) H1
variable {kI : Nat} {C fI : Addr} {fdI : FuncData} {psI : List Str} {f : Str} {e tg : Expr} {te : TE}
theorem pi_ownT (MI : SpM X.K C fI "__iter__") (FI : FnN X.prog X.w X.K X.mg X.base CX0 kI fI fdI psI (spIterN C f)) (bI : Binds X.K fdI psI []) (rI : Room kI X.A) (he : PE X e te) : PI X tg e (iOwnT X.K C f te) := by
  refine ⟨fun pins s σ H R I h => ?_⟩
  refine thn (he.run pins s σ H _ I h) fun v s0 ⟨x, HA, IA, rx, a, dx, fs, t, zs, ex, ha, hl, ht, q⟩ => ?_
  subst ex
  cases (show v = Value.ref a from rx)
  obtain ⟨mA, J, _⟩ := ins_get IA.hok ha
  obtain ⟨od, J, _⟩ := J.look
  obtain ⟨m0, hF⟩ := IA.fr
  refine PySem.W.owit_iter hF IA.ok.mod.kin J MI.hs MI.hf ?_
  have rv0 : Vals [V.ref a] [Value.ref a] := .cons rfl .nil
  have hsp : spIterN C f s0.heap.objs.size [.ref a] HA (fun v H' => ∃ it, HA it = none ∧ s0.heap.objs.size ≤ it ∧ v = .ref it ∧ H' = upd HA it (TitO t it)) (fun _ _ _ => False) := ⟨a, dx, fs, t, zs, rfl, ha, hl, ht, fun it hi hn => ⟨it, hi, hn, rfl, rfl⟩⟩
  have hlen := FI.len _ _ _ _ _ hsp
  refine wpAny_call (codeAny_mono (FI.run X.A X.stack s0 HA ⟨[.ref a], []⟩ [.ref a] [.ref a] _ _ rI IA.env0 (by
    have z := bI s0 [.ref a] IA.kIn (by simpa using hlen)
    simpa using z) rv0 hsp) fun r s1 hr1 => ?_)
  cases r with
  | error e => exact hr1.elim
  | ok fl =>
    cases fl with
    | next => exact False.elim hr1
    | brk => exact False.elim hr1
    | cont => exact False.elim hr1
    | ret u =>
      obtain ⟨v, H1, I1, rv, it, hit, hy, ev, eH⟩ := IA.after hr1
      subst ev
      subst eH
      cases (show u = Value.ref it from rv)
      have ti1 : s1.heap.IsTupleIter it t 0 := (I1.hok it _ upd_same).1
      show PySem.W.OwitIt _ _ _ _ _ _
      unfold PySem.W.OwitIt
      refine wpAny_specialOf (name := Str.ofString "__next__") ti1.typeIs PySem.F.slot_tuple_iterator_next.lookup ?_
      dsimp only
      have I2 := ItX.inv_drop I1 upd_same
      have fp := ItX.inv_fp I1 upd_same (Nat.le_trans IA.sz hy)
      rw [ItX.dropH_upd hit] at I2 fp
      exact ⟨it, [it], _, _, HA, rfl, I2, turn_tuple t it, ti1, fun b hb => by rw [List.mem_singleton.mp hb]; exact fp, q⟩
end
end L2

/-! Loops and comprehensions over what is known: lists, tuples, ranges, own classes. -/
namespace AW
open PySem PySem.Spec PyProof.Rows L2
/-- what an iterator gives, as long as ka holds -/
def Gives (J : It) (xs : List V) (ka : Hp → Prop) : Prop := ∀ kn H, Ext kn H → ka kn →
  (∀ i, i < xs.length → J.go i H) ∧ (∀ i, xs.length ≤ i → J.stop i H) ∧ ∀ i x H', J.yld i H x H' → H' = H ∧ (i < xs.length → xs[i]? = some x)
def WI (c : Cw) (wi : Hp → (It → Hp → Prop) → Prop) (kn : Hp) (n : Nat) (R : It → Hp → Nat → Prop) : Prop :=
  ∀ H, Good c kn n H → ∀ R' : It → Hp → Prop, (∀ J kn' n' H', R J kn' n' → Good c kn' n' H' → R' J H') → wi H R'
section
variable {K : PySem.W.Frag} {a : Addr} {xs : List V}
theorem gives_tup : Gives (Itt K a) xs fun kn => kn a = some (.tup xs) := fun kn H e h =>
  ⟨fun i hi => ⟨xs, xs[i], sqt (e _ _ h), List.getElem?_eq_getElem hi⟩, fun i hi => ⟨xs, sqt (e _ _ h), hi⟩, fun i x H' y => ⟨y.1, fun _ => y.2 xs (sqt (e _ _ h))⟩⟩
theorem gives_lst : Gives (Itl K a) xs fun kn => kn a = some (.lst xs) := fun kn H e h =>
  ⟨fun i hi => ⟨xs, xs[i], sql (e _ _ h), List.getElem?_eq_getElem hi⟩, fun i hi => ⟨xs, sql (e _ _ h), hi⟩, fun i x H' y => ⟨y.1, fun _ => y.2 xs (sql (e _ _ h))⟩⟩
theorem gives_rng {lo : Int} {m : Nat} : Gives (Itr lo m) ((List.range m).map fun i => V.int (lo + (i : Nat))) fun _ => True := fun kn H e h =>
  ⟨fun i hi => by rw [List.length_map, List.length_range] at hi; exact hi, fun i hi => by rw [List.length_map, List.length_range] at hi; exact hi,
   fun i x H' y => ⟨y.1, fun hi => by rw [List.length_map, List.length_range] at hi; rw [List.getElem?_map, List.getElem?_range hi, y.2]; rfl⟩⟩
variable {c : Cw} {kn : Hp} {n : Nat} {σ : L2.St} {R : It → Hp → Nat → Prop} {te : TE} {ta : TA}
theorem i_tup (h : W c (te σ) kn n fun x kn1 n1 => ∃ a xs, x = .ref a ∧ kn1 a = some (.tup xs) ∧ R (Itt K a) kn1 n1) : WI c (iTup K te σ) kn n R :=
  fun H g R' q => h H g _ fun x kn1 n1 H1 ⟨a, xs, e, ha, hr⟩ g1 => ⟨a, e, ⟨xs, sqt (g1.ex _ _ ha)⟩, q _ _ _ _ hr g1⟩
theorem i_list (h : W c (te σ) kn n fun x kn1 n1 => ∃ a xs, x = .ref a ∧ kn1 a = some (.lst xs) ∧ R (Itl K a) kn1 n1) : WI c (iList K te σ) kn n R :=
  fun H g R' q => h H g _ fun x kn1 n1 H1 ⟨a, xs, e, ha, hr⟩ g1 => ⟨a, e, ⟨xs, sql (g1.ex _ _ ha)⟩, q _ _ _ _ hr g1⟩
theorem i_rng1 (h : W c (ta σ) kn n fun vs kn1 n1 => ∃ j : Int, vs = [.int j] ∧ -(2 ^ 62) ≤ j ∧ j < 2 ^ 62 ∧ R (Itr 0 j.toNat) kn1 n1) : WI c (iRng1 ta σ) kn n R :=
  fun H g R' q => h H g _ fun vs kn1 n1 H1 ⟨j, e, b1, b2, hr⟩ g1 => ⟨j, e, b1, b2, q _ _ _ _ hr g1⟩
theorem i_rng2 (h : W c (ta σ) kn n fun vs kn1 n1 => ∃ i j : Int, vs = [.int i, .int j] ∧ (-(2 ^ 62) ≤ i ∧ i < 2 ^ 62 ∧ -(2 ^ 62) ≤ j ∧ j < 2 ^ 62) ∧ R (Itr i (j - i).toNat) kn1 n1) : WI c (iRng2 ta σ) kn n R :=
  fun H g R' q => h H g _ fun vs kn1 n1 H1 ⟨i, j, e, b, hr⟩ g1 => ⟨i, j, e, b, q _ _ _ _ hr g1⟩
theorem i_own {C : Addr} {f : Str} (h : W c (te σ) kn n fun x kn1 n1 => ∃ a dx fs t zs, x = .ref a ∧ kn1 a = some (.ins C dx fs) ∧ fs.lookup f = some (.ref t) ∧ kn1 t = some (.tup zs) ∧ R (Itt K t) kn1 n1) : WI c (iOwnT K C f te σ) kn n R :=
  fun H g R' q => h H g _ fun x kn1 n1 H1 ⟨a, dx, fs, t, zs, e, ha, hl, ht, hr⟩ g1 => ⟨a, dx, fs, t, zs, e, g1.ex _ _ ha, hl, g1.ex _ _ ht, q _ _ _ _ hr g1⟩
/-- a loop -/
theorem s_forJ {D : AE} {wi : TI} {gt : TG} {tb : TS}
    (h : WI c (wi σ) kn n fun J kn1 n1 => ∃ (xs : List V) (ka : Hp → Prop) (Pv : Nat → L2.St → Hp → Nat → Prop), Gives J xs ka ∧ Pv 0 σ kn1 n1 ∧ (∀ i σ' kn' n', Pv i σ' kn' n' → ka kn') ∧
      (∀ i x σ' kn' n', xs[i]? = some x → Pv i σ' kn' n' → WG c gt x σ' kn' n' fun σ2 kn2 n2 => WS c tb { D with nx := Pv (i + 1), ct := Pv (i + 1), bk := D.nx } σ2 kn2 n2) ∧
      ∀ σ' kn' n', Pv xs.length σ' kn' n' → D.nx σ' kn' n') : WS c (tFor wi gt tb) D σ kn n := by
  intro H g D' f
  refine h H g _ fun J kn1 n1 H1 hJ g1 => ?_
  obtain ⟨xs, ka, Pv, hG, h0, hk, hs, hd⟩ := hJ
  refine ⟨fun i m σ' H' => m = xs.length - i ∧ i ≤ xs.length ∧ ∃ kn' n', Pv i σ' kn' n' ∧ Good c kn' n' H', ⟨_, rfl, Nat.zero_le _, kn1, n1, h0, g1⟩, ?_⟩
  rintro i m σ' H' ⟨rfl, hi, kn', n', p, g'⟩
  obtain ⟨q1, q2, q3⟩ := hG kn' H' g'.ex (hk _ _ _ _ p)
  by_cases hlt : i < xs.length
  · refine .inr ⟨q1 i hlt, fun σ2 H2 => ∃ kn2 n2, Pv (i + 1) σ2 kn2 n2 ∧ Good c kn2 n2 H2, fun σ2 H2 ⟨kn2, n2, p2, g2⟩ => ⟨xs.length - (i + 1), by omega, rfl, hlt, kn2, n2, p2, g2⟩, fun x H2 y => ?_⟩
    obtain ⟨e, hx⟩ := q3 i x H2 y
    subst e
    refine hs i x σ' kn' n' (hx hlt) p H2 g' _ fun σ3 kn3 n3 H3 h3 g3 => h3 H3 g3 _ ⟨fun σ4 kn4 n4 H4 h4 g4 => ⟨kn4, n4, h4, g4⟩, f.rt, fun σ4 kn4 n4 H4 h4 g4 => f.nx _ _ _ _ h4 g4, fun σ4 kn4 n4 H4 h4 g4 => ⟨kn4, n4, h4, g4⟩⟩
  · have e : i = xs.length := Nat.le_antisymm hi (Nat.le_of_not_lt hlt)
    exact .inl ⟨q2 i (Nat.le_of_not_lt hlt), f.nx _ _ _ _ (hd σ' kn' n' (e ▸ p)) g'⟩
/-- a comprehension of a list -/
theorem w_lc {Q : V → Hp → Nat → Prop} {wi : TI} {gt : TG} {tt : TT} {vs : List Nat}
    (h : WI c (wi σ) kn n fun J kn1 n1 => ∃ (xs : List V) (ka : Hp → Prop) (Pv : Addr → Nat → List V → Hp → Nat → Prop), Gives J xs ka ∧ xs.length ≤ 100000 ∧ (∀ D, kn1 D = none → Pv D 0 [] (upd kn1 D (.lst [])) n1) ∧
      (∀ D i acc kn' n', Pv D i acc kn' n' → ka kn' ∧ kn' D = some (.lst acc) ∧ acc.length ≤ i) ∧
      (∀ D i acc x kn' n', xs[i]? = some x → Pv D i acc kn' n' → WG c gt x (wipe σ vs) kn' n' fun σ2 kn2 n2 => wipe σ2 vs = wipe σ vs ∧ W c (tt σ2) kn2 n2 fun b kn3 n3 =>
        (b = true → W c (te σ2) kn3 n3 fun y kn4 n4 => kn4 D = some (.lst acc) ∧ Pv D (i + 1) (acc ++ [y]) (upd kn4 D (.lst (acc ++ [y]))) n4) ∧ (b = false → Pv D (i + 1) acc kn3 n3)) ∧
      ∀ D acc kn' n', Pv D xs.length acc kn' n' → Q (.ref D) kn' n') : W c (tLc wi gt tt te vs σ) kn n Q := by
  intro H g Q' q
  refine h H g _ fun J kn1 n1 H1 hJ g1 => ?_
  obtain ⟨xs, ka, Pv, hG, hz, h0, hk, hs, hd⟩ := hJ
  intro D hD
  refine ⟨fun i m H' => m = xs.length - i ∧ i ≤ xs.length ∧ ∃ acc kn' n', Pv D i acc kn' n' ∧ Good c kn' n' H', ⟨_, rfl, Nat.zero_le _, [], _, _, h0 D (g1.free hD), g1.new hD⟩, ?_⟩
  rintro i m H' ⟨rfl, hi, acc, kn', n', p, g'⟩
  obtain ⟨k1, k2, k3⟩ := hk _ _ _ _ _ p
  obtain ⟨q1, q2, q3⟩ := hG kn' H' g'.ex k1
  by_cases hlt : i < xs.length
  · refine .inr ⟨q1 i hlt, fun H2 => ∃ acc kn2 n2, Pv D (i + 1) acc kn2 n2 ∧ Good c kn2 n2 H2, fun H2 ⟨acc, kn2, n2, p2, g2⟩ => ⟨xs.length - (i + 1), by omega, rfl, hlt, acc, kn2, n2, p2, g2⟩, fun x H2 y => ?_⟩
    obtain ⟨e, hx⟩ := q3 i x H2 y
    subst e
    refine hs D i acc x kn' n' (hx hlt) p H2 g' _ fun σ3 kn3 n3 H3 h3 g3 => ⟨h3.1, h3.2 H3 g3 _ fun b kn4 n4 H4 h4 g4 => ?_⟩
    cases b with
    | true => exact iteT (h4.1 rfl H4 g4 _ fun y kn5 n5 H5 h5 g5 => ⟨acc, g5.ex _ _ h5.1, by rw [sizeLine_eq]; omega, _, _, _, h5.2, g5.put h5.1 rfl⟩)
    | false => exact iteF ⟨_, _, _, h4.2 rfl, g4⟩
  · have e : i = xs.length := Nat.le_antisymm hi (Nat.le_of_not_lt hlt)
    exact .inl ⟨q2 i (Nat.le_of_not_lt hlt), q _ _ _ _ (hd D acc kn' n' (e ▸ p)) g'⟩
end
end AW

namespace L2
open PySem PySem.Spec PyProof.Rows Builtin
theorem int_eq_inst (b : Int) (u : Tok) (x C dx : Addr) :
    Meets (Builtin.«int.__eq__» ⟨[.int b u, .ref x], []⟩) (fun _ R s => s.heap.get? x = some (PySem.W.instObj C dx) ∧ R (.ok (.ret .notImplemented)) s) :=
  .of_wp fun prog w A R s h => by
    obtain ⟨hp, g, d, tk, os⟩ := s
    obtain ⟨hl, h⟩ := h
    unfold PySem.W.instObj at hl
    wp_walk using wpAny_loadPart' hl, wpAny_load hl
    exact ⟨_, rfl, h⟩
theorem bool_eq_inst (b : Bool) (x C dx : Addr) :
    Meets (Builtin.«int.__eq__» ⟨[.bool b, .ref x], []⟩) (fun _ R s => s.heap.get? x = some (PySem.W.instObj C dx) ∧ R (.ok (.ret .notImplemented)) s) :=
  .of_wp fun prog w A R s h => by
    obtain ⟨hp, g, d, tk, os⟩ := s
    obtain ⟨hl, h⟩ := h
    unfold PySem.W.instObj at hl
    wp_walk using wpAny_loadPart' hl, wpAny_load hl
    exact ⟨_, rfl, h⟩
theorem str_eq_inst (b : Str) (u : Tok) (x C dx : Addr) :
    Meets (Builtin.«str.__eq__» ⟨[.str b u, .ref x], []⟩) (fun _ R s => s.heap.get? x = some (PySem.W.instObj C dx) ∧ R (.ok (.ret .notImplemented)) s) :=
  .of_wp fun prog w A R s h => by
    obtain ⟨hp, g, d, tk, os⟩ := s
    obtain ⟨hl, h⟩ := h
    unfold PySem.W.instObj at hl
    wp_walk using wpAny_loadPart' hl, wpAny_load hl
    exact ⟨_, rfl, h⟩
theorem tup_eq_inst (l x : Addr) :
    Meets (Builtin.«tuple.__eq__» ⟨[.ref l, .ref x], []⟩) (fun _ R s => (∀ (M : Model) (A : Around) (Q : Bool → Shared → Prop) (E : Value → Shared → Prop), Q false s → wpAny M A (isInstance (.ref x) (.type "tuple")) Q E s) ∧ R (.ok (.ret .notImplemented)) s) :=
  .of_wp fun prog w A R s h => by
    obtain ⟨hp, g, d, tk, os⟩ := s
    obtain ⟨hl, h⟩ := h
    wp_walk using hl _ _ _ _
    exact ⟨_, rfl, h⟩
theorem lst_eq_inst (l x : Addr) :
    Meets (Builtin.«list.__eq__» ⟨[.ref l, .ref x], []⟩) (fun _ R s => (∀ (M : Model) (A : Around) (Q : Bool → Shared → Prop) (E : Value → Shared → Prop), Q false s → wpAny M A (isInstance (.ref x) (.type "list")) Q E s) ∧ R (.ok (.ret .notImplemented)) s) :=
  .of_wp fun prog w A R s h => by
    obtain ⟨hp, g, d, tk, os⟩ := s
    obtain ⟨hl, h⟩ := h
    wp_walk using hl _ _ _ _
    exact ⟨_, rfl, h⟩
section
variable {prog : Program} {w : World} {A : Around} {E : Value → Shared → Prop} {s : Shared} {K : PySem.W.Frag} {x C f : Addr} {ox : Obj} {od : Option Obj} {b : Value} {T id : String} {Q : Value → Shared → Prop}
/-- b == x, b of a built-in type that declines, x's class has an own == -/
theorem eq_back (hu : A.units < cLine) (X : K.In s.heap) (I : PySem.W.InstAt s.heap x ox C od) (hT : s.TypeIs b T) (slot : Slot T "__eq__" id) (hs : PySem.W.findIn K (.ref C) "__eq__" = some (some (.ref f))) (hf : PySem.W.isFn K (.ref f) = true) (sub : PySem.W.subIn K (.ref C) (.type T) = some false)
    (dec : ∀ (P : Value → Shared → Prop) (E' : Value → Shared → Prop), P .notImplemented s → wpAny (model prog w) A (call (.builtin id) [b, .ref x]) P E' s)
    (h : wpAny (model prog w) A (call (.ref f) [.ref x, b]) (PySem.W.CmpBack Q) E s) : wpAny (model prog w) A (richCompare .Eq b (.ref x)) Q E s := by
  have ne : ((Value.type T) != (Value.ref C)) = true := rfl
  simp only [richCompare, cmpInfo_Eq, hT.oneThing_none]
  refine wpAny_holding (wpAny_bind (wpAny_cRoomFor hu ?_))
  refine wpAny_bind (wpAny_typeOf hT ?_)
  refine wpAny_bind (I.type.here ?_)
  rw [if_pos ne]
  refine wpAny_bind ((PySem.W.looks_subIn X sub).here ?_)
  simp only [Bool.false_eq_true, if_false, Bool.not_false, if_true]
  refine wpAny_bind (m := tryCompare b _ (.ref x)) (wpAny_tryCompare_declines hT slot (dec _ _ ⟨rfl, ?_⟩))
  refine wpAny_bind (m := tryCompare (.ref x) _ b) ?_
  unfold tryCompare
  refine wpAny_bind (PySem.W.ifBound_K X I hs hf (wpAny_mono h (fun v s' hv => ?_) fun _ _ e => e))
  cases v <;> first | exact hv.elim | exact wpAny_pure (wpAny_pure hv)
end
end L2

/-! x in a list, where == of an item may run a def of the text. -/
namespace L2
open PySem PySem.Spec PyProof.Rows PySem.SeqAt
abbrev lstOf (items : Array Value) (n : Nat) : Obj := { cls := .type "list", dict := none, data := .seq items n, slots := #[] }
/-- the turns that are left, the spot -/
def EqChain (prog : Program) (w : World) (A : Around) (l : Addr) (x : Value) : Nat → Nat → (Result → Shared → Prop) → Shared → Prop
  | 0, i, R, s => ∃ items n, s.heap.get? l = some (lstOf items n) ∧ items[i]? = none ∧ R (.ok (.ret (.bool false))) s
  | m + 1, i, R, s => ∃ items n y, s.heap.get? l = some (lstOf items n) ∧ items[i]? = some y ∧ wpAny (model prog w) A (eqBool y x) (fun b s' => (b = true → R (.ok (.ret (.bool true))) s') ∧ (b = false → EqChain prog w A l x m (i + 1) R s')) (fun e s' => R (.error e) s') s
theorem contains_chain {prog : Program} {w : World} {l : Addr} {x : Value} (m : Nat) :
    ∀ i : Nat, MeetsIn prog w (Builtin.«list.__contains__.loop» ⟨[.ref l, x, rawInt i], []⟩) (fun A R s => EqChain prog w A.in1 l x m i R s) := by
  induction m with
  | zero =>
    intro i A R s h
    obtain ⟨hp, g, d, tk, os⟩ := s
    obtain ⟨items, n, hl, hi, h⟩ := h
    wp_walk using wpAny_loadPart' hl
    have none_at : items[((i : Nat) : Int).toNat]? = none := by simpa using hi
    rw [none_at]
    wp_walk
    exact h
  | succ m ih =>
    intro i A R s h
    obtain ⟨hp, g, d, tk, os⟩ := s
    obtain ⟨items, n, y, hl, hi, h⟩ := h
    wp_walk using wpAny_loadPart' hl
    have some_at : items[((i : Nat) : Int).toNat]? = some y := by simpa using hi
    rw [some_at]
    refine wpAny_bind (wpAny_mono h (fun b s' hb => ?_) fun _ _ z => z)
    obtain ⟨ht, hf⟩ := hb
    cases b with
    | true =>
      wp_walk
      exact ht rfl
    | false =>
      have cast1 : ((i : Int) + 1) = ((i + 1 : Nat) : Int) := by push_cast; rfl
      wp_walk
      rw [cast1]
      refine ⟨plainId_quiet MeetsSeq.plain_contains_loop _, codeAny_builtin MeetsSeq.entry_contains_loop ?_⟩
      rw [Around.under_plainId MeetsSeq.plain_contains_loop _]
      exact ih (i + 1) A R s' (hf rfl)
theorem contains_list {prog : Program} {w : World} {l : Addr} {x : Value} (m : Nat) :
    MeetsIn prog w (Builtin.«list.__contains__» ⟨[.ref l, x], []⟩) (fun A R s => s.TypeIs (.ref l) "list" ∧ EqChain prog w A.in1 l x m 0 R s) := by
  intro A R s h
  obtain ⟨hp, g, d, tk, os⟩ := s
  obtain ⟨hl, h⟩ := h
  wp_walk
  refine ⟨plainId_quiet MeetsSeq.plain_contains_loop _, codeAny_builtin MeetsSeq.entry_contains_loop ?_⟩
  rw [Around.under_plainId MeetsSeq.plain_contains_loop _]
  exact contains_chain m 0 A R _ h
theorem in_chain {prog : Program} {w : World} {A : Around} {E : Value → Shared → Prop} {s : Shared} {l : Addr} {x : Value} {Q : Value → Shared → Prop} (m : Nat) (hl : s.TypeIs (.ref l) "list")
    (h : EqChain prog w A.in1 l x m 0 (wants (fun v s' => ∃ b, v = .bool b ∧ Q (.bool b) s') E) s) : wpAny (model prog w) A (compareOp .In x (.ref l)) Q E s := by
  show wpAny _ A (do return .bool (← contains (.ref l) x)) Q E s
  refine wpAny_bind (wpAny_contains_slot (T := "list") hl F.slot_list_contains (wpAny_mono (call_meetsIn F.slot_list_contains hl F.entry_list_contains (F.args_list_contains_2 _ _) (contains_list m) ⟨hl, h⟩) (fun v s' hv => ?_) fun _ _ e => e))
  obtain ⟨b, rfl, hq⟩ := hv
  exact wpAny_truthy_bool (wpAny_pure hq)
end L2

/-! o in a list of built-in values, o of an own class with an own ==. -/
namespace L2
open PySem PySem.Spec PyProof.Rows PySem.SeqAt
/-- a built-in value whose == leaves the answer to the class at C -/
inductive BackV (K : PySem.W.Frag) (H : Hp) (C : Addr) : V → Prop where
  | non (h : PySem.W.subIn K (.ref C) (.type "NoneType") = some false) : BackV K H C .non
  | bl (b : Bool) (h : PySem.W.subIn K (.ref C) (.type "bool") = some false) : BackV K H C (.bl b)
  | int (i : Int) (h : PySem.W.subIn K (.ref C) (.type "int") = some false) : BackV K H C (.int i)
  | str (x : Str) (h : PySem.W.subIn K (.ref C) (.type "str") = some false) : BackV K H C (.str x)
  | lst {l : Addr} {xs : List V} (e : H l = some (.lst xs)) (h : PySem.W.subIn K (.ref C) (.type "list") = some false) : BackV K H C (.ref l)
  | tup {l : Addr} {xs : List V} (e : H l = some (.tup xs)) (h : PySem.W.subIn K (.ref C) (.type "tuple") = some false) : BackV K H C (.ref l)
def InCh (K : PySem.W.Frag) (C a l : Addr) (vs : List V) (sp : Sp) : List V → Hp → VK → Prop
  | [], H, Q => Q (.bl false) H
  | v :: r, H, Q => BackV K H C v ∧ sp [.ref a, v] H (fun u H1 => ∃ b, u = .bl b ∧ H1 l = some (.lst vs) ∧ (∃ dx fs, H1 a = some (.ins C dx fs)) ∧ (b = true → Q (.bl true) H1) ∧ (b = false → InCh K C a l vs sp r H1 Q)) (fun _ _ _ => False)
def rInLO (K : PySem.W.Frag) (C : Addr) (sp : Sp) : R2 := fun x y H Q => ∃ a dx fs l vs, x = .ref a ∧ y = .ref l ∧ H a = some (.ins C dx fs) ∧ H l = some (.lst vs) ∧ InCh K C a l vs sp vs H Q
section
variable {X : Cx} {CX : CXT} {k : Nat} {f C a l : Addr} {fd : FuncData} {ps : List Str} {sp : Sp} {pins : List (Addr × Obj)} {σ : St} {H : Hp} {s : Shared} {v : V} {u : Value} {dx : Addr} {fs : List (Str × V)}
theorem eqBool_back {A : Around} {Q : Bool → Shared → Prop} {E : Value → Shared → Prop} (hu : A.units < cLine) (M : EqM X.K C f) (I : Inv X pins σ H s) (ha : H a = some (.ins C dx fs)) (b : BackV X.K H C v) (r : RelV v u)
    (h : wpAny (model X.prog X.w) A (call (.ref f) [.ref a, u]) (PySem.W.CmpBack fun z s' => wpAny (model X.prog X.w) A (truthOfDropped z) Q E s') E s) : wpAny (model X.prog X.w) A (eqBool u (.ref a)) Q E s := by
  obtain ⟨mA, J, _⟩ := ins_get I.hok ha
  obtain ⟨od, J, _⟩ := J.look
  have KI := I.kIn
  have isI : ∀ {T : String}, PySem.W.subIn X.K (.ref C) (.type T) = some false → ∀ (M : Model) (A : Around) (Q : Bool → Shared → Prop) (E : Value → Shared → Prop), Q false s → wpAny M A (isInstance (.ref a) (.type T)) Q E s := fun {T} h M' A' Q' E' q => (J.type.andThen (f := fun t => isSubtype t (.type T)) (PySem.W.looks_subIn KI h)).here q
  unfold eqBool
  refine wpAny_holding ?_
  cases b with
  | non hs =>
    cases (show u = Value.none from r)
    refine wpAny_ite_split (fun z => absurd (eq_of_beq z) nofun) (fun _ => ?_)
    refine wpAny_bind (eq_back hu KI J (T := "NoneType") rfl F.slot_NoneType_eq M.hs M.hf hs (fun P E' p => call_gives F.slot_NoneType_eq rfl F.entry_NoneType_eq (F.args_NoneType_eq_2 _ _) (NoneType___eq___none_ref_0 a) p) h)
  | bl y hs =>
    cases (show u = Value.bool y from r)
    refine wpAny_ite_split (fun z => absurd (eq_of_beq z) nofun) (fun _ => ?_)
    refine wpAny_bind (eq_back hu KI J (T := "bool") rfl F.slot_bool_eq M.hs M.hf hs (fun P E' p => call_meets F.slot_bool_eq rfl F.entry_int_eq (F.args_int_eq_2 _ _) (bool_eq_inst y a C dx) ⟨J.1, p⟩) h)
  | int y hs =>
    obtain ⟨t, rfl⟩ := (show ∃ t, u = Value.int y t from r)
    refine wpAny_ite_split (fun z => absurd (eq_of_beq z) nofun) (fun _ => ?_)
    refine wpAny_bind (eq_back hu KI J (T := "int") (typeIs_int _ _ _) F.slot_int_eq M.hs M.hf hs (fun P E' p => call_meets F.slot_int_eq (typeIs_int _ _ _) F.entry_int_eq (F.args_int_eq_2 _ _) (int_eq_inst y t a C dx) ⟨J.1, p⟩) h)
  | str y hs =>
    obtain ⟨t, rfl⟩ := (show ∃ t, u = Value.str y t from r)
    refine wpAny_ite_split (fun z => absurd (eq_of_beq z) nofun) (fun _ => ?_)
    refine wpAny_bind (eq_back hu KI J (T := "str") (typeIs_str _ _ _) F.slot_str_eq M.hs M.hf hs (fun P E' p => call_meets F.slot_str_eq (typeIs_str _ _ _) F.entry_str_eq (F.args_str_eq_2 _ _) (str_eq_inst y t a C dx) ⟨J.1, p⟩) h)
  | @lst l xs e hs =>
    cases (show u = Value.ref l from r)
    have ne : l ≠ a := fun z => by rw [z, ha] at e; cases e
    obtain ⟨_, its, n, _, _, e1⟩ := I.lstM e
    refine wpAny_ite_split (fun z => absurd (Value.ref.inj (eq_of_beq z)) ne) (fun _ => ?_)
    refine wpAny_bind (eq_back hu KI J (T := "list") ⟨_, e1, rfl⟩ F.slot_list_eq M.hs M.hf hs (fun P E' p => call_meets F.slot_list_eq ⟨_, e1, rfl⟩ F.entry_list_eq (F.args_list_eq_2 _ _) (lst_eq_inst l a) ⟨isI hs, p⟩) h)
  | @tup l xs e hs =>
    cases (show u = Value.ref l from r)
    have ne : l ≠ a := fun z => by rw [z, ha] at e; cases e
    obtain ⟨its, _, pl, _⟩ := I.tuple (.inl (.inl e))
    obtain ⟨o, ho, hc, _⟩ := pl
    refine wpAny_ite_split (fun z => absurd (Value.ref.inj (eq_of_beq z)) ne) (fun _ => ?_)
    refine wpAny_bind (eq_back hu KI J (T := "tuple") ⟨o, ho, hc⟩ F.slot_tuple_eq M.hs M.hf hs (fun P E' p => call_meets F.slot_tuple_eq ⟨o, ho, hc⟩ F.entry_tuple_eq (F.args_tuple_eq_2 _ _) (tup_eq_inst l a) ⟨isI hs, p⟩) h)
theorem in_walk {Q : VK} (hu : X.A.in1.units < cLine) (M : EqM X.K C f) (F : FnOk X.prog X.w X.K X.mg X.base CX k f fd ps sp) (hr : Room k X.A.in1) (hb : Binds X.K fd ps []) (hx : Passes CX X (fun _ _ _ => False)) {vs : List V} :
    ∀ (r done : List V) (H : Hp) (s : Shared), vs = done ++ r → Inv X pins σ H s → (∃ dx fs, H a = some (.ins C dx fs)) → H l = some (.lst vs) → InCh X.K C a l vs sp r H Q →
      EqChain X.prog X.w X.A.in1 l (.ref a) r.length done.length (wants (fun v s' => ∃ b, v = .bool b ∧ EP X pins σ Q (.bool b) s') X.xe) s := by
  intro r
  induction r with
  | nil =>
    intro done H s e I ha hl h
    obtain ⟨_, its, n, rv, hlen, e1⟩ := I.lstM hl
    refine ⟨its.toArray, n, e1, ?_, ⟨false, rfl, .bl false, H, I, rfl, h⟩⟩
    rw [List.getElem?_toArray, List.getElem?_eq_none]
    rw [← hlen, e, List.append_nil]
    exact Nat.le_refl _
  | cons v r ih =>
    intro done H s e I ha hl h
    obtain ⟨dx, fs, ha⟩ := ha
    obtain ⟨bv, hsp⟩ := h
    obtain ⟨_, its, n, rv, hlen, e1⟩ := I.lstM hl
    have at_v : vs[done.length]? = some v := by rw [e]; simp
    obtain ⟨u, hu1, ru⟩ := rv.get at_v
    refine ⟨its.toArray, n, u, e1, by rw [List.getElem?_toArray]; exact hu1, ?_⟩
    refine eqBool_back hu M I ha bv ru (wpAny_mono (callA (A := X.A.in1) (vs := [.ref a, v]) F hr rfl hb hx I (.cons rfl (.cons ru .nil)) hsp) (fun z s' hz => ?_) fun _ _ z => z)
    obtain ⟨v', H', I', rv', b, eb, hl', ha', ht, hf⟩ := hz
    subst eb
    cases (show z = Value.bool b from rv')
    show wpAny _ _ (truthOfDropped (.bool b)) _ _ _
    refine (show wpAny _ _ (truthy (.bool b)) _ _ _ from wpAny_truthy_bool ⟨fun hbt => ?_, fun hbf => ?_⟩)
    · exact ⟨true, rfl, .bl true, H', I', rfl, ht hbt⟩
    · have q := ih (done ++ [v]) H' s' (by rw [e]; simp) I' ha' hl' (hf hbf)
      rw [List.length_append] at q
      exact q
theorem op_inLO (M : EqM X.K C f) (F : FnOk X.prog X.w X.K X.mg X.base CX k f fd ps sp) (hr : Room (k + 1) X.A) (hb : Binds X.K fd ps []) (hx : Passes CX X (fun _ _ _ => False)) : OpR X (compareOp .In) (rInLO X.K C sp) := by
  intro pins s σ H x y v u Q I rx ry h
  obtain ⟨a, dx, fs, l, vs, rfl, rfl, ha, hl, h⟩ := h
  cases (show v = Value.ref a from rx)
  cases (show u = Value.ref l from ry)
  obtain ⟨_, its, n, _, _, e1⟩ := I.lstM hl
  exact in_chain vs.length ⟨_, e1, rfl⟩ (in_walk hr.in1.units0 M F hr.in1 hb hx vs [] H s rfl I ⟨dx, fs, ha⟩ hl h)
end
end L2
namespace AW
open PySem PySem.Spec PyProof.Rows L2
theorem backV_ext {K : PySem.W.Frag} {H H' : Hp} {C : Addr} {v : V} (e : Ext H H') (b : BackV K H C v) : BackV K H' C v := by
  cases b with
  | non h => exact .non h
  | bl b h => exact .bl b h
  | int i h => exact .int i h
  | str x h => exact .str x h
  | lst q h => exact .lst (e _ _ q) h
  | tup q h => exact .tup (e _ _ q) h
/-- none of the items is equal -/
theorem r_inL_no {K : PySem.W.Frag} {c : Cw} {kn : Hp} {n : Nat} {Q : V → Hp → Nat → Prop} {B : List V → Hp → AK → AXK → Prop} {C a l dx : Addr} {fs : List (Str × V)} {vs : List V} (hm : MonoX B) (ha : kn a = some (.ins C dx fs)) (hl : kn l = some (.lst vs))
    (hv : ∀ v ∈ vs, BackV K kn C v ∧ B [.ref a, v] kn (fun u k => u = .bl false ∧ k = kn) (fun _ _ _ => False)) (q : Q (.bl false) kn n) : W c (rInLO K C (liftX B) (.ref a) (.ref l)) kn n Q := by
  intro H g Q' k
  have walk : ∀ (r : List V), (∀ v ∈ r, v ∈ vs) → ∀ H, Good c kn n H → InCh K C a l vs (liftX B) r H Q' := by
    intro r
    induction r with
    | nil => exact fun _ H g => k _ _ _ _ q g
    | cons v r ih =>
      intro hr H g
      obtain ⟨b, h⟩ := hv v (hr v List.mem_cons_self)
      refine ⟨backV_ext g.ex b, kn, g.ex, g.nt, hm _ _ _ _ _ _ (fun u k' hu n' H' g' => ?_) (fun _ _ _ z => z.elim) h⟩
      obtain ⟨rfl, rfl⟩ := hu
      have g2 : Good c k' n H' := g.back g'
      exact ⟨false, rfl, g2.ex _ _ hl, ⟨dx, fs, g2.ex _ _ ha⟩, (fun z => nomatch z), fun _ => ih (fun w hw => hr w (List.mem_cons_of_mem _ hw)) H' g2⟩
  exact ⟨a, dx, fs, l, vs, rfl, rfl, g.ex _ _ ha, g.ex _ _ hl, walk vs (fun _ z => z) H g⟩
end AW

/-! An own operator whose right operand is of another own class; built-in == own; repr of any data; properties. -/
namespace OX
open PySem PySem.W PySem.Calls PyProof.Rows Builtin
section
variable {prog : Program} {w : World} {A : Around} {E : Value → Shared → Prop} {s : Shared} {K : Frag} {x C D f : Addr} {ox : Obj} {od : Option Obj} {b : Value}
theorem noNumber {M : Model} {h : Heap} {nm : String} {cd : ClassData} (X : K.In h) (hc : clsIn K D = some cd) (hm : cd.mro = [.ref D, .type "object"]) (h1 : findIn K (.ref D) (PySem.dunder nm) = some none) (h2 : findIn K (.ref D) (dunderR nm) = some none)
    (o1 : typeLookup (.type "object") (PySem.dunder nm) = pure none) (o2 : typeLookup (.type "object") (dunderR nm) = pure none) : Looks M h (fillsNumberSlot (.ref D) nm) false := by
  intro A Q E s k q
  unfold fillsNumberSlot
  dsimp only
  refine wpAny_bind ((looks_clsIn X hc).andThen (f := fun cd => pure cd.mro) .now A _ E s k ?_)
  rw [hm, List.anyM_cons]
  refine wpAny_bind ?_
  dsimp only
  rw [List.anyM_cons]
  refine wpAny_bind (wpAny_bind (looks_findIn X h1 A _ E s k ?_))
  dsimp only
  refine wpAny_pure ?_
  simp only [Bool.false_eq_true, if_false]
  rw [List.anyM_cons]
  refine wpAny_bind (wpAny_bind (looks_findIn X h2 A _ E s k ?_))
  dsimp only
  refine wpAny_pure ?_
  simp only [Bool.false_eq_true, if_false, List.anyM_nil]
  refine wpAny_pure ?_
  simp only [Bool.false_eq_true, if_false]
  rw [List.anyM_cons, o1, o2]
  refine wpAny_bind (wpAny_bind (wpAny_pure (wpAny_bind (wpAny_pure ?_))))
  refine wpAny_pure ?_
  simp only [Option.isSome_none, Bool.false_and, Bool.or_self, Bool.false_eq_true, if_false, List.anyM_nil]
  exact wpAny_pure q
theorem binop1_D {nm : String} {Q : Value → Shared → Prop} (X : K.In s.heap) (I : InstAt s.heap x ox C od) (hb : Looks (model prog w) s.heap (typeOf b) (.ref D)) (hc : selfFirst K C = true)
    (hs : findIn K (.ref C) (PySem.dunder nm) = some (some (.ref f))) (hf : isFn K (.ref f) = true) (fill : Looks (model prog w) s.heap (fillsNumberSlot (.ref D) nm) false)
    (h : wpAny (model prog w) A (call (.ref f) [.ref x, b]) (PySem.W.CmpBack Q) E s) : wpAny (model prog w) A (binaryOp1 nm (.ref x) b) (fun r s' => ∃ v, r = some v ∧ Q v s') E s := by
  obtain ⟨cd, hcd, hm⟩ := any_some hc
  obtain ⟨rest, hm⟩ : ∃ rest, cd.mro = .ref C :: rest := by
    cases q : cd.mro with
    | nil => rw [q] at hm; cases hm
    | cons a r => rw [q] at hm; exact ⟨r, by rw [List.head?_cons] at hm; cases (beq_iff_eq.mp hm); rfl⟩
  have last : ∀ {α : Type} (k : Option Value → Sem α) (P : α → Shared → Prop), (∀ v s', PySem.W.CmpBack Q v s' → wpAny (model prog w) A (k (some v)) P E s') → wpAny (model prog w) A (tryMethod (.ref x) (PySem.dunder nm) b >>= k) P E s := fun k P hk => by
    refine wpAny_bind ?_
    unfold tryMethod
    refine wpAny_bind (special_fn X I hs (beq_iff_eq.mp hf) (wpAny_mono h (fun v s' hv => ?_) fun _ _ e => e))
    cases v <;> first | exact hv.elim | exact wpAny_pure (hk _ _ hv)
  unfold binaryOp1
  refine wpAny_bind (I.type.here (wpAny_bind (hb.here (wpAny_bind ((fills_K X hcd hm hs).here ?_)))))
  cases q : (Value.ref C == Value.ref D) with
  | true =>
    simp only [if_true]
    refine wpAny_bind (wpAny_pure ?_)
    simp only [Bool.and_false, Bool.false_eq_true, if_false, Bool.false_and]
    refine wpAny_bind (wpAny_pure ?_)
    simp only [Bool.false_eq_true, if_false]
    refine last _ _ fun v s' hv => ?_
    cases v <;> first | exact hv.elim | exact wpAny_pure ⟨_, rfl, hv⟩
  | false =>
    simp only [Bool.false_eq_true, if_false]
    refine wpAny_bind (fill.here ?_)
    simp only [Bool.and_false, Bool.false_eq_true, if_false, Bool.false_and]
    refine wpAny_bind (wpAny_pure ?_)
    simp only [Bool.false_eq_true, if_false, if_true]
    refine last _ _ fun v s' hv => ?_
    cases v <;> first | exact hv.elim | exact wpAny_pure ⟨_, rfl, hv⟩
end
end OX
namespace L2
open PySem PySem.Spec PyProof.Rows PySem.SeqAt
/-- the class at D has nothing to say in an operator -/
structure NoNum (K : PySem.W.Frag) (op : Operator) (D : Addr) : Prop where
  cd : ∃ cd, PySem.W.clsIn K D = some cd ∧ cd.mro = [.ref D, .type "object"]
  h1 : PySem.W.findIn K (.ref D) (PySem.dunder op.info.2) = some none
  h2 : PySem.W.findIn K (.ref D) (dunderR op.info.2) = some none
  o1 : typeLookup (.type "object") (PySem.dunder op.info.2) = pure none
  o2 : typeLookup (.type "object") (dunderR op.info.2) = pure none
def rOwnD (K : PySem.W.Frag) (op : Operator) (C D : Addr) (sp : Sp) (E : XK) : R2 := fun x y H Q => ∃ a dx fs b dy gs, x = .ref a ∧ y = .ref b ∧ H a = some (.ins C dx fs) ∧ H b = some (.ins D dy gs) ∧ sp [.ref a, .ref b] H Q E
section
variable {X : Cx} {CX : CXT} {k : Nat} {f C D : Addr} {fd : FuncData} {ps : List Str} {sp : Sp} {E : XK}
theorem op_ownD {op : Operator} (M : OpM X.K op C f) (N : NoNum X.K op D) (O : OwnC X.K D) (F : FnOk X.prog X.w X.K X.mg X.base CX k f fd ps sp) (hr : Room k X.A) (hb : Binds X.K fd ps []) (hx : Passes CX X E) : OpR X (binaryOp op) (rOwnD X.K op C D sp E) := by
  intro pins s σ H x y v u Q I rx ry h
  obtain ⟨a, dx, fs, b, dy, gs, rfl, rfl, ha, hb', hq⟩ := h
  cases rx
  have ry' := ry
  cases ry'
  obtain ⟨mA, J, _⟩ := ins_get I.hok ha
  obtain ⟨od, J, _⟩ := J.look
  have hbt := typeOf_of I ry (O.ty hb')
  obtain ⟨cd, c1, c2⟩ := N.cd
  have hc : wpAny (model X.prog X.w) X.A (call (.ref f) [.ref a, .ref b]) (PySem.W.CmpBack (EP X pins σ Q)) X.xe s :=
    wpAny_mono (callA (vs := [.ref a, .ref b]) F hr rfl hb hx I (.cons rfl (.cons ry .nil)) hq) (fun z s' hz => by
      obtain ⟨v', H', I', rv, q⟩ := id hz
      exact relV_ni rv hz) fun _ _ z => z
  exact OX.binop_of (OX.binop1_D I.kIn J hbt M.self M.hs M.hf (OX.noNumber I.kIn c1 c2 N.h1 N.h2 N.o1 N.o2) hc)
/-- x == o or o == x, o of an own class with an own ==, x of a built-in type -/
def rEqU (K : PySem.W.Frag) (C : Addr) (sp : Sp) : R2 := fun x y H Q => rEqO K C sp false x y H Q ∨ ∃ a dx fs, y = .ref a ∧ H a = some (.ins C dx fs) ∧ BackV K H C x ∧ sp [.ref a, x] H (fun v H' => ∃ b, v = .bl b ∧ Q (.bl b) H') (fun _ _ _ => False)
theorem op_eqU (M : EqM X.K C f) (F : FnOk X.prog X.w X.K X.mg X.base CX k f fd ps sp) (hr : Room (k + 1) X.A) (hb : Binds X.K fd ps []) (hx : Passes CX X (fun _ _ _ => False)) : OpR X (compareOp .Eq) (rEqU X.K C sp) := by
  intro pins s σ H x y v u Q I rx ry h
  rcases h with h | ⟨a, dx, fs, rfl, ha, bv, hq⟩
  · exact op_eqO M F hr hb hx pins s σ H x y v u Q I rx ry h
  cases (show u = Value.ref a from ry)
  obtain ⟨mA, J, _⟩ := ins_get I.hok ha
  obtain ⟨od, J, _⟩ := J.look
  have KI := I.kIn
  have hu : X.A.units < cLine := hr.units0
  have isI : ∀ {T : String}, PySem.W.subIn X.K (.ref C) (.type T) = some false → ∀ (M : Model) (A : Around) (Q : Bool → Shared → Prop) (E : Value → Shared → Prop), Q false s → wpAny M A (isInstance (.ref a) (.type T)) Q E s := fun {T} h M' A' Q' E' q => (J.type.andThen (f := fun t => isSubtype t (.type T)) (PySem.W.looks_subIn KI h)).here q
  have h : wpAny (model X.prog X.w) X.A (call (.ref f) [.ref a, v]) (PySem.W.CmpBack (EP X pins σ Q)) X.xe s :=
    wpAny_mono (callA (vs := [.ref a, x]) F (hr.mono (Nat.le_succ _)) rfl hb hx I (.cons rfl (.cons rx .nil)) hq) (fun z s' hz => by
      obtain ⟨v', H', I', rv, b, e, q⟩ := hz
      subst e
      cases (show z = Value.bool b from rv)
      exact ⟨.bl b, H', I', rfl, q⟩) fun _ _ z => z
  show wpAny (model X.prog X.w) X.A (richCompare .Eq v (.ref a)) (EP X pins σ Q) X.xe s
  cases bv with
  | non hs =>
    cases (show v = Value.none from rx)
    exact eq_back hu KI J (T := "NoneType") rfl PySem.F.slot_NoneType_eq M.hs M.hf hs (fun P E' p => call_gives PySem.F.slot_NoneType_eq rfl PySem.F.entry_NoneType_eq (PySem.F.args_NoneType_eq_2 _ _) (NoneType___eq___none_ref_0 a) p) h
  | bl y hs =>
    cases (show v = Value.bool y from rx)
    exact eq_back hu KI J (T := "bool") rfl PySem.F.slot_bool_eq M.hs M.hf hs (fun P E' p => call_meets PySem.F.slot_bool_eq rfl PySem.F.entry_int_eq (PySem.F.args_int_eq_2 _ _) (bool_eq_inst y a C dx) ⟨J.1, p⟩) h
  | int y hs =>
    obtain ⟨t, rfl⟩ := (show ∃ t, v = Value.int y t from rx)
    exact eq_back hu KI J (T := "int") (typeIs_int _ _ _) PySem.F.slot_int_eq M.hs M.hf hs (fun P E' p => call_meets PySem.F.slot_int_eq (typeIs_int _ _ _) PySem.F.entry_int_eq (PySem.F.args_int_eq_2 _ _) (int_eq_inst y t a C dx) ⟨J.1, p⟩) h
  | str y hs =>
    obtain ⟨t, rfl⟩ := (show ∃ t, v = Value.str y t from rx)
    exact eq_back hu KI J (T := "str") (typeIs_str _ _ _) PySem.F.slot_str_eq M.hs M.hf hs (fun P E' p => call_meets PySem.F.slot_str_eq (typeIs_str _ _ _) PySem.F.entry_str_eq (PySem.F.args_str_eq_2 _ _) (str_eq_inst y t a C dx) ⟨J.1, p⟩) h
  | @lst l xs e hs =>
    cases (show v = Value.ref l from rx)
    obtain ⟨_, its, n, _, _, e1⟩ := I.lstM e
    exact eq_back hu KI J (T := "list") ⟨_, e1, rfl⟩ PySem.F.slot_list_eq M.hs M.hf hs (fun P E' p => call_meets PySem.F.slot_list_eq ⟨_, e1, rfl⟩ PySem.F.entry_list_eq (PySem.F.args_list_eq_2 _ _) (lst_eq_inst l a) ⟨isI hs, p⟩) h
  | @tup l xs e hs =>
    cases (show v = Value.ref l from rx)
    obtain ⟨its, _, pl, _⟩ := I.tuple (.inl (.inl e))
    obtain ⟨o, ho, hc, _⟩ := pl
    exact eq_back hu KI J (T := "tuple") ⟨o, ho, hc⟩ PySem.F.slot_tuple_eq M.hs M.hf hs (fun P E' p => call_meets PySem.F.slot_tuple_eq ⟨o, ho, hc⟩ PySem.F.entry_tuple_eq (PySem.F.args_tuple_eq_2 _ _) (tup_eq_inst l a) ⟨isI hs, p⟩) h
/-- repr of a bool -/
def rReprB : List V → Hp → VK → Prop := fun xs H Q => ∃ b : Bool, xs = [.bl b] ∧ Q (.str (if b then "True" else "False")) H
theorem c_reprB : CallR X (.builtin "repr") rReprB := by
  intro pins s σ H xs us Q I r h
  obtain ⟨b, rfl, q⟩ := h
  obtain ⟨u, rfl, rx⟩ := vals1 r
  cases (show u = Value.bool b from rx)
  exact PySem.P.repr_of_bool ⟨.str (if b then "True" else "False"), H, I.tok _, ⟨_, rfl⟩, q⟩
def rNotN : R2 := fun x y H Q => y = V.non ∧ Q (V.bl (!decide (x = V.non))) H
theorem c_notN : OpR X (compareOp .IsNot) rNotN := op_notN
def rMax2 : List V → Hp → VK → Prop := fun xs H Q => ∃ i j : Int, xs = [.int i, .int j] ∧ Q (.int (if j > i then j else i)) H
theorem c_max2 (hc : X.calm = true) : CallR X (.builtin "max") rMax2 := call_max2 hc
def rMin2 : List V → Hp → VK → Prop := fun xs H Q => ∃ i j : Int, xs = [.int i, .int j] ∧ Q (.int (if j < i then j else i)) H
theorem c_min2 (hc : X.calm = true) : CallR X (.builtin "min") rMin2 := call_min2 hc
end
end L2
namespace AW
open PySem PySem.Spec PyProof.Rows L2
section
variable {c : Cw} {kn : Hp} {n : Nat} {σ : L2.St} {Q : V → Hp → Nat → Prop} {K : PySem.W.Frag} {E : XK} {EA : EAK} {B : List V → Hp → AK → AXK → Prop} {C D : Addr}
theorem r_ownD {op : Operator} {a b dx dy : Addr} {fs gs : List (Str × V)} (hm : MonoX B) (hE : ErrOk c EA E) (ha : kn a = some (.ins C dx fs)) (hb : kn b = some (.ins D dy gs))
    (h : B [.ref a, .ref b] kn (fun v k => Q v k n) (fun cls d k => EA cls d k n)) : W c (rOwnD K op C D (liftX B) E (.ref a) (.ref b)) kn n Q :=
  fun H g Q' q => ⟨a, dx, fs, b, dy, gs, rfl, rfl, g.ex _ _ ha, g.ex _ _ hb, sp_call hm hE h H g Q' q⟩
theorem r_eqUo {x y : V} (h : W c (rEqO K C (liftX B) false x y) kn n Q) : W c (rEqU K C (liftX B) x y) kn n Q := fun H g Q' q => .inl (h H g Q' q)
theorem r_eqUb {a dx : Addr} {fs : List (Str × V)} {x : V} (hm : MonoX B) (ha : kn a = some (.ins C dx fs)) (bv : BackV K kn C x)
    (h : B [.ref a, x] kn (fun v k => ∃ b, v = .bl b ∧ Q (.bl b) k n) (fun _ _ _ => False)) : W c (rEqU K C (liftX B) x (.ref a)) kn n Q :=
  fun H g Q' q => .inr ⟨a, dx, fs, rfl, g.ex _ _ ha, backV_ext g.ex bv, sp_call (EA := fun _ _ _ _ => False) (Q := fun v k n => ∃ b, v = .bl b ∧ Q (.bl b) k n) hm err_no h H g _ fun v kn1 n1 H1 ⟨b, e, hq⟩ g1 => ⟨b, e, q _ _ _ _ hq g1⟩⟩
theorem r_reprB {b : Bool} (q : Q (.str (if b then "True" else "False")) kn n) : W c (rReprB [.bl b]) kn n Q := fun H g _ k => ⟨b, rfl, k _ kn n H q g⟩
theorem r_notN {x : V} (q : Q (.bl (!decide (x = V.non))) kn n) : W c (rNotN x .non) kn n Q := fun H g _ k => ⟨rfl, k _ kn n H q g⟩
theorem r_max2 {i j : Int} (q : Q (.int (if j > i then j else i)) kn n) : W c (rMax2 [.int i, .int j]) kn n Q := fun H g _ k => ⟨i, j, rfl, k _ kn n H q g⟩
theorem r_min2 {i j : Int} (q : Q (.int (if j < i then j else i)) kn n) : W c (rMin2 [.int i, .int j]) kn n Q := fun H g _ k => ⟨i, j, rfl, k _ kn n H q g⟩
theorem w_prop {ta : TE} (hm : MonoX B) (h : W c (ta σ) kn n fun x kn1 n1 => ∃ a dx fs, x = .ref a ∧ kn1 a = some (.ins C dx fs) ∧ B [.ref a] kn1 (fun v k => Q v k n1) (fun _ _ _ => False)) : W c (tProp C (liftX B) [] E ta σ) kn n Q :=
  fun H g Q' q => h H g _ fun x kn1 n1 H1 ⟨a, dx, fs, e, ha, hb⟩ g1 => ⟨a, dx, fs, e, g1.ex _ _ ha, sp_call (EA := fun _ _ _ _ => False) hm err_no hb H1 g1 Q' q⟩
end
end AW

/-! bool(o) by an own __bool__; static methods; loops over lists or tuples; isinstance with a tuple; all. -/
namespace L2
open PySem PySem.Spec PyProof.Rows
theorem bool_new_own {prog : Program} {w : World} {x : Addr} : MeetsIn prog w (Builtin.«bool.__new__» ⟨[.type "bool", .ref x], []⟩) (fun A R s => wpAny (model prog w) A.in1 (truthy (.ref x)) (fun b s' => R (.ok (.ret (.bool b))) { s' with toks := s'.toks }) (fun e s' => R (.error e) s') s) := by
  intro A R s h
  obtain ⟨hp, g, d, tk, os⟩ := s
  have f1 := F.conv_sub_bool
  repeat (any_goals (first | assumption | (with_reducible refine wpAny_mono h (fun b s' hb => ?_) (fun _ _ z => z)) | wp_step))
  all_goals first | exact hb | exact ⟨_, rfl, hb⟩
section
variable {X : Cx} {CX : CXT} {k : Nat} {f C p : Addr} {fd : FuncData} {ps : List Str} {sp : Sp} {E : XK}
/-- bool(o) -/
def rBoolO (C : Addr) (sp : Sp) : List V → Hp → VK → Prop := fun xs H Q => ∃ a dx fs, xs = [.ref a] ∧ H a = some (.ins C dx fs) ∧ sp [.ref a] H (fun v H' => ∃ b, v = .bl b ∧ Q (.bl b) H') (fun _ _ _ => False)
theorem c_boolO (M : SpM X.K C f "__bool__") (F : FnOk X.prog X.w X.K X.mg X.base CX k f fd ps sp) (hr : Room (k + 2) X.A) (hb : Binds X.K fd ps []) (hx : Passes CX X (fun _ _ _ => False)) : CallR X (.type "bool") (rBoolO C sp) := by
  intro pins s σ H xs us Q I r h
  obtain ⟨a, dx, fs, rfl, ha, hq⟩ := h
  obtain ⟨u, rfl, rx⟩ := vals1 r
  cases (show u = Value.ref a from rx)
  obtain ⟨_, J, _⟩ := ins_get I.hok ha
  obtain ⟨_, J, _⟩ := J.look
  obtain ⟨_, hF⟩ := I.fr
  refine callType_newIn PySem.F.called_bool PySem.F.newNe_bool (PySem.F.typeCall_bool_1 _) (PySem.F.newCall_bool_1 _) (fun obj => PySem.F.args_object_init_2 obj _) PySem.F.entry_bool_new bool_new_own ?_
  refine PySem.W.truthy_K hF I.ok.mod.kin J M.hs M.hf (wpAny_mono (callA (A := X.A.in1.in1) (vs := [.ref a]) F hr.in1.in1 rfl hb hx I (.cons rfl .nil) hq) (fun z s' hz => ?_) fun _ _ z => z)
  obtain ⟨v', H', I', rv, b, e, q⟩ := hz
  subst e
  cases (show z = Value.bool b from rv)
  exact ⟨PySem.typeIs_bool _ _, .bl b, H', I', rfl, q⟩
end
end L2
namespace L2
open PySem PySem.Spec PyProof.Rows ClX
/-- C.m is a static method: its record at p, its def at f -/
structure SMet (K : PySem.W.Frag) (C : Addr) (mc : Value) (m : Str) (p f : Addr) : Prop where
  at_ : PySem.W.findCls K (.ref C) mc m = some (.get (.builtin "staticmethod.__get__") (.ref p) .none (.ref C))
  rc : ∃ rest, PySem.W.recIn K p "staticmethod" = some (.ref f :: rest)
  kp : PySem.W.keepIn K (.ref f) = true
section
variable {X : Cx} {CX : CXT} {k : Nat} {f C p : Addr} {mc : Value} {m : Str} {fd : FuncData} {ps : List Str} {sp : Sp} {E : XK} {o e : Expr} {es : List Expr} {pos apos : Pos} {ta : TE} {t : TA} {pl : Sem Bool} {pins : List (Addr × Obj)} {σ : St} {H : Hp} {s : Shared}
theorem getsm_ok {A : Around} {E : Value → Shared → Prop} {Q : Value × List Value → Shared → Prop} (I : Inv X pins σ H s) (r : CRead X.K C mc) (c : SMet X.K C mc m p f) (h : ∀ s', Inv X pins σ H s' → Q (.ref f, []) s') : wpAny (model X.prog X.w) A (getMethod (.ref C) m pl) Q E s := by
  obtain ⟨rest, hp⟩ := c.rc
  exact PySem.W.method_cls I.kIn r.ga (PySem.W.cls_bind I.kIn r.rd c.at_ (wpAny_call (PySem.W.sm_get (s := { s with toks := s.toks + 1 }) I.kIn hp (PySem.W.handed_on rfl (h _ (I.tok _))))))
def tSMeth (C : Addr) (sp : Sp) (E : XK) (ta : TE) (t : TA) : TE := fun σ H Q => ta σ H fun x H1 => x = .ref C ∧ t σ H1 fun vs H2 => sp vs H2 Q E
theorem pe_smeth (he : PE X o ta) (r : CRead X.K C mc) (c : SMet X.K C mc m p f) (F : FnR X.prog X.w X.K X.mg X.base CX k f sp) (hr : Room k X.A) (hx : Passes CX X E) (ha : PA X (e :: es) t)
    (hst : starEach (e :: es) X.env = (false, eval e X.env) :: starEach es X.env := by rfl) (hpl : (backTo pos (starEach es X.env)).any (·.1) = false := by rfl)
    (ht : eval (.Call (.Attribute o m apos) (e :: es) [] pos) X.env = (do
      let ov ← eval o X.env
      standAt apos.atName
      let (f, first) ← holding [ov] (getMethod ov m pl)
      callWith pos f first (backTo pos (starEach (e :: es) X.env)) (backToKw pos (keywordEach [] X.env))) := by rfl) :
    PE X (.Call (.Attribute o m apos) (e :: es) [] pos) (tSMeth C sp E ta t) := by
  refine ⟨fun pins s σ H Q I h => ?_⟩
  refine PySem.W.methodCall_KW (pl := pl) (thn (he.run pins s σ H _ I h) fun u s1 ⟨x, H1, I1, rx, ex, q⟩ => ?_) ht
  subst ex
  obtain rfl : u = Value.ref C := rx
  refine getsm_ok I1 r c fun s2 I2 => ?_
  exact PySem.W.callWith_K (h₀ := X.base) I2.ok.mod.kin c.kp (thn (ha.run pos pins s2 σ H1 _ I2 q) fun us s3 ⟨vs, H2, I3, rv, q2⟩ => ⟨I3.kIn, wpAny_call (run_fnR F hr hx I3 rv q2)⟩) hst hpl
theorem pe_smeth0 (he : PE X o ta) (r : CRead X.K C mc) (c : SMet X.K C mc m p f) (F : FnR X.prog X.w X.K X.mg X.base CX k f sp) (hr : Room k X.A) (hx : Passes CX X E)
    (ht : eval (.Call (.Attribute o m apos) [] [] pos) X.env = (do
      let ov ← eval o X.env
      standAt apos.atName
      let (f, first) ← holding [ov] (getMethod ov m pl)
      callWith pos f first (backTo pos (starEach [] X.env)) (backToKw pos (keywordEach [] X.env))) := by rfl) :
    PE X (.Call (.Attribute o m apos) [] [] pos) (tSMeth C sp E ta tNil) := by
  refine ⟨fun pins s σ H Q I h => ?_⟩
  refine PySem.W.methodCall_KW (pl := pl) (thn (he.run pins s σ H _ I h) fun u s1 ⟨x, H1, I1, rx, ex, q⟩ => ?_) ht
  subst ex
  obtain rfl : u = Value.ref C := rx
  refine getsm_ok I1 r c fun s2 I2 => ?_
  exact PySem.W.callWith_K0 I2.kIn c.kp (wpAny_call (run_fnR (us := []) F hr hx I2 .nil q))
/-- for x in e, e a list or a tuple -/
def iSeq (K : PySem.W.Frag) (te : TE) : TI := fun σ H R => iList K te σ H R ∨ iTup K te σ H R
theorem pi_seq {tg e : Expr} {te : TE} (he : PE X e te) : PI X tg e (iSeq X.K te) := by
  refine ⟨fun pins s σ H R I h => ?_⟩
  rcases h with h | h
  · exact (pi_list he).run pins s σ H R I h
  · exact (pi_tup he).run pins s σ H R I h
def rAllQ (K : PySem.W.Frag) : List V → Hp → VK → Prop := fun vs H Q => ∃ (a : Addr) (bs : List Bool), vs = [V.ref a] ∧ SqL K H a (bs.map V.bl) ∧ Q (.bl (bs.all id)) H
theorem c_allQ (hc : X.calm = true) : CallR X (.builtin "all") (rAllQ X.K) := cr_all hc
def rInQ (K : PySem.W.Frag) (neg : Bool) : R2 := fun x y H Q => ∃ p xs, y = .ref p ∧ (SqL K H p xs ∨ SqT K H p xs) ∧ flatV x = true ∧ xs.all flatV = true ∧ Q (.bl (if neg then !inV x xs else inV x xs)) H
theorem c_inQ : OpR X (compareOp .In) (rInQ X.K false) := op_in_seq
theorem c_notInQ : OpR X (compareOp .NotIn) (rInQ X.K true) := op_notIn_seq
end
end L2
namespace AW
open PySem PySem.Spec PyProof.Rows L2 ClX
section
variable {c : Cw} {kn : Hp} {n : Nat} {σ : L2.St} {Q : V → Hp → Nat → Prop} {K : PySem.W.Frag} {E : XK} {EA : EAK} {B : List V → Hp → AK → AXK → Prop} {C : Addr} {R : It → Hp → Nat → Prop}
theorem r_boolO {a dx : Addr} {fs : List (Str × V)} (hm : MonoX B) (ha : kn a = some (.ins C dx fs)) (h : B [.ref a] kn (fun v k => ∃ b, v = .bl b ∧ Q (.bl b) k n) (fun _ _ _ => False)) : W c (rBoolO C (liftX B) [.ref a]) kn n Q :=
  fun H g Q' q => ⟨a, dx, fs, rfl, g.ex _ _ ha, sp_call (EA := fun _ _ _ _ => False) (Q := fun v k n => ∃ b, v = .bl b ∧ Q (.bl b) k n) hm err_no h H g _ fun v kn1 n1 H1 ⟨b, e, hq⟩ g1 => ⟨b, e, q _ _ _ _ hq g1⟩⟩
theorem w_smeth {ta : TE} {t : TA} (hm : MonoX B) (hE : ErrOk c EA E) (h : W c (ta σ) kn n fun x kn1 n1 => x = .ref C ∧ W c (t σ) kn1 n1 fun vs kn2 n2 => B vs kn2 (fun v k => Q v k n2) (fun cls d k => EA cls d k n2)) : W c (tSMeth C (liftX B) E ta t σ) kn n Q :=
  fun H g Q' q => h H g _ fun x kn1 n1 H1 ⟨e, h1⟩ g1 => ⟨e, h1 H1 g1 _ fun vs kn2 n2 H2 h2 g2 => sp_call hm hE h2 H2 g2 Q' q⟩
/-- a static method with *rest -/
def spStar (m : Nat) (B : List V → Hp → AK → AXK → Prop) : Sp := fun vs H Q E => ∃ ws rest, vs = ws ++ rest ∧ ws.length = m ∧ rest.length ≤ sizeLine ∧ ∀ p, H p = Option.none → liftX B (ws ++ [V.ref p]) (upd H p (.tup rest)) Q E
theorem w_smethS {ta : TE} {t : TA} {m : Nat} (hm : MonoX B) (hE : ErrOk c EA E) (h : W c (ta σ) kn n fun x kn1 n1 => x = .ref C ∧ W c (t σ) kn1 n1 fun vs kn2 n2 => ∃ ws rest, vs = ws ++ rest ∧ ws.length = m ∧ rest.length ≤ 1000 ∧
    ∀ p, kn2 p = none → B (ws ++ [.ref p]) (upd kn2 p (.tup rest)) (fun v k => Q v k n2) (fun cls d k => EA cls d k n2)) : W c (tSMeth C (spStar m B) E ta t σ) kn n Q :=
  fun H g Q' q => h H g _ fun x kn1 n1 H1 ⟨e, h1⟩ g1 => ⟨e, h1 H1 g1 _ fun vs kn2 n2 H2 ⟨ws, rest, e1, e2, e3, h2⟩ g2 => ⟨ws, rest, e1, e2, Nat.le_trans e3 (by rw [sizeLine_eq]; decide), fun p hp => sp_call hm hE (h2 p (g2.free hp)) _ (g2.new hp) Q' q⟩⟩
theorem i_seqV {i : Nat} {a : Addr} {xs : List V} (hv : σ[i]? = some (some (.ref a))) (h : (kn a = some (.lst xs) ∧ R (Itl K a) kn n) ∨ (kn a = some (.tup xs) ∧ R (Itt K a) kn n)) : WI c (iSeq K (tVar i) σ) kn n R := by
  intro H g R' q
  rcases h with ⟨ha, h⟩ | ⟨ha, h⟩
  · exact .inl (i_list (w_var hv ⟨a, xs, rfl, ha, h⟩) H g R' q)
  · exact .inr (i_tup (w_var hv ⟨a, xs, rfl, ha, h⟩) H g R' q)
theorem r_isiT {x : V} {tp : Addr} {cs : List V} {t : Value} {us : List Value} {b : Bool} (h : kn tp = some (.tup cs)) (p : Paired ClsV cs us) (ty : TyX K kn x t) (e : PySem.W.kitAny K t us = some b) (q : Q (.bl b) kn n) : W c (rIsiT K [x, .ref tp]) kn n Q :=
  fun H g _ f => ⟨x, tp, cs, t, us, b, rfl, g.ex _ _ h, p, tyx_ext g.ex ty, e, f _ kn n H q g⟩
theorem r_allQ {a : Addr} {bs : List Bool} (h : kn a = some (.lst (bs.map V.bl))) (q : Q (.bl (bs.all id)) kn n) : W c (rAllQ K [.ref a]) kn n Q := fun H g _ k => ⟨a, bs, rfl, sql (g.ex _ _ h), k _ kn n H q g⟩
theorem r_inQ {x : V} {p : Addr} {xs : List V} {neg : Bool} (h : kn p = some (.lst xs) ∨ kn p = some (.tup xs)) (h1 : flatV x = true) (h2 : xs.all flatV = true) (q : Q (.bl (if neg then !inV x xs else inV x xs)) kn n) : W c (rInQ K neg x (.ref p)) kn n Q :=
  fun H g _ k => ⟨p, xs, rfl, h.imp (fun z => sql (g.ex _ _ z)) (fun z => sqt (g.ex _ _ z)), h1, h2, k _ kn n H q g⟩
end
end AW

/-! raise .. from None in a handler; an error with two fields; a classmethod. -/
namespace L2
open PySem PySem.Spec PyProof.Rows
theorem Fun.okH {P : Program} {w : World} {K : PySem.W.Frag} {mg : Str → Option Value} {base : Heap} {x qual : Str} {st : Stmt} {f : Addr} {fd : FuncData} {N ps : List Str} {k : Nat} {sp : Sp} (F : Fun K x qual st f fd) (S : FnScope N ps (defScope st)) (len : ∀ vs H Q E, sp vs H Q E → vs.length = ps.length)
    (hbody : ∀ (cdv : Value) (A : Around) (outer : List Env) (s : Shared) (H : Hp) (vs : List V) (Q : VK) (E : XK) (p : Addr × Obj), L2H.RoomH k (A.deeper (envOfC qual (defScope st) s.heap.objs.size f cdv)) → sp vs H Q E →
      ∃ t, PSs (L2H.cxH CX0 P w K mg base N qual (defScope st) f cdv A outer s H E p) (defBody st) t ∧ t { nx := fun _ H' => Q .non H', rt := Q } (start N vs) H) : L2H.FnH P w K mg base CX0 (k + 1) f fd ps sp := by
  obtain ⟨oc, od, kV, doc, pm, an, cdv, ct, osl, rfl, lk, hcd⟩ := F.ex
  exact L2H.fn_ofH lk hcd S len fun A outer s H vs Q E p hp hr hsp => hbody cdv A outer s H vs Q E p hr hsp
/-- an error class whose __init__ sets two fields -/
def spX2 (K : PySem.W.Frag) (f g : Str) : Sp := fun vs H Q _ => ∃ (a C : Addr) (y z : V), vs = [.ref a, y, z] ∧ OexC K C ∧ PySem.W.findIn K (.ref C) f = some none ∧ PySem.W.findIn K (.ref C) g = some none ∧ H a = some (exo a C none) ∧
  ∀ dx, H dx = none → dx ≠ a → Q .non (upd (upd (upd H dx (exd dx [(f, y)])) a (exo a C (some dx))) dx (exd dx [(g, z), (f, y)]))
theorem x2_end {H : Hp} {a d : Addr} {o1 o2 o3 o4 o5 : HO} (ha : H a = none) (hd : d ≠ a) : upd (del (upd (upd (upd (upd H a o1) d o2) a o3) d o5) a) d o4 = upd H d o4 := by
  funext x
  by_cases h1 : x = d
  · rw [h1, upd_same, upd_same]
  · rw [upd_ne h1, upd_ne h1]
    by_cases h2 : x = a
    · rw [h2, del_same, ha]
    · rw [del_ne h2, upd_ne h1, upd_ne h2, upd_ne h1, upd_ne h2]
end L2
namespace AW
open PySem PySem.Spec PyProof.Rows L2
section
variable {c : Cw} {kn : Hp} {n : Nat} {σ : L2.St} {K : PySem.W.Frag} {D : AE} {E : XK} {EA : EAK}
theorem s_raise2 {C : Addr} {f g : Str} {ta : TA} (oc : OexC K C) (hf : PySem.W.findIn K (.ref C) f = some none) (hg : PySem.W.findIn K (.ref C) g = some none) (hE : ErrOk c EA E)
    (h : W c (ta σ) kn n fun vs kn1 n1 => ∃ y z, vs = [y, z] ∧ ∀ d, kn1 d = none → EA (.ref C) (some d) (upd kn1 d (.xd [(g, z), (f, y)])) n1) :
    WS c (fun _ σ H => tMkO C (spX2 K f g) [] ta σ H fun cls d H' => E cls d H') D σ kn n :=
  fun H g0 D' fit => h H g0 _ fun vs kn1 n1 H1 ⟨y, z, e, h1⟩ g1 => by
    subst e
    refine ⟨Nat.le_add_left 2 998, fun a ha => ⟨a, C, y, z, rfl, oc, hf, hg, upd_same, fun d hd hda => ⟨rfl, d, [(g, z), (f, y)], ?_, upd_same, ?_, ?_⟩⟩⟩
    · rw [upd_ne (Ne.symm hda), upd_same]
    · rw [upd_ne hda] at hd
      exact hd
    · rw [upd_ne hda] at hd
      rw [x2_end ha hda]
      exact hE _ _ _ _ _ (h1 d (g1.free hd)) (g1.new hd)
/-- try .. except C: suite (that ends in another error) -/
theorem s_tryO {cv : Value} {tb : WX → TS} {ts : Addr → Value → Option Addr → TS} {Wout : WX}
    (h : ∀ H (D' : Ends), Good c kn n H → Fits c D D' → tb (wOnly K cv ts Wout D') D' σ H) : WS c (fun D' σ H => tb (wOnly K cv ts Wout D') D' σ H) D σ kn n :=
  fun H g D' fit => h H D' g fit
end
end AW
namespace L2
open PySem PySem.Spec PyProof.Rows ClX
section
variable {X : Cx} {CX : CXT} {k : Nat} {f C p : Addr} {mc : Value} {m : Str} {fd : FuncData} {ps : List Str} {B : List V → Hp → AW.AK → AW.AXK → Prop} {E : XK}
end
end L2

/-! Own errors made: as values, and in a raise whose error may be caught and followed by another. -/
namespace L2
open PySem PySem.Spec PyProof.Rows
theorem Fun.okXN {P : Program} {w : World} {K : PySem.W.Frag} {mg : Str → Option Value} {base : Heap} {x qual : Str} {st : Stmt} {f : Addr} {fd : FuncData} {N ps : List Str} {k : Nat} {sp : Sp} (F : Fun K x qual st f fd) (S : FnScope N ps (defScope st)) (len : ∀ vs H Q E, sp vs H Q E → vs.length = ps.length)
    (hbody : ∀ (cdv : Value) (A : Around) (outer : List Env) (s : Shared) (H : Hp) (vs : List V) (Q : VK) (E : XK), Room k (A.deeper (envOfC qual (defScope st) s.heap.objs.size f cdv)) → sp vs H Q E →
      ∃ t, PSs (cxOf (L2N.CX P w) P w K mg base N qual (defScope st) f cdv A outer s H E) (defBody st) t ∧ t { nx := fun _ H' => Q .non H', rt := Q } (start N vs) H) : FnOk P w K mg base (L2N.CX P w) (k + 1) f fd ps sp := by
  obtain ⟨oc, od, kV, doc, pm, an, cdv, ct, osl, rfl, lk, hcd⟩ := F.ex
  exact ⟨len, fun A outer s H args us vs Q E hr e0 hb r hsp => LamX.run_ofS lk hcd S hr e0 hb r (len _ _ _ _ hsp) fun hr' => hbody cdv A outer s H vs Q E hr' hsp⟩
theorem passLN {X : Cx} : Passes (L2N.CX X.prog X.w) X E0 := fun pins σ H s e s' _ h => by
  obtain ⟨a, B, H', cls, d, _, _, _, _, _, _, _, z⟩ := h
  exact z.elim
section
variable {X : Cx} {CX : CXT} {k : Nat} {C fI : Addr} {fd : FuncData} {ps : List Str} {sp : Sp} {ds : List Value} {dvs : List V} {pins : List (Addr × Obj)} {σ : St} {H : Hp} {s : Shared} {us : List Value} {vs : List V}
theorem oex_core (T : OexC X.K C) (iC : PySem.W.findIn X.K (.ref C) "__init__" = some (some (.ref fI))) (tI : PySem.W.typeIn X.K (.ref fI) = some (.type "function")) (F : FnOk X.prog X.w X.K X.mg X.base CX k fI fd ps sp) (hr : Room (k + 1) X.A) (hb : Binds X.K fd ps ds) (hd : Vals dvs ds)
    (hx : Passes CX X (fun _ _ _ => False)) (I : Inv X pins σ H s) (rv : Vals vs us) (hl : vs.length ≤ 1000) {QQ : Addr → Hp → Prop} {R : Value → Shared → Prop}
    (hsp : ∀ a, H a = none → sp (.ref a :: (vs ++ dvs)) (upd H a (exo a C none)) (fun v H2 => v = .non ∧ QQ a H2) (fun _ _ _ => False))
    (fin : ∀ (a : Addr) (s2 s' : Shared) (H2 : Hp), H a = none → s.heap.objs.size ≤ a → (∀ b o, s.heap.get? b = some o → s2.heap.get? b = some o) → Inv X pins σ (upd H a (exo a C none)) s2 → s2.os = s.os →
      s'.os = s2.os → AllBare s'.gens → Un (frs X.stack) [] (upd H a (exo a C none)) H2 s2.heap s'.heap → HOk X.prog X.w H2 s'.heap → QQ a H2 → R (.ref a) s') :
    wpAny (model X.prog X.w) X.A (call (.ref C) us) R X.xe s := by
  obtain ⟨hp, g, d, t, os⟩ := s
  obtain ⟨nm, q, N, bs, bm, sn, sub, ab, col, dd, k0, k1, k2, k3, k5, lk, hbm⟩ := T.cls
  have hlu : us.length ≤ 1000 := by rw [← rv.length]; exact hl
  have keeps : ∀ b o, hp.get? b = some o → ((hp.push (PySem.W.kdv_tup us)).push (HandSPX.excO C hp.objs.size)).get? b = some o := fun b o e => Heap.get?_push_of_some _ (Heap.get?_push_of_some _ e)
  have hn : H (hp.objs.size + 1) = none := I.hok.fresh (Nat.le_succ _)
  have hsz : (hp.push (PySem.W.kdv_tup us)).objs.size = hp.objs.size + 1 := by simp [Heap.push]
  have I2 : Inv X pins σ (upd H (hp.objs.size + 1) (exo (hp.objs.size + 1) C none)) ⟨(hp.push (PySem.W.kdv_tup us)).push (HandSPX.excO C hp.objs.size), g, d, t, os⟩ :=
    I.laid (t' := t) keeps (Nat.le_succ _) (exo_ok (t1 := hp.objs.size) (by rw [← hsz]; exact Heap.get?_push_size _ rfl))
  refine wpAny_call ?_
  refine HandSPX.call_own PySem.F.excBase_ValueError (fun Y => HandSPX.refsVE_contains Y _ hbm) (I.kIn _ _ lk) (PySem.W.looks_findIn I.kIn iC) (fun self => PySem.W.bind_fn I.kIn self tI) (Nat.le_trans hlu (by rw [sizeLine_eq]; decide)) ?_
  have rr : Vals (V.ref (hp.objs.size + 1) :: (vs ++ dvs)) (Value.ref (hp.objs.size + 1) :: us ++ ds) := .cons rfl (rv.append hd)
  have hlen : (Value.ref (hp.objs.size + 1) :: us ++ ds).length = ps.length := by rw [← rr.length]; exact F.len _ _ _ _ (hsp _ hn)
  have e2 := I2.env0
  refine codeAny_mono (F.run (X.A.under (.builtin "type.__call__" { pos := .ref C :: us })) X.stack _ _ ⟨.ref (hp.objs.size + 1) :: us, []⟩ (.ref (hp.objs.size + 1) :: us ++ ds) (.ref (hp.objs.size + 1) :: (vs ++ dvs)) _ _ (hr.make C us []) ⟨e2.frames, e2.mod, e2.bs, e2.bsz, e2.funs, e2.frf, e2.hok, e2.bare⟩ (hb _ (.ref (hp.objs.size + 1) :: us) I2.kIn hlen) rr (hsp _ hn)) fun r s' hq => ?_
  cases r with
  | error e => exact hx pins σ _ _ e s' I2 hq
  | ok fl =>
    cases fl with
    | ret u =>
      obtain ⟨v, H2, os', bare, un, hok, rel, ev, q⟩ := hq
      subst ev
      exact ⟨rel, fin _ _ _ _ hn (Nat.le_succ _) keeps I2 rfl os' bare un hok q⟩
    | next => exact False.elim hq
    | brk => exact False.elim hq
    | cont => exact False.elim hq
variable {x : Str} {e : Expr} {es : List Expr} {ta : TA} {p pos : Pos}
/-- an own error made, as a value -/
def tMkV (C : Addr) (sp : Sp) (dvs : List V) (ta : TA) : TE := fun σ H Q => ta σ H fun vs H1 => vs.length ≤ 1000 ∧ ∀ a, H1 a = none → sp (.ref a :: (vs ++ dvs)) (upd H1 a (exo a C none)) (fun v H2 => v = .non ∧ Q (.ref a) H2) (fun _ _ _ => False)
theorem pe_oexV (T : OexC X.K C) (iC : PySem.W.findIn X.K (.ref C) "__init__" = some (some (.ref fI))) (tI : PySem.W.typeIn X.K (.ref fI) = some (.type "function")) (F : FnOk X.prog X.w X.K X.mg X.base CX k fI fd ps sp) (hr : Room (k + 1) X.A) (hb : Binds X.K fd ps ds) (hd : Vals dvs ds)
    (hx : Passes CX X (fun _ _ _ => False)) (hg : Gl X x) (hm : X.mg x = some (.ref C)) (ha : PA X (e :: es) ta) (hdb : (x == ("__debug__" : Str)) = false := by decide) (he : starEach (e :: es) X.env = (false, eval e X.env) :: starEach es X.env := by rfl) (hpl : (backTo pos (starEach es X.env)).any (·.1) = false := by rfl) :
    PE X (.Call (.Name x p) (e :: es) [] pos) (tMkV C sp dvs ta) := by
  refine ⟨fun pins s σ H Q I h => wpAny_Call_Name_kw (ld_glob I hg hm ?_ hdb)⟩
  refine PySem.W.callWith_K (h₀ := X.base) I.ok.mod.kin T.kC (thn (ha.run pos pins s σ H _ I h) fun us s1 ⟨vs, H1, I1, r, hl, q⟩ => ⟨I1.kIn, ?_⟩) he hpl
  refine oex_core T iC tI F hr hb hd hx I1 r hl (QQ := fun a H2 => Q (.ref a) H2) q fun a s2 s' H2 hn hs kp I2 os2 os' bare un hok hq => ?_
  exact I2.after ⟨.ref a, H2, os', bare, un, hok, rfl, hq⟩
theorem pmkN_oex (T : OexC X.K C) (iC : PySem.W.findIn X.K (.ref C) "__init__" = some (some (.ref fI))) (tI : PySem.W.typeIn X.K (.ref fI) = some (.type "function")) (F : FnOk X.prog X.w X.K X.mg X.base CX k fI fd ps sp) (hr : Room (k + 1) X.A) (hb : Binds X.K fd ps ds) (hd : Vals dvs ds)
    (hx : Passes CX X (fun _ _ _ => False)) (hg : Gl X x) (hm : X.mg x = some (.ref C)) (ha : PA X (e :: es) ta) (hdb : (x == ("__debug__" : Str)) = false := by decide) (he : starEach (e :: es) X.env = (false, eval e X.env) :: starEach es X.env := by rfl) (hpl : (backTo pos (starEach es X.env)).any (·.1) = false := by rfl) :
    L2N.PMk X (.Call (.Name x p) (e :: es) [] pos) (tMkO C sp dvs ta) := by
  intro pins s σ H Q I h
  refine wpAny_Call_Name_kw (ld_glob I hg hm ?_ hdb)
  refine PySem.W.callWith_K (h₀ := X.base) I.ok.mod.kin T.kC (thn (ha.run pos pins s σ H _ I h) fun us s1 ⟨vs, H1, I1, r, hl, q⟩ => ⟨I1.kIn, ?_⟩) he hpl
  refine oex_core T iC tI F hr hb hd hx I1 r hl (QQ := fun a H2 => ∃ d fs, H2 a = some (exo a C (some d)) ∧ H2 d = some (exd d fs) ∧ H1 d = none ∧ Q (.ref C) (some d) (upd (del H2 a) d (.xd fs))) q fun a s2 s' H2 hn hs kp I2 os2 os' bare un hok hq => ?_
  obtain ⟨d, fs, h1, h2, h3, hq⟩ := hq
  obtain ⟨hp, g1, d1, t1, os1⟩ := s1
  obtain ⟨hp2, g2, d2, t2, osx⟩ := s2
  obtain ⟨h', g', d', t', os3⟩ := s'
  obtain ⟨t0, G, IG, kG, nG, gG, nH⟩ := mk_end0 I1 hs kp un hok (os'.trans os2) bare h1 h2 h3
  refine ⟨a, _, _, ⟨G, g', d', t', os3⟩, _, _, _, rfl, IG, kG, nG, gG, ⟨rfl, rfl, fun vs hv => ?_⟩, rfl, rfl, nH, rfl, bare, ?_, hq⟩
  · cases hv
    rfl
  · exact raises_own T.exC T.tyC
end
end L2
namespace AW
open L2
theorem takesN_len {X : Cx} {W : WX} {m : Nat} (tk : L2N.Takes X W) (h : X.N.length = m := by rfl) : L2N.Takes X (fun cls d σ H => σ.length = m → W cls d σ H) :=
  fun u s' ⟨a, B, sI, pins, σ, H, cls, d, e, I, nb, up, sky, na, os, ag, w⟩ => tk u s' ⟨a, B, sI, pins, σ, H, cls, d, e, I, nb, up, sky, na, os, ag, w (I.len.trans h)⟩
end AW

/-! Texts of integers: what is read back is what was written. -/
namespace L2
namespace Tx1
open PySem PySem.NumText TL
/-- the text of an integer -/
abbrev dS (i : Int) : Str := Str.ofString (toString i)
theorem dS_nat (n : Nat) : tl (dS n) = numL n := tl_num n
theorem dS_neg {n : Nat} (h : 0 < n) : tl (dS (-(n : Int))) = 45 :: numL n := by
  obtain ⟨m, rfl⟩ : ∃ m, n = m + 1 := ⟨n - 1, by omega⟩
  have e : (toString (-((m + 1 : Nat) : Int))) = "-" ++ toString (((m + 1 : Nat) : Int)) := by
    have : (-((m + 1 : Nat) : Int)) = Int.negSucc m := by omega
    rw [this]
    rfl
  show tl (Str.ofString (toString (-((m + 1 : Nat) : Int)))) = _
  rw [e, tl_ofString, String.toList_append, List.map_append, ← tl_ofString (toString _)]
  rw [tl_num]
  rfl
theorem dS_cases (i : Int) : (∃ n : Nat, i = n ∧ tl (dS i) = numL n) ∨ (∃ n : Nat, 0 < n ∧ i = -(n : Int) ∧ tl (dS i) = 45 :: numL n) := by
  rcases Int.lt_or_le i 0 with h | h
  · refine .inr ⟨i.natAbs, by omega, by omega, ?_⟩
    have e : i = -((i.natAbs : Nat) : Int) := by omega
    have := dS_neg (n := i.natAbs) (by omega)
    rw [← e] at this
    exact this
  · refine .inl ⟨i.natAbs, by omega, ?_⟩
    have e : i = ((i.natAbs : Nat) : Int) := by omega
    have := dS_nat i.natAbs
    rw [← e] at this
    exact this
theorem numL_no45 (n : Nat) : ¬ 45 ∈ numL n := numL_free (.inl (by decide))
theorem dS_free {c : Nat} (h : c ≠ 45) (h2 : c < 48 ∨ 57 < c) (i : Int) : ¬ c ∈ tl (dS i) := by
  rcases dS_cases i with ⟨n, _, e⟩ | ⟨n, _, _, e⟩ <;> rw [e]
  · exact numL_free h2
  · intro hm
    rcases List.mem_cons.1 hm with hm | hm
    · exact h hm
    · exact numL_free h2 hm
theorem ext_str {a b : Str} (h : tl a = tl b) : a = b := by
  have := congrArg (fun l => ({ cps := l.toArray } : Str)) h
  exact (mk_tl a).symm.trans (this.trans (mk_tl b))
theorem dS_inj {i j : Int} (h : dS i = dS j) : i = j := by
  have h := congrArg tl h
  rcases dS_cases i with ⟨n, rfl, e⟩ | ⟨n, hn, rfl, e⟩ <;> rcases dS_cases j with ⟨m, rfl, e2⟩ | ⟨m, hm, rfl, e2⟩ <;> rw [e, e2] at h
  · rw [numL_inj h]
  · exact absurd (h ▸ List.mem_cons_self) (numL_no45 n)
  · exact absurd (h.symm ▸ List.mem_cons_self) (numL_no45 m)
  · rw [numL_inj (List.cons.inj h).2]
/-- the figures of a text without leading zeros -/
def canon (l : List Nat) : List Nat := match l.dropWhile (· == 48) with
  | [] => [48]
  | c :: r => c :: r
theorem toNat_ofNat {c : Nat} (h : 48 ≤ c ∧ c ≤ 57) : (Char.ofNat c).toNat = c := by
  obtain ⟨h1, h2⟩ := h
  have : ∀ c : Nat, c < 58 → (Char.ofNat c).toNat = c := by decide
  exact this c (by omega)
theorem mem_dropWhile {p : Nat → Bool} {c : Nat} : ∀ {l : List Nat}, c ∈ l.dropWhile p → c ∈ l
  | [], h => h
  | a :: l, h => by
    rw [List.dropWhile_cons] at h
    split at h
    · exact List.mem_cons_of_mem _ (mem_dropWhile h)
    · exact h
theorem numL_val_canon {l : List Nat} (h : AllDigits l) : numL (digitsVal l) = canon l := by
  unfold numL canon
  rw [toDigits_all l h]
  have hd : ∀ c ∈ l.dropWhile (· == 48), 48 ≤ c ∧ c ≤ 57 := fun c hc => h c (mem_dropWhile hc)
  revert hd
  generalize l.dropWhile (· == 48) = d
  intro hd
  cases d with
  | nil => rfl
  | cons c r =>
    show List.map Char.toNat (List.map Char.ofNat (c :: r)) = c :: r
    rw [List.map_map]
    exact (List.map_congr_left (fun a ha => toNat_ofNat (hd a ha))).trans (List.map_id _)
theorem len_dropWhile_le {p : Nat → Bool} : ∀ l : List Nat, (l.dropWhile p).length ≤ l.length
  | [] => Nat.le_refl _
  | a :: l => by
    rw [List.dropWhile_cons]
    split
    · have := len_dropWhile_le (p := p) l
      simp only [List.length_cons]
      omega
    · exact Nat.le_refl _
theorem canon_eq {l : List Nat} (hne : l ≠ []) : canon l = l ↔ (l = [48] ∨ l.head? ≠ some 48) := by
  cases l with
  | nil => exact absurd rfl hne
  | cons a r =>
    by_cases ha : a = 48
    · subst ha
      constructor
      · intro h
        left
        unfold canon at h
        rw [List.dropWhile_cons] at h
        simp only [BEq.rfl, if_true] at h
        have hl := len_dropWhile_le (p := (· == 48)) r
        revert h
        generalize hd : r.dropWhile (· == 48) = d
        rw [hd] at hl
        intro h
        cases d with
        | nil => exact h.symm
        | cons c t =>
          exfalso
          have := congrArg List.length h
          simp only [List.length_cons] at this hl
          omega
      · rintro (h | h)
        · rw [h]; rfl
        · exact absurd rfl h
    · constructor
      · intro _
        right
        simpa using ha
      · intro _
        unfold canon
        rw [List.dropWhile_cons]
        have : (a == 48) = false := by simpa using ha
        simp [this]
theorem val_lt : ∀ (k : Nat) (l : List Nat), AllDigits l → l.length ≤ k → digitsVal l < 10 ^ k := by
  intro k
  induction k with
  | zero =>
    intro l h hl
    have : l = [] := List.length_eq_zero_iff.1 (by omega)
    subst this
    decide
  | succ k ih =>
    intro l h hl
    rcases List.eq_nil_or_concat l with rfl | ⟨r, c, rfl⟩
    · show 0 < _
      exact Nat.pos_of_ne_zero (by simp)
    · rw [List.concat_eq_append] at h hl ⊢
      have hr := ih r (fun x hx => h x (List.mem_append_left _ hx)) (by simp at hl; omega)
      have hc := h c (List.mem_append_right _ (List.mem_singleton.2 rfl))
      rw [digitsVal_snoc]
      have : 10 ^ (k + 1) = 10 ^ k * 10 := rfl
      omega
end Tx1
end L2

namespace L2
namespace Tx1
open PySem PySem.NumText TL SX
abbrev minusS : Str := S [45]
abbrev plusS : Str := S [43]
theorem subAt_hd (w : Str) (c : Nat) : (decide (0 + (S [c]).length ≤ w.length) && Builtin.Str.subAt w (S [c]) 0) = decide ((tl w).head? = some c) := by
  unfold Builtin.Str.subAt
  have e1 : (S [c]).length = 1 := rfl
  rw [e1]
  obtain ⟨⟨l⟩⟩ := w
  cases l with
  | nil => simp [tl, Str.length]
  | cons a r =>
    simp only [Str.length, tl]
    by_cases h : a = c
    · subst h
      simp [S]
    · simp [S, h]
theorem rp_tl (w : Str) : tl (Txt.removeprefix w minusS) = if (tl w).head? = some 45 then (tl w).drop 1 else tl w := by
  rw [StrLaws.removeprefix_eq, subAt_hd]
  by_cases h : (tl w).head? = some 45
  · simp only [h, decide_true, if_true]
    show List.take _ _ = _
    have e1 : minusS.length = 1 := rfl
    rw [e1]
    apply List.take_of_length_le
    simp [Str.length]
  · simp [h]
theorem dec128 : ∀ c : Nat, c < 128 → Unicode.isDecimal c = (decide (48 ≤ c) && decide (c ≤ 57)) := by decide +kernel
theorem decimal_iff {d : Str} (ha : ∀ c ∈ tl d, c < 128) : Txt.isdecimal d = true ↔ tl d ≠ [] ∧ AllDigits (tl d) := by
  unfold Txt.isdecimal
  obtain ⟨⟨l⟩⟩ := d
  simp only [tl, Str.length] at *
  constructor
  · intro h
    simp at h
    refine ⟨by intro e; subst e; simp at h, fun c hc => ?_⟩
    have := h.2 c hc
    rw [dec128 c (ha c hc)] at this
    simpa using this
  · rintro ⟨h1, h2⟩
    simp
    refine ⟨by cases l with | nil => exact absurd rfl h1 | cons => simp, fun c hc => ?_⟩
    rw [dec128 c (ha c hc)]
    simpa using h2 c hc
/-- the text w is that of the integer n, of twelve figures at most -/
def isN (w : Str) (n : Int) : Prop := w = dS n ∧ n.natAbs < 10 ^ 12
theorem isN_uni {w : Str} {n m : Int} (h : isN w n) (g : isN w m) : n = m := dS_inj (h.1.symm.trans g.1)
theorem ascii_dS (i : Int) : ∀ c ∈ tl (dS i), c < 128 := by
  intro c hc
  rcases dS_cases i with ⟨n, _, e⟩ | ⟨n, _, _, e⟩ <;> rw [e] at hc
  · have := numL_digits n c hc
    omega
  · rcases List.mem_cons.1 hc with rfl | hc
    · decide
    · have := numL_digits n c hc
      omega
theorem head_numL (n : Nat) : (numL n).head? ≠ some 45 := by
  intro h
  exact numL_no45 n (List.mem_of_head? h)
theorem rp_dS {n : Int} : tl (Txt.removeprefix (dS n) minusS) = numL n.natAbs := by
  rw [rp_tl]
  rcases dS_cases n with ⟨m, rfl, e⟩ | ⟨m, hm, rfl, e⟩ <;> rw [e]
  · rw [if_neg (head_numL m)]
    rfl
  · rw [if_pos (show (45 :: numL m).head? = some 45 from rfl)]
    show numL m = _
    congr 1
    omega
theorem rn_no {w : Str} (h : 12 < (Txt.removeprefix w minusS).length ∨ Txt.isdecimal (Txt.removeprefix w minusS) = false) (n : Int) : ¬ isN w n := by
  rintro ⟨rfl, hn⟩
  have hl : (numL n.natAbs).length ≤ 12 := numL_len (by decide) hn
  have e := @rp_dS n
  rcases h with h | h
  · have : (Txt.removeprefix (dS n) minusS).length = (tl (Txt.removeprefix (dS n) minusS)).length := (len_tl _).symm ▸ rfl
    rw [this, e] at h
    omega
  · have : Txt.isdecimal (Txt.removeprefix (dS n) minusS) = true := (decimal_iff (by rw [e]; intro c hc; have := numL_digits _ c hc; omega)).2 (by rw [e]; exact ⟨numL_ne _, numL_digits _⟩)
    rw [h] at this
    exact absurd this (by decide)
theorem lenT (w : Str) : w.length = (tl w).length := by simp [Str.length, tl]
theorem int_dS {n : Int} (hn : n.natAbs < 10 ^ 12) : intText? (dS n) = some n := by
  have hl : (numL n.natAbs).length ≤ 12 := numL_len (by decide) hn
  rcases dS_cases n with ⟨m, rfl, e⟩ | ⟨m, hm, rfl, e⟩
  · exact int_num (by have : (m : Int).natAbs = m := by omega
                      rw [this] at hl; omega)
  · have : (-(m : Int)).natAbs = m := by omega
    rw [this] at hl
    rw [intText_neg e (numL_digits m) (numL_ne m) (by rw [lenT, e]; simp only [List.length_cons]; omega), numL_val]
theorem rn_yes {w : Str} (ha : ∀ c ∈ tl w, c < 128) (hl : (Txt.removeprefix w minusS).length ≤ 12) (hd : Txt.isdecimal (Txt.removeprefix w minusS) = true) : ∃ n, intText? w = some n ∧ n.natAbs < 10 ^ 12 ∧ w.length ≤ 13 ∧ (∀ m, isN w m → m = n) := by
  have e := rp_tl w
  rw [lenT] at hl
  have hd := (decimal_iff (by
    rw [e]
    split
    · exact fun c hc => ha c (List.mem_of_mem_drop hc)
    · exact ha)).1 hd
  revert hl hd
  rw [e]
  by_cases h : (tl w).head? = some 45
  · rw [if_pos h]
    obtain ⟨r, hr⟩ : ∃ r, tl w = 45 :: r := by
      cases hw : tl w with
      | nil => rw [hw] at h; exact absurd h (by decide)
      | cons a r => rw [hw] at h; exact ⟨r, by rw [Option.some.inj h]⟩
    rw [hr]
    simp only [List.drop_succ_cons, List.drop_zero]
    rintro hl ⟨h1, h2⟩
    have hi := intText_neg (x := w) hr h2 h1 (by rw [lenT, hr]; simp only [List.length_cons]; omega)
    refine ⟨_, hi, ?_, by rw [lenT, hr]; simp only [List.length_cons]; omega, fun m hm => ?_⟩
    · have := val_lt 12 r h2 hl
      omega
    · rw [hm.1, int_dS hm.2] at hi
      exact Option.some.inj hi
  · rw [if_neg h]
    rintro hl ⟨h1, h2⟩
    have hi : intText? w = some ((digitsVal (tl w) : Nat) : Int) := intText_digits (x := w) h2 h1 (by rw [lenT]; omega)
    refine ⟨_, hi, ?_, by rw [lenT]; omega, fun m hm => ?_⟩
    · have := val_lt 12 _ h2 hl
      omega
    · have h3 := int_dS hm.2
      rw [← hm.1, hi] at h3
      exact (Option.some.inj h3).symm
/-- the text w is that of a number from 0 on of k figures at most -/
def isC (k : Nat) (w : Str) : Prop := ∃ n : Nat, n < 10 ^ k ∧ w = dS n
theorem cnt_yes {k : Nat} {w : Str} (hd : AllDigits (tl w)) (hne : tl w ≠ []) (hl : w.length ≤ k) (h : tl w = [48] ∨ (tl w).head? ≠ some 48) : isC k w := by
  refine ⟨digitsVal (tl w), val_lt k _ hd (by rw [← lenT]; exact hl), ext_str ?_⟩
  rw [dS_nat, numL_val_canon hd]
  exact ((canon_eq hne).2 h).symm
theorem cnt_no {k : Nat} {w : Str} (hk : 0 < k) (h : isC k w) : AllDigits (tl w) ∧ tl w ≠ [] ∧ w.length ≤ k ∧ (tl w = [48] ∨ (tl w).head? ≠ some 48) := by
  obtain ⟨n, hn, rfl⟩ := h
  rw [lenT, dS_nat]
  refine ⟨numL_digits n, numL_ne n, numL_len hk hn, (canon_eq (numL_ne n)).1 ?_⟩
  rw [← numL_val_canon (numL_digits n), numL_val]
/-- the law's bare text of head -/
def bareOf (h : Str) : Str := if (tl h).head? = some 45 then S ((tl h).drop 1) else h
theorem isN_bare {h : Str} : (isC 12 (bareOf h) ∧ h ≠ S [45, 48]) ↔ ∃ f, isN h f := by
  unfold bareOf
  constructor
  · rintro ⟨⟨n, hn, e⟩, h0⟩
    by_cases hh : (tl h).head? = some 45
    · rw [if_pos hh] at e
      obtain ⟨r, hr⟩ : ∃ r, tl h = 45 :: r := by
        cases hw : tl h with
        | nil => rw [hw] at hh; exact absurd hh (by decide)
        | cons a r => rw [hw] at hh; exact ⟨r, by rw [Option.some.inj hh]⟩
      rw [hr] at e
      have e2 : r = numL n := by
        have := congrArg tl e
        rw [dS_nat] at this
        exact this
      have n0 : 0 < n := by
        apply Nat.pos_of_ne_zero
        rintro rfl
        apply h0
        apply ext_str
        rw [hr, e2]
        rfl
      refine ⟨-(n : Int), ext_str ?_, by omega⟩
      rw [dS_neg n0, hr, e2]
    · rw [if_neg hh] at e
      exact ⟨n, e, by omega⟩
  · rintro ⟨f, rfl, hf⟩
    rcases dS_cases f with ⟨m, rfl, e⟩ | ⟨m, hm, rfl, e⟩
    · rw [if_neg (by rw [e]; exact head_numL m)]
      refine ⟨⟨m, by omega, rfl⟩, fun hx => ?_⟩
      have := congrArg tl hx
      rw [e] at this
      exact numL_no45 m (this ▸ List.mem_cons_self)
    · rw [if_pos (by rw [e]; rfl), e]
      refine ⟨⟨m, by omega, ext_str (by rw [dS_nat]; rfl)⟩, fun hx => ?_⟩
      have := congrArg tl hx
      rw [e] at this
      have h2 := (List.cons.inj this).2
      have : digitsVal (numL m) = digitsVal [48] := by rw [h2]
      rw [numL_val] at this
      have z : digitsVal [48] = 0 := rfl
      omega
end Tx1
end L2

namespace L2
namespace Tx1
open PySem PySem.NumText TL SX
/-- what a text of a stay tells -/
def okT (f n : Int) : Prop := f.natAbs < 10 ^ 12 ∧ 1 ≤ n ∧ n ≤ 400 ∧ f + n < 10 ^ 12
def txt (f n : Int) : Str := dS f ++ plusS ++ dS n
def isT (x : Str) : Prop := ∃ f n, okT f n ∧ x = txt f n
theorem plus_free (i : Int) : ¬ 43 ∈ tl (dS i) := dS_free (by decide) (by decide) i
theorem tl_txt (f n : Int) : tl (txt f n) = tl (dS f) ++ 43 :: tl (dS n) := by
  unfold txt
  rw [tl_append, tl_append]
  show _ ++ [43] ++ _ = _
  rw [List.append_assoc]
  rfl
theorem kind_plus (x : Str) : ¬ Builtin.Str.strKind x < Builtin.Str.strKind plusS := by
  have : Builtin.Str.strKind plusS = 1 := by decide +kernel
  rw [this]
  unfold Builtin.Str.strKind
  split
  · decide
  · split <;> decide
theorem split_txt (f n : Int) : Txt.split (txt f n) plusS = [dS f, dS n] := by
  apply map_tl_inj
  rw [split_spl _ _ (by decide) (kind_plus _), tl_txt]
  show spl [43] 0 [] _ = _
  have h := spl_part1 (s := 43) (S := []) (p := tl (dS f)) (rest := tl (dS n)) (acc := []) (plus_free f)
  simp only [List.singleton_append, List.nil_append] at h
  rw [h, spl_last1 (plus_free n)]
  rfl
theorem split_two {x a b : Str} (h : Txt.split x plusS = [a, b]) : x = a ++ plusS ++ b := by
  have := StrLaws.join_split x plusS
  rw [h, ← StrLaws.glued_eq_join] at this
  rw [← this]
  apply ext_str
  show (Builtin.Str.glued _ _).cps.toList = _
  rw [StrLaws.glued_list]
  rw [tl_append, tl_append]
  simp [StrLaws.glueT, StrLaws.glueL, tl]
theorem part_txt (f n : Int) : Txt.partition (txt f n) plusS = (dS f, plusS, dS n) := partition_app (s := 43) (S := []) rfl (plus_free f)
theorem part_cases (x : Str) : (¬ 43 ∈ tl x ∧ Txt.partition x plusS = (x, Str.empty, Str.empty)) ∨ (∃ h t, x = h ++ plusS ++ t ∧ Txt.partition x plusS = (h, plusS, t)) := by
  by_cases hx : 43 ∈ tl x
  · right
    obtain ⟨p, q, hp, hpq⟩ : ∃ p q, ¬ 43 ∈ p ∧ tl x = p ++ 43 :: q := by
      revert hx
      generalize tl x = l
      intro hx
      induction l with
      | nil => exact absurd hx (by simp)
      | cons a r ih =>
        by_cases ha : a = 43
        · exact ⟨[], r, by simp, by rw [ha]; rfl⟩
        · have hr : 43 ∈ r := by
            rcases List.mem_cons.1 hx with h | h
            · exact absurd h.symm ha
            · exact h
          obtain ⟨p, q, h1, h2⟩ := ih hr
          refine ⟨a :: p, q, ?_, by rw [h2]; rfl⟩
          intro hm
          rcases List.mem_cons.1 hm with h | h
          · exact ha h.symm
          · exact h1 h
    refine ⟨S p, S q, ext_str ?_, ?_⟩
    · rw [tl_append, tl_append, hpq]
      show _ = p ++ [43] ++ q
      rw [List.append_assoc]
      rfl
    · have e : x = S p ++ plusS ++ S q := ext_str (by
        rw [tl_append, tl_append, hpq]
        show _ = p ++ [43] ++ q
        rw [List.append_assoc]
        rfl)
      rw [e]
      exact partition_app (s := 43) (S := []) rfl hp
  · exact .inl ⟨hx, partition_none (s := 43) (S := []) rfl hx⟩
/-- the law's own look: what partition tells of the text -/
theorem isT_part (x : Str) : isT x ↔ ((Txt.partition x plusS).2.1 ≠ Str.empty ∧ ∃ f n, isN (Txt.partition x plusS).1 f ∧ (Txt.partition x plusS).2.2 = dS n ∧ okT f n) := by
  constructor
  · rintro ⟨f, n, ok, rfl⟩
    rw [part_txt]
    refine ⟨?_, f, n, ⟨rfl, ok.1⟩, rfl, ok⟩
    show plusS ≠ Str.empty
    decide
  · rcases part_cases x with ⟨hx, e⟩ | ⟨h, t, rfl, e⟩ <;> rw [e]
    · rintro ⟨h, _⟩
      exact absurd rfl h
    · rintro ⟨_, f, n, ⟨h1, _⟩, h2, ok⟩
      exact ⟨f, n, ok, by rw [show h = dS f from h1, show t = dS n from h2]; rfl⟩
theorem isT_split {x : Str} {a b : Str} {f n : Int} (h : Txt.split x plusS = [a, b]) (ha : isN a f) (hb : isN b n) : x = txt f n := by
  rw [split_two h, ha.1, hb.1]
  rfl
theorem txt_inj {f n g m : Int} (h : txt f n = txt g m) : f = g ∧ n = m := by
  have h := congrArg (fun x => Txt.split x plusS) h
  simp only [split_txt] at h
  exact ⟨dS_inj (List.cons.inj h).1, dS_inj (List.cons.inj (List.cons.inj h).2).1⟩
end Tx1
end L2

/-! Words of texts. -/
namespace L2
open PySem PySem.Spec PyProof.Rows Tx1
section
variable {X : Cx}
def rMRp : V → List V → Hp → VK → Prop := fun x xs H Q => ∃ a b, x = .str a ∧ xs = [.str b] ∧ a.length ≤ sizeLine ∧ Q (.str (Txt.removeprefix a b)) H
theorem m_rp : MtR X "str.removeprefix" rMRp := mt_removeprefix
def rMDec : V → List V → Hp → VK → Prop := fun x xs H Q => ∃ a, x = .str a ∧ xs = [] ∧ True ∧ Q (.bl (Txt.isdecimal a)) H
theorem m_dec : MtR X "str.isdecimal" rMDec := mt_isdecimal
def rLenS : List V → Hp → VK → Prop := fun xs H Q => ∃ a, xs = [.str a] ∧ a.length ≤ sizeLine ∧ Q (.int a.length) H
theorem c_lenS : CallR X (.builtin "len") rLenS := by
  intro pins s σ H xs us Q I r ⟨a, e, hl, q⟩
  exact call_len pins s σ H xs us Q I r ⟨.str a, a.length, e, ⟨hl, rfl⟩, q⟩
def rIntS : List V → Hp → VK → Prop := fun xs H Q => ∃ a n, xs = [.str a] ∧ intText? a = some n ∧ a.length ≤ 640 ∧ Q (.int n) H
theorem c_intS : CallR X (.type "int") rIntS := call_int_str
def rAddT : R2 := fun x y H Q => ∃ i j, x = .str i ∧ y = .str j ∧ i.length + j.length ≤ sizeLine ∧ Q (.str (i ++ j)) H
theorem op_addT : OpR X (binaryOp .Add) rAddT := op_add_str
def rNotInT : R2 := fun x y H Q => ∃ i j, x = .str i ∧ y = .str j ∧ Q (.bl !!(Builtin.Str.occurrences j i 0 j.length 1).isEmpty) H
theorem op_notInT : OpR X (compareOp .NotIn) rNotInT := op_notIn_str
def rMSplit : V → List V → Hp → VK → Prop := fun x xs H Q => ∃ a b, x = .str a ∧ xs = [.str b] ∧ (b.length == 0) = false ∧ a.length + 2 ≤ sizeLine ∧ rNewStrs (Txt.split a b) H Q
def rMPart : V → List V → Hp → VK → Prop := fun x xs H Q => ∃ a b, x = .str a ∧ xs = [.str b] ∧ (b.length == 0) = false ∧ a.length ≤ sizeLine ∧ ∀ p : Addr, H p = none → Q (.ref p) (upd H p (.tup [.str (Txt.partition a b).1, .str (Txt.partition a b).2.1, .str (Txt.partition a b).2.2]))
variable {o e : Expr} {to te : TE} {apos pos : Pos}
theorem pe_splitQ (ho : PE X o to) (he : PE X e te) (hs : starEach [e] X.env = [(false, eval e X.env)] := by rfl) (hb : attributeBase o "split" X.env (eval o X.env) = eval o X.env := by rfl) (hp : (apos.endLine == pos.line) = true := by rfl) :
    PE X (.Call (.Attribute o "split" apos) [e] [] pos) (tM1 rMSplit to te) := pe_split ho he hs hb hp
theorem pe_partQ (ho : PE X o to) (he : PE X e te) (hs : starEach [e] X.env = [(false, eval e X.env)] := by rfl) (hb : attributeBase o "partition" X.env (eval o X.env) = eval o X.env := by rfl) (hp : (apos.endLine == pos.line) = true := by rfl) :
    PE X (.Call (.Attribute o "partition" apos) [e] [] pos) (tM1 rMPart to te) := pe_partition ho he hs hb hp
def rIxZ : R2 := fun x y H Q => ∃ z i c, x = .str z ∧ y = .int i ∧ 0 ≤ i ∧ i < 2 ^ 63 ∧ i < ↑z.length ∧ z.cps[i.toNat]? = some c ∧ Q (.str { cps := #[c] }) H
theorem pe_itemZ {a b : Expr} {ta tb : TE} (ha : PE X a ta) (hb : PE X b tb) (hp : PlainIxT b) : PE X (.Subscript a b pos) (tOp rIxZ ta tb) := pe_item_str ha hb hp
end
end L2
namespace AW
open PySem PySem.Spec PyProof.Rows L2 ClX Tx1
section
variable {c : Cw} {kn : Hp} {n : Nat} {σ : L2.St} {K : PySem.W.Frag} {Q : V → Hp → Nat → Prop} {E : XK} {EA : EAK} {B : List V → Hp → AK → AXK → Prop}
theorem sz {m : Nat} (h : m ≤ 100000) : m ≤ sizeLine := Nat.le_trans h (by rw [sizeLine_eq]; decide)
theorem w_bmS {r : V → List V → Hp → VK → Prop} {to : TE} {t : TA} (h : W c (to σ) kn n fun x kn1 n1 => (∃ a, x = .str a) ∧ W c (t σ) kn1 n1 fun xs kn2 n2 => W c (r x xs) kn2 n2 Q) : W c (tBM K "str" r to t σ) kn n Q :=
  fun H g Q' q => h H g _ fun x kn1 n1 H1 ⟨⟨a, e⟩, h1⟩ g1 => ⟨by subst e; exact rfl, h1 H1 g1 _ fun xs kn2 n2 H2 h2 g2 => h2 H2 g2 Q' q⟩
theorem w_bmS0 {r : V → List V → Hp → VK → Prop} {to : TE} (h : W c (to σ) kn n fun x kn1 n1 => (∃ a, x = .str a) ∧ W c (r x []) kn1 n1 Q) : W c (tBM0 K "str" r to σ) kn n Q :=
  fun H g Q' q => h H g _ fun x kn1 n1 H1 ⟨⟨a, e⟩, h1⟩ g1 => ⟨by subst e; exact rfl, h1 H1 g1 Q' q⟩
theorem w_m1 {r : V → List V → Hp → VK → Prop} {to te : TE} (h : W c (to σ) kn n fun x kn1 n1 => (∃ a, x = .str a) ∧ W c (te σ) kn1 n1 fun y kn2 n2 => W c (r x [y]) kn2 n2 Q) : W c (tM1 r to te σ) kn n Q :=
  fun H g Q' q => h H g _ fun x kn1 n1 H1 ⟨e, h1⟩ g1 => ⟨e, h1 H1 g1 _ fun xs kn2 n2 H2 h2 g2 => h2 H2 g2 Q' q⟩
theorem r_rp {a b : Str} (hl : a.length ≤ 100000) (q : Q (.str (Txt.removeprefix a b)) kn n) : W c (rMRp (.str a) [.str b]) kn n Q := fun H g _ k => ⟨a, b, rfl, rfl, sz hl, k _ kn n H q g⟩
theorem r_dec {a : Str} (q : Q (.bl (Txt.isdecimal a)) kn n) : W c (rMDec (.str a) []) kn n Q := fun H g _ k => ⟨a, rfl, rfl, trivial, k _ kn n H q g⟩
theorem r_lenS {a : Str} (hl : a.length ≤ 100000) (q : Q (.int a.length) kn n) : W c (rLenS [.str a]) kn n Q := fun H g _ k => ⟨a, rfl, sz hl, k _ kn n H q g⟩
theorem r_intS {a : Str} {i : Int} (hi : intText? a = some i) (hl : a.length ≤ 640) (q : Q (.int i) kn n) : W c (rIntS [.str a]) kn n Q := fun H g _ k => ⟨a, i, rfl, hi, hl, k _ kn n H q g⟩
theorem r_addT {a b : Str} (hl : a.length + b.length ≤ 100000) (q : Q (.str (a ++ b)) kn n) : W c (rAddT (.str a) (.str b)) kn n Q := fun H g _ k => ⟨a, b, rfl, rfl, sz hl, k _ kn n H q g⟩
theorem r_notInT {a b : Str} (q : Q (.bl !!(Builtin.Str.occurrences b a 0 b.length 1).isEmpty) kn n) : W c (rNotInT (.str a) (.str b)) kn n Q := fun H g _ k => ⟨a, b, rfl, rfl, k _ kn n H q g⟩
theorem r_split {a b : Str} (hb : (b.length == 0) = false) (hl : a.length + 2 ≤ 100000) (q : ∀ p, kn p = none → Q (.ref p) (upd kn p (.lst ((Txt.split a b).map V.str))) n) : W c (rMSplit (.str a) [.str b]) kn n Q :=
  fun H g _ k => ⟨a, b, rfl, rfl, hb, sz hl, fun p hp => k _ _ n _ (q p (g.free hp)) (g.new hp)⟩
theorem r_part {a b : Str} (hb : (b.length == 0) = false) (hl : a.length ≤ 100000) (q : ∀ p, kn p = none → Q (.ref p) (upd kn p (.tup [.str (Txt.partition a b).1, .str (Txt.partition a b).2.1, .str (Txt.partition a b).2.2])) n) : W c (rMPart (.str a) [.str b]) kn n Q :=
  fun H g _ k => ⟨a, b, rfl, rfl, hb, sz hl, fun p hp => k _ _ n _ (q p (g.free hp)) (g.new hp)⟩
theorem r_ixZ {z : Str} {i : Int} {d : Nat} (h0 : 0 ≤ i) (h1 : i < 2 ^ 63) (h2 : i < z.length) (h3 : z.cps[i.toNat]? = some d) (q : Q (.str { cps := #[d] }) kn n) : W c (rIxZ (.str z) (.int i)) kn n Q := fun H g _ k => ⟨z, i, d, rfl, rfl, h0, h1, h2, h3, k _ kn n H q g⟩
theorem r_slS {z : Str} {lo hi : Option Int} (hl : z.length ≤ 100000) (q : Q (.str (cutS z lo hi)) kn n) : W c (rSlS (.str z) lo hi) kn n Q := fun H g _ k => ⟨z, rfl, sz hl, k _ kn n H q g⟩
/-- a classmethod -/
theorem w_cmeth {C : Addr} {ta : TE} {t : TA} (hm : MonoX B) (hE : ErrOk c EA E) (h : W c (ta σ) kn n fun x kn1 n1 => x = .ref C ∧ W c (t σ) kn1 n1 fun vs kn2 n2 => B (.ref C :: vs) kn2 (fun v k => Q v k n2) (fun cls d k => EA cls d k n2)) : W c (tCMeth C (liftX B) E ta t σ) kn n Q :=
  fun H g Q' q => h H g _ fun x kn1 n1 H1 ⟨e, h1⟩ g1 => ⟨e, h1 H1 g1 _ fun vs kn2 n2 H2 h2 g2 => sp_call hm hE h2 H2 g2 Q' q⟩
def chr1 (d : Nat) : V := .str { cps := #[d] }
theorem gives_str {a : Str} : Gives (Its a) ((TL.tl a).map chr1) fun _ => True := fun kn H e h =>
  ⟨fun i hi => by show i < a.cps.size; simpa [TL.tl] using hi, fun i hi => by show a.cps.size ≤ i; simpa [TL.tl] using hi, fun i x H' y => ⟨y.1, fun hi => by
    obtain ⟨_, d, hd, rfl⟩ := y
    rw [List.getElem?_map]
    have : (TL.tl a)[i]? = some d := by simpa [TL.tl] using hd
    rw [this]
    rfl⟩⟩
theorem i_str {te : TE} {R : It → Hp → Nat → Prop} (h : W c (te σ) kn n fun x kn1 n1 => ∃ z, x = .str z ∧ R (Its z) kn1 n1) : WI c (iStr te σ) kn n R :=
  fun H g R' q => h H g _ fun x kn1 n1 H1 ⟨z, e, hr⟩ g1 => ⟨z, e, q _ _ _ _ hr g1⟩
end
end AW

/-! Marks that come round: the least period, the least start. Pure. -/
namespace Ln
def ix (t : List Bool) (i : Nat) : Bool := t.getD i false
theorem ix_lt {t : List Bool} {i : Nat} (h : i < t.length) : ix t i = t[i] := by
  unfold ix
  rw [List.getD_eq_getElem?_getD, List.getElem?_eq_getElem h]; rfl
theorem ext_ix {a b : List Bool} (hl : a.length = b.length) (h : ∀ i, i < a.length → ix a i = ix b i) : a = b := by
  apply List.ext_getElem hl
  intro i h1 h2
  rw [← ix_lt h1, ← ix_lt h2]
  exact h i h1
def turned (t : List Bool) (k : Nat) : List Bool := t.drop k ++ t.take k
theorem turned_len (t : List Bool) (k : Nat) : (turned t k).length = t.length := by
  unfold turned
  rw [List.length_append, List.length_drop, List.length_take]
  omega
theorem ix_turned {t : List Bool} {k i : Nat} (hk : k ≤ t.length) (hi : i < t.length) : ix (turned t k) i = ix t (if i + k < t.length then i + k else i + k - t.length) := by
  unfold turned ix
  rw [List.getD_eq_getElem?_getD, List.getD_eq_getElem?_getD]
  by_cases h : i + k < t.length
  · rw [if_pos h, List.getElem?_append_left (by rw [List.length_drop]; omega), List.getElem?_drop, Nat.add_comm k i]
  · rw [if_neg h, List.getElem?_append_right (by rw [List.length_drop]; omega), List.length_drop, List.getElem?_take, if_pos (by omega)]
    congr 2
    omega
/-- what comes round by k, a divisor -/
def Per (t : List Bool) (k : Nat) : Prop := ∀ i, i < t.length → ix t i = ix t (i % k)
theorem per_of_turned {t : List Bool} {k : Nat} (hk : 0 < k) (hkl : k ≤ t.length) (h : turned t k = t) : Per t k := by
  intro i
  induction i using Nat.strongRecOn with
  | _ i ih =>
    intro hi
    by_cases hik : i < k
    · rw [Nat.mod_eq_of_lt hik]
    · have e : ix (turned t k) (i - k) = ix t (i - k) := by rw [h]
      rw [ix_turned hkl (by omega), if_pos (by omega), Nat.sub_add_cancel (by omega)] at e
      rw [e, ih (i - k) (by omega) (by omega)]
      congr 1
      rw [Nat.mod_eq_sub_mod (by omega : i ≥ k)]
theorem turned_of_per {t : List Bool} {k : Nat} (hk : 0 < k) (hkl : k ≤ t.length) (hd : t.length % k = 0) (h : Per t k) : turned t k = t := by
  apply ext_ix (turned_len t k)
  rw [turned_len]
  intro i hi
  rw [ix_turned hkl hi]
  by_cases h2 : i + k < t.length
  · rw [if_pos h2, h _ h2, h _ hi, Nat.add_mod_right]
  · rw [if_neg h2, h _ (by omega), h _ hi]
    congr 1
    obtain ⟨m, hm⟩ := Nat.dvd_of_mod_eq_zero hd
    have h3 : t.length ≤ i + k := by omega
    have : i + k - t.length = i + k - k * m := by rw [hm]
    rw [this]
    rw [Nat.sub_mul_mod (by omega), Nat.add_mod_right]
/-- the least period -/
def isP (t : List Bool) (k : Nat) : Bool := decide (1 ≤ k) && decide (t.length % k = 0) && decide (turned t k = t)
def leastP (t : List Bool) : Nat := ((List.range t.length).find? (isP t)).getD t.length
theorem leastP_cases (t : List Bool) : (leastP t = t.length ∧ ∀ k, k < t.length → isP t k = false) ∨ (leastP t < t.length ∧ isP t (leastP t) = true ∧ ∀ k, k < leastP t → isP t k = false) := by
  unfold leastP
  cases h : (List.range t.length).find? (isP t) with
  | none =>
    left
    refine ⟨rfl, fun k hk => ?_⟩
    have := List.find?_eq_none.1 h k (List.mem_range.2 hk)
    simpa using this
  | some k =>
    right
    rw [List.find?_range_eq_some] at h
    refine ⟨List.mem_range.1 h.2.1, h.1, fun j hj => ?_⟩
    have := h.2.2 j hj
    simpa using this
theorem leastP_le (t : List Bool) : leastP t ≤ t.length := by
  rcases leastP_cases t with h | h <;> omega
theorem leastP_pos {t : List Bool} (h : 0 < t.length) : 0 < leastP t := by
  rcases leastP_cases t with ⟨e, _⟩ | ⟨_, p, _⟩
  · omega
  · unfold isP at p
    simp at p
    omega
theorem leastP_per {t : List Bool} (h : 0 < t.length) : t.length % leastP t = 0 ∧ Per t (leastP t) := by
  rcases leastP_cases t with ⟨e, _⟩ | ⟨l, p, _⟩
  · rw [e]
    exact ⟨Nat.mod_self _, fun i hi => by rw [Nat.mod_eq_of_lt hi]⟩
  · unfold isP at p
    simp at p
    exact ⟨p.1.2, per_of_turned (by omega) (by omega) p.2⟩
theorem leastP_min {t : List Bool} {k : Nat} (h1 : 1 ≤ k) (h2 : k < leastP t) (h3 : t.length % k = 0) (h : Per t k) : False := by
  have hk : isP t k = true := by
    unfold isP
    have := leastP_le t
    rw [turned_of_per (by omega) (by omega) h3 h]
    simp [h1, h3]
  rcases leastP_cases t with ⟨e, f⟩ | ⟨l, p, f⟩
  · rw [f k (by omega)] at hk; cases hk
  · rw [f k h2] at hk; cases hk
theorem ix_take {t : List Bool} {n i : Nat} (h : i < n) : ix (t.take n) i = ix t i := by
  unfold ix
  rw [List.getD_eq_getElem?_getD, List.getD_eq_getElem?_getD, List.getElem?_take, if_pos h]
/-- the first round comes round by no less -/
theorem leastP_take {t : List Bool} (h : 0 < t.length) : leastP (t.take (leastP t)) = leastP t := by
  have hle := leastP_le t
  have hp := leastP_pos h
  have hl : (t.take (leastP t)).length = leastP t := by rw [List.length_take]; omega
  obtain ⟨d, p⟩ := leastP_per h
  rcases leastP_cases (t.take (leastP t)) with ⟨e, _⟩ | ⟨l, q, _⟩
  · rw [e, hl]
  · exfalso
    rw [hl] at l
    have p2 := leastP_per (t := t.take (leastP t)) (by omega)
    have q1 := leastP_pos (t := t.take (leastP t)) (by omega)
    generalize leastP (t.take (leastP t)) = k at l q p2 q1
    rw [hl] at p2
    refine leastP_min (t := t) (k := k) q1 l ?_ ?_
    · obtain ⟨a, ha⟩ := Nat.dvd_of_mod_eq_zero d
      obtain ⟨b, hb⟩ := Nat.dvd_of_mod_eq_zero p2.1
      have hd : k ∣ t.length := ⟨b * a, by rw [ha]; generalize leastP t = L at hb; subst hb; rw [Nat.mul_assoc]⟩
      exact Nat.mod_eq_zero_of_dvd hd
    · intro i hi
      have hm : i % leastP t < leastP t := Nat.mod_lt _ hp
      have e1 : ix t i = ix t (i % leastP t) := p i hi
      have e2 : ix t (i % leastP t) = ix (t.take (leastP t)) (i % leastP t) := (ix_take hm).symm
      have e3 := p2.2 (i % leastP t) (by rw [hl]; exact hm)
      have e4 : i % leastP t % k = i % k := Nat.mod_mod_of_dvd i (Nat.dvd_of_mod_eq_zero p2.1)
      have e5 : ix (t.take (leastP t)) (i % k) = ix t (i % k) := ix_take (Nat.lt_trans (Nat.mod_lt _ q1) l)
      rw [e1, e2, e3, e4, e5]
/-- numbers that are marked -/
def idx (t : List Bool) : List Nat := (List.range t.length).filter (ix t)
def maskOf (n : Nat) (xs : List Nat) : List Bool := (List.range n).map fun i => decide (i ∈ xs)
theorem mask_len (n : Nat) (xs : List Nat) : (maskOf n xs).length = n := by simp [maskOf]
theorem ix_mask {n i : Nat} {xs : List Nat} (h : i < n) : ix (maskOf n xs) i = decide (i ∈ xs) := by
  unfold ix maskOf
  rw [List.getD_eq_getElem?_getD, List.getElem?_map, List.getElem?_range h]
  rfl
theorem mem_idx {t : List Bool} {i : Nat} : i ∈ idx t ↔ i < t.length ∧ ix t i = true := by
  unfold idx
  rw [List.mem_filter, List.mem_range]
theorem mask_idx (t : List Bool) : maskOf t.length (idx t) = t := by
  apply ext_ix (mask_len _ _)
  rw [mask_len]
  intro i hi
  rw [ix_mask hi]
  cases h : ix t i with
  | true => exact decide_eq_true (mem_idx.2 ⟨hi, h⟩)
  | false => exact decide_eq_false fun z => by rw [(mem_idx.1 z).2] at h; cases h
theorem idx_inj {a b : List Bool} (hl : a.length = b.length) (h : idx a = idx b) : a = b := by
  rw [← mask_idx a, ← mask_idx b, hl, h]
/-- the least start -/
def astray (near turn : List Bool) (s : Nat) : List Nat := (List.range near.length).filter fun i => ix near i != ix turn (i % s)
def beginOf (near turn : List Bool) (s : Nat) : Nat := match (astray near turn s).getLast? with | some m => m + 1 | none => 0
theorem sorted_range_filter (p : Nat → Bool) (n : Nat) : ((List.range n).filter p).Pairwise (· < ·) := (List.pairwise_lt_range).filter p
theorem last_max {l : List Nat} (h : l.Pairwise (· < ·)) {m : Nat} (hm : l.getLast? = some m) : m ∈ l ∧ ∀ x ∈ l, x ≤ m := by
  obtain ⟨ys, rfl⟩ := List.getLast?_eq_some_iff.1 hm
  refine ⟨by simp, fun x hx => ?_⟩
  rcases List.mem_append.1 hx with h1 | h1
  · exact Nat.le_of_lt ((List.pairwise_append.1 h).2.2 x h1 m (by simp))
  · rw [List.mem_singleton.1 h1]
    exact Nat.le_refl _
theorem begin_spec (near turn : List Bool) (s : Nat) : beginOf near turn s ≤ near.length ∧ (∀ i, beginOf near turn s ≤ i → i < near.length → ix near i = ix turn (i % s)) ∧ (0 < beginOf near turn s → ix near (beginOf near turn s - 1) ≠ ix turn ((beginOf near turn s - 1) % s)) := by
  unfold beginOf
  have hs := sorted_range_filter (fun i => ix near i != ix turn (i % s)) near.length
  cases h : (astray near turn s).getLast? with
  | none =>
    have e : astray near turn s = [] := List.getLast?_eq_none_iff.1 h
    refine ⟨Nat.zero_le _, fun i _ hi => ?_, fun z => absurd z (by decide)⟩
    by_cases q : ix near i = ix turn (i % s)
    · exact q
    · have : i ∈ astray near turn s := List.mem_filter.2 ⟨List.mem_range.2 hi, by simpa using q⟩
      rw [e] at this
      cases this
  | some m =>
    obtain ⟨h1, h2⟩ := last_max hs h
    have h3 := List.mem_filter.1 h1
    dsimp only
    refine ⟨List.mem_range.1 h3.1, fun i hi hl => ?_, fun _ => by simpa using h3.2⟩
    by_cases q : ix near i = ix turn (i % s)
    · exact q
    · have := h2 i (List.mem_filter.2 ⟨List.mem_range.2 hl, by simpa using q⟩)
      omega
theorem begin_uni {near turn : List Bool} {s b : Nat} (h1 : b ≤ near.length) (h2 : ∀ i, b ≤ i → i < near.length → ix near i = ix turn (i % s)) (h3 : 0 < b → ix near (b - 1) ≠ ix turn ((b - 1) % s)) : beginOf near turn s = b := by
  obtain ⟨g1, g2, g3⟩ := begin_spec near turn s
  rcases Nat.lt_trichotomy (beginOf near turn s) b with h | h | h
  · exact absurd (g2 (b - 1) (by omega) (by omega)) (h3 (by omega))
  · exact h
  · exact absurd (h2 (beginOf near turn s - 1) (by omega) (by omega)) (g3 (by omega))
/-- a least form -/
structure Form (nr tn : List Bool) : Prop where
  pos : 0 < tn.length
  per : leastP tn = tn.length
  beg : 0 < nr.length → ix nr (nr.length - 1) ≠ ix tn ((nr.length - 1) % tn.length)
  le : nr.length + tn.length ≤ 400
theorem form_of {near turn : List Bool} (h : 0 < turn.length) (hl : beginOf near turn (leastP turn) + leastP turn ≤ 400) : Form (near.take (beginOf near turn (leastP turn))) (turn.take (leastP turn)) := by
  have hp := leastP_pos h
  have hle := leastP_le turn
  obtain ⟨g1, g2, g3⟩ := begin_spec near turn (leastP turn)
  have l1 : (near.take (beginOf near turn (leastP turn))).length = beginOf near turn (leastP turn) := by rw [List.length_take]; omega
  have l2 : (turn.take (leastP turn)).length = leastP turn := by rw [List.length_take]; omega
  refine ⟨by omega, by rw [leastP_take h, l2], fun z => ?_, by omega⟩
  rw [l1] at z ⊢
  rw [l2, ix_take (by omega), ix_take (Nat.mod_lt _ hp)]
  exact g3 z
/-- a form told by itself -/
theorem form_again {nr tn : List Bool} (F : Form nr tn) : leastP tn = tn.length ∧ beginOf nr tn tn.length = nr.length := by
  refine ⟨F.per, begin_uni (Nat.le_refl _) (fun i h1 h2 => by omega) F.beg⟩
/-- a finite form: one round of one that is not marked -/
theorem form_fin {nr tn : List Bool} (F : Form nr tn) (h : idx tn = []) : tn = [false] := by
  have hall : ∀ i, i < tn.length → ix tn i = false := fun i hi => by
    cases q : ix tn i with
    | false => rfl
    | true => have := mem_idx.2 ⟨hi, q⟩; rw [h] at this; cases this
  have h1 : tn.length = 1 := by
    rcases Nat.lt_or_ge 1 tn.length with g | g
    · exfalso
      refine leastP_min (t := tn) (k := 1) (by omega) (by rw [F.per]; exact g) (Nat.mod_one _) fun i hi => ?_
      rw [hall i hi, Nat.mod_one, hall 0 (by omega)]
    · have := F.pos; omega
  apply ext_ix (by rw [h1]; rfl)
  intro i hi
  rw [hall i hi]
  have : i = 0 := by omega
  subst this
  rfl
theorem form_fin_begin {nr : List Bool} (F : Form nr [false]) : beginOf (maskOf 400 (idx nr)) [false] 1 = nr.length ∧ (maskOf 400 (idx nr)).take nr.length = nr := by
  have le : nr.length + 1 ≤ 400 := F.le
  refine ⟨begin_uni (by rw [mask_len]; omega) (fun i h1 h2 => ?_) (fun z => ?_), ?_⟩
  · rw [mask_len] at h2
    rw [ix_mask h2, Nat.mod_one]
    refine decide_eq_false fun z => ?_
    have := (mem_idx.1 z).1
    omega
  · have := F.beg z
    rw [ix_mask (by omega)]
    have q : ix nr (nr.length - 1) = true := by
      cases q : ix nr (nr.length - 1) with
      | true => rfl
      | false => exact absurd (by rw [q]; simp [Nat.mod_one, ix]) this
    rw [decide_eq_true (mem_idx.2 ⟨by omega, q⟩), Nat.mod_one]
    simp [ix]
  · apply ext_ix (by rw [List.length_take, mask_len]; omega)
    intro i hi
    rw [List.length_take, mask_len] at hi
    rw [ix_take (by omega), ix_mask (by omega)]
    cases h : ix nr i with
    | true => exact decide_eq_true (mem_idx.2 ⟨by omega, h⟩)
    | false => exact decide_eq_false fun z => by rw [(mem_idx.1 z).2] at h; cases h
/-- the marks below start and of the first round from it on -/
def marks (nr tn : List Bool) : List Bool := nr ++ (List.range tn.length).map fun i => ix tn ((nr.length + i) % tn.length)
theorem marks_len (nr tn : List Bool) : (marks nr tn).length = nr.length + tn.length := by simp [marks]
theorem marks_inj {nr tn nr' tn' : List Bool} (h : 0 < tn.length) (hb : nr.length = nr'.length) (e : marks nr tn = marks nr' tn') : nr = nr' ∧ tn = tn' := by
  have hl := congrArg List.length e
  rw [marks_len, marks_len] at hl
  have ht : tn.length = tn'.length := by omega
  obtain ⟨e1, e2⟩ := List.append_inj e hb
  refine ⟨e1, ?_⟩
  rw [← ht, ← hb] at e2
  apply ext_ix ht
  intro i hi
  have key : ∀ j, j < tn.length → ix tn ((nr.length + j) % tn.length) = ix tn' ((nr.length + j) % tn.length) := fun j hj => by
    have := List.map_inj_left.1 e2 j (List.mem_range.2 hj)
    exact this
  -- j with (b + j) % s = i
  have hm : nr.length % tn.length < tn.length := Nat.mod_lt _ h
  by_cases hc : nr.length % tn.length ≤ i
  · have := key (i - nr.length % tn.length) (by omega)
    have q : (nr.length + (i - nr.length % tn.length)) % tn.length = i := by
      rw [Nat.add_mod, Nat.mod_eq_of_lt (show i - nr.length % tn.length < tn.length by omega)]
      rw [show nr.length % tn.length + (i - nr.length % tn.length) = i by omega, Nat.mod_eq_of_lt hi]
    rw [q] at this
    exact this
  · have := key (i + tn.length - nr.length % tn.length) (by omega)
    have q : (nr.length + (i + tn.length - nr.length % tn.length)) % tn.length = i := by
      rw [Nat.add_mod, Nat.mod_eq_of_lt (show i + tn.length - nr.length % tn.length < tn.length by omega)]
      rw [show nr.length % tn.length + (i + tn.length - nr.length % tn.length) = i + tn.length by omega, Nat.add_mod_right, Nat.mod_eq_of_lt hi]
    rw [q] at this
    exact this
end Ln

/-! Lengths: which numbers are in; the same numbers are one form. -/
namespace Ln
def inL (nr tn : List Bool) (x : Int) : Bool := if x < 0 then false else if x < (nr.length : Int) then ix nr x.toNat else ix tn (x % (tn.length : Int)).toNat
theorem inL_neg {nr tn : List Bool} {x : Int} (h : x < 0) : inL nr tn x = false := by unfold inL; rw [if_pos h]
theorem inL_nat {nr tn : List Bool} (n : Nat) : inL nr tn (n : Int) = if n < nr.length then ix nr n else ix tn (n % tn.length) := by
  unfold inL
  rw [if_neg (by omega)]
  by_cases h : n < nr.length
  · rw [if_pos h, if_pos (by omega), Int.toNat_natCast]
  · rw [if_neg h, if_neg (by omega), ← Int.natCast_emod, Int.toNat_natCast]
theorem ix_marks_lo {nr tn : List Bool} {i : Nat} (h : i < nr.length) : ix (marks nr tn) i = ix nr i := by
  unfold ix marks
  rw [List.getD_eq_getElem?_getD, List.getElem?_append_left h, ← List.getD_eq_getElem?_getD]
theorem ix_marks_hi {nr tn : List Bool} {m : Nat} (h : m < tn.length) : ix (marks nr tn) (nr.length + m) = ix tn ((nr.length + m) % tn.length) := by
  unfold ix marks
  rw [List.getD_eq_getElem?_getD, List.getElem?_append_right (by omega), Nat.add_sub_cancel_left, List.getElem?_map, List.getElem?_range h]
  rfl
theorem mod_nat (x : Int) {s : Nat} (h : 0 < s) : ∃ m : Nat, x % (s : Int) = m ∧ m < s := by
  have h0 := Int.emod_nonneg x (show (s : Int) ≠ 0 by omega)
  have h1 := Int.emod_lt_of_pos x (show (0 : Int) < s by omega)
  exact ⟨(x % (s : Int)).toNat, by omega, by omega⟩
theorem hi_eq {b s m : Nat} {i : Int} (h : (i - (b : Int)) % (s : Int) = m) : (b + m) % s = (i % (s : Int)).toNat := by
  have e : (((b + m) % s : Nat) : Int) = i % (s : Int) := by
    rw [Int.natCast_emod, Int.natCast_add, ← h, Int.add_emod_emod]
    congr 1
    omega
  omega
theorem inL_form {near turn : List Bool} (h : 0 < turn.length) (n : Nat) : inL (near.take (beginOf near turn (leastP turn))) (turn.take (leastP turn)) (n : Int) = if n < near.length then ix near n else ix turn (n % turn.length) := by
  obtain ⟨b1, b2, b3⟩ := begin_spec near turn (leastP turn)
  obtain ⟨p1, p2⟩ := leastP_per h
  have ple := leastP_le turn
  have pp := leastP_pos h
  rw [inL_nat, List.length_take, List.length_take, Nat.min_eq_left b1, Nat.min_eq_left ple]
  generalize leastP turn = s at *
  generalize beginOf near turn s = b at *
  have hm := Nat.mod_lt n pp
  by_cases h1 : n < b
  · rw [if_pos h1, if_pos (by omega), ix_take h1]
  · rw [if_neg h1, ix_take hm]
    by_cases h2 : n < near.length
    · rw [if_pos h2, b2 n (by omega) h2]
    · rw [if_neg h2, p2 (n % turn.length) (Nat.mod_lt _ h), Nat.mod_mod_of_dvd _ (Nat.dvd_of_mod_eq_zero p1)]
/-! ### periods of all numbers -/
def Prd (f : Nat → Bool) (p : Nat) : Prop := ∀ n, f (n + p) = f n
theorem Prd.mul {f : Nat → Bool} {p : Nat} (h : Prd f p) (n : Nat) : ∀ k, f (n + k * p) = f n
  | 0 => by rw [Nat.zero_mul]; rfl
  | k + 1 => by rw [Nat.succ_mul, ← Nat.add_assoc, h, h.mul n k]
theorem Prd.mul' {f : Nat → Bool} {p : Nat} (h : Prd f p) (k : Nat) : Prd f (k * p) := fun n => h.mul n k
theorem Prd.dvd {f : Nat → Bool} {p q : Nat} (h : Prd f p) (d : p ∣ q) : Prd f q := by
  obtain ⟨k, rfl⟩ := d
  rw [Nat.mul_comm]
  exact h.mul' k
theorem Prd.gcd {f : Nat → Bool} {p q : Nat} : Prd f p → Prd f q → Prd f (Nat.gcd p q) := by
  induction p, q using Nat.gcd.induction with
  | H0 n => intro _ h; rw [Nat.gcd_zero_left]; exact h
  | H1 m n hm ih =>
    intro h k
    rw [Nat.gcd_rec]
    refine ih (fun x => ?_) h
    rw [← h.mul (x + n % m) (n / m), Nat.add_assoc, show n % m + n / m * m = n by rw [Nat.mul_comm]; exact Nat.mod_add_div n m, k]
theorem Prd.mod {f : Nat → Bool} {p : Nat} (h : Prd f p) (n : Nat) : f (n % p) = f n := by
  have := h.mul (n % p) (n / p)
  rw [Nat.mul_comm, Nat.mod_add_div] at this
  exact this.symm
theorem prd_tail (t : List Bool) : Prd (fun n => ix t (n % t.length)) t.length := fun n => by
  dsimp only
  rw [Nat.add_mod_right]
theorem len_of_prd {t : List Bool} (pos : 0 < t.length) (per : leastP t = t.length) {q : Nat} (hq : 0 < q) (h : Prd (fun n => ix t (n % t.length)) q) : t.length ∣ q := by
  have g := Prd.gcd (prd_tail t) h
  have gd := Nat.gcd_dvd_left t.length q
  have gq := Nat.gcd_dvd_right t.length q
  have gp : 0 < Nat.gcd t.length q := Nat.gcd_pos_of_pos_left _ pos
  have gl := Nat.le_of_dvd pos gd
  rcases Nat.lt_or_ge (Nat.gcd t.length q) t.length with z | z
  · exfalso
    refine leastP_min (t := t) gp (by rw [per]; exact z) (Nat.mod_eq_zero_of_dvd gd) fun i hi => ?_
    have e := g.mod i
    have hm := Nat.mod_lt i gp
    rw [Nat.mod_eq_of_lt hi, Nat.mod_eq_of_lt (show i % Nat.gcd t.length q < t.length by omega)] at e
    exact e.symm
  · have : Nat.gcd t.length q = t.length := by omega
    rw [this] at gq
    exact gq
theorem form_uniq {nr tn nr' tn' : List Bool} (F : Form nr tn) (G : Form nr' tn') (h : ∀ n : Nat, inL nr tn (n : Int) = inL nr' tn' (n : Int)) : nr = nr' ∧ tn = tn' := by
  have f1 := F.pos; have g1 := G.pos
  have all : ∀ n, ix tn (n % tn.length) = ix tn' (n % tn'.length) := by
    intro n
    have P := (prd_tail tn).mul' tn'.length
    have P' := (prd_tail tn').mul' tn.length
    have e1 := P.mul n (nr.length + nr'.length)
    have e2 := P'.mul n (nr.length + nr'.length)
    rw [Nat.mul_comm tn.length] at e2
    have big : nr.length + nr'.length ≤ n + (nr.length + nr'.length) * (tn'.length * tn.length) := by
      have : 1 ≤ tn'.length * tn.length := Nat.mul_pos g1 f1
      have := Nat.mul_le_mul_left (nr.length + nr'.length) this
      omega
    have e := h (n + (nr.length + nr'.length) * (tn'.length * tn.length))
    rw [inL_nat, inL_nat, if_neg (by omega), if_neg (by omega), e1, e2] at e
    exact e
  have P2 : Prd (fun n => ix tn (n % tn.length)) tn'.length := fun n => by
    dsimp only
    rw [all, all, Nat.add_mod_right]
  have P3 : Prd (fun n => ix tn' (n % tn'.length)) tn.length := fun n => by
    dsimp only
    rw [← all, ← all, Nat.add_mod_right]
  have hl : tn.length = tn'.length := Nat.dvd_antisymm (len_of_prd f1 F.per g1 P2) (len_of_prd g1 G.per f1 P3)
  have ht : tn = tn' := ext_ix hl fun i hi => by
    have := all i
    rw [Nat.mod_eq_of_lt hi, Nat.mod_eq_of_lt (by omega)] at this
    exact this
  subst ht
  have hb : nr.length = nr'.length := by
    rcases Nat.lt_trichotomy nr.length nr'.length with z | z | z
    · exfalso
      have e := h (nr'.length - 1)
      rw [inL_nat, inL_nat, if_neg (by omega), if_pos (by omega)] at e
      exact G.beg (by omega) e.symm
    · exact z
    · exfalso
      have e := h (nr.length - 1)
      rw [inL_nat, inL_nat, if_pos (by omega), if_neg (by omega)] at e
      exact F.beg (by omega) e
  refine ⟨ext_ix hb fun i hi => ?_, rfl⟩
  have e := h i
  rw [inL_nat, inL_nat, if_pos hi, if_pos (by omega)] at e
  exact e
theorem inL_add {nr tn : List Bool} {n L : Nat} (h : nr.length ≤ n) (d : tn.length ∣ L) : inL nr tn ((n + L : Nat) : Int) = inL nr tn (n : Int) := by
  rw [inL_nat, inL_nat, if_neg (by omega), if_neg (by omega)]
  exact (prd_tail tn).dvd d n
/-- what comes round from b on by L has a form within -/
theorem form_within {r u : List Bool} (G : Form r u) {b L : Nat} (hL : 0 < L) (h : ∀ n : Nat, b ≤ n → inL r u ((n + L : Nat) : Int) = inL r u (n : Int)) : r.length ≤ b ∧ u.length ∣ L := by
  have g1 := G.pos
  have P : Prd (fun n => ix u (n % u.length)) L := fun n => by
    have T := prd_tail u
    have e1 := T.mul n (b + r.length)
    have e2 := T.mul (n + L) (b + r.length)
    have big : b + r.length ≤ (b + r.length) * u.length := Nat.le_mul_of_pos_right _ g1
    have e := h (n + (b + r.length) * u.length) (by omega)
    rw [inL_nat, inL_nat, if_neg (by omega), if_neg (by omega)] at e
    rw [show n + (b + r.length) * u.length + L = n + L + (b + r.length) * u.length by omega] at e
    exact e2.symm.trans (e.trans e1)
  refine ⟨?_, len_of_prd g1 G.per hL P⟩
  rcases Nat.lt_or_ge b r.length with z | z
  · exfalso
    have e := h (r.length - 1) (by omega)
    rw [inL_nat, inL_nat, if_neg (by omega), if_pos (by omega)] at e
    exact G.beg (by omega) (e.symm.trans (P (r.length - 1)))
  · exact z
/-! ### told by what is asked of each number -/
def lowOf (P : Nat → Bool) (st : Nat) : List Nat := (List.range st).filter P
def resOf (P : Nat → Bool) (st p : Nat) : List Nat := (((List.range (st + p)).filter P).filter fun n => decide (st ≤ n)).map (· % p)
theorem mem_res {P : Nat → Bool} {st p : Nat} (hp : 0 < p) (hP : ∀ n, st ≤ n → P (n + p) = P n) {n : Nat} (hn : st ≤ n) : n % p ∈ resOf P st p ↔ P n = true := by
  have rep : ∀ m k, st ≤ m → P (m + k * p) = P m := fun m k hm => by
    induction k with
    | zero => rw [Nat.zero_mul]; rfl
    | succ k ih => rw [Nat.succ_mul, ← Nat.add_assoc, hP _ (by omega), ih]
  have same : ∀ m, st ≤ m → m % p = n % p → P m = P n := fun m hm e => by
    have a := Nat.mod_add_div m p
    have b := Nat.mod_add_div n p
    rcases Nat.le_total (m / p) (n / p) with z | z
    · have : n = m + (n / p - m / p) * p := by
        rw [Nat.sub_mul]
        have := Nat.mul_le_mul_right p z
        rw [Nat.mul_comm] at a b
        omega
      rw [this, rep m _ hm]
    · have : m = n + (m / p - n / p) * p := by
        rw [Nat.sub_mul]
        have := Nat.mul_le_mul_right p z
        rw [Nat.mul_comm] at a b
        omega
      rw [this, rep n _ hn]
  unfold resOf
  rw [List.mem_map]
  constructor
  · rintro ⟨m, hm, e⟩
    rw [List.mem_filter, List.mem_filter] at hm
    rw [← same m (of_decide_eq_true hm.2) e]
    exact hm.1.2
  · intro h
    have hd := Nat.mod_lt (n - st) hp
    refine ⟨st + (n - st) % p, ?_, ?_⟩
    · rw [List.mem_filter, List.mem_filter, List.mem_range]
      refine ⟨⟨by omega, ?_⟩, decide_eq_true (by omega)⟩
      rw [same _ (by omega) ?_]
      · exact h
      · rw [Nat.add_mod_mod]
        congr 1
        omega
    · rw [Nat.add_mod_mod]
      congr 1
      omega
theorem low_of {P : Nat → Bool} {st p : Nat} : ((List.range (st + p)).filter P).filter (fun n => decide (n < st)) = lowOf P st := by
  unfold lowOf
  rw [List.range_add, List.filter_append, List.filter_append, List.filter_filter]
  have e1 : (List.range st).filter (fun a => decide (a < st) && P a) = (List.range st).filter P := List.filter_congr fun a ha => by rw [decide_eq_true (List.mem_range.1 ha), Bool.true_and]
  have e2 : (((List.range p).map (st + ·)).filter P).filter (fun n => decide (n < st)) = [] := List.filter_eq_nil_iff.2 fun a ha => by
    obtain ⟨b, _, rfl⟩ := List.mem_map.1 (List.mem_filter.1 ha).1
    rw [decide_eq_true_eq]
    omega
  rw [e1, e2, List.append_nil]
end Ln

/-! Texts of sets of lengths. Pure. -/
namespace L2
open PySem PySem.Spec
namespace Tx1
open TL Ln SX
abbrev spS : Str := S [32]
abbrev fromS : Str := S [102, 114, 111, 109]
abbrev byS : Str := S [98, 121]
abbrev atS : Str := S [97, 116]
abbrev noneS : Str := S [110, 111, 110, 101]
abbrev nS (n : Nat) : Str := dS ((n : Nat) : Int)
theorem nS_tl (n : Nat) : tl (nS n) = numL n := dS_nat n
theorem nS_dig (n : Nat) : ∀ c ∈ tl (nS n), 48 ≤ c ∧ c ≤ 57 := by
  intro c hc
  by_cases h1 : 48 ≤ c
  · by_cases h2 : c ≤ 57
    · exact ⟨h1, h2⟩
    · exact absurd hc (dS_free (by omega) (by omega) _)
  · by_cases h3 : c = 45
    · subst h3
      rw [nS_tl] at hc
      exact absurd hc (numL_no45 n)
    · exact absurd hc (dS_free h3 (by omega) _)
theorem nS_inj {a b : Nat} (h : nS a = nS b) : a = b := by
  have := dS_inj h
  omega
theorem nS_ne {n : Nat} {x : Str} {c : Nat} (hc : c ∈ tl x) (h : c < 48 ∨ 57 < c) : nS n ≠ x := fun z => by
  have := nS_dig n c (by rw [z]; exact hc)
  omega
theorem nS_from (n : Nat) : nS n ≠ fromS := nS_ne (c := 102) (by decide) (by decide)
theorem nS_none (n : Nat) : nS n ≠ noneS := nS_ne (c := 110) (by decide) (by decide)
def tailW (nr tn : List Bool) : List Str := if idx tn = [] then [] else fromS :: nS nr.length :: byS :: nS tn.length :: atS :: (idx tn).map nS
def wordsT (nr tn : List Bool) : List Str := (idx nr).map nS ++ tailW nr tn
def lnT (nr tn : List Bool) : Str := if wordsT nr tn = [] then noneS else Txt.join spS (wordsT nr tn)
theorem words_free (nr tn : List Bool) : ∀ p ∈ wordsT nr tn, ¬ 32 ∈ tl p := by
  have hn : ∀ n : Nat, ¬ 32 ∈ tl (nS n) := fun n h => by have := nS_dig n 32 h; omega
  intro p hp
  rcases List.mem_append.1 hp with h | h
  · obtain ⟨n, _, rfl⟩ := List.mem_map.1 h
    exact hn n
  · unfold tailW at h
    split at h
    · cases h
    · simp only [List.mem_cons] at h
      rcases h with rfl | rfl | rfl | rfl | rfl | h
      · decide
      · exact hn _
      · decide
      · exact hn _
      · decide
      · obtain ⟨n, _, rfl⟩ := List.mem_map.1 h
        exact hn n
theorem split_words {ws : List Str} (hne : ws ≠ []) (h : ∀ p ∈ ws, ¬ 32 ∈ tl p) : Txt.split (Txt.join spS ws) spS = ws := split_join (s := 32) (S := []) rfl (by decide +kernel) hne h
theorem split_lnT {nr tn : List Bool} (h : wordsT nr tn ≠ []) : Txt.split (lnT nr tn) spS = wordsT nr tn := by
  unfold lnT
  rw [if_neg h]
  exact split_words h (words_free nr tn)
theorem lnT_ne_none {nr tn : List Bool} (h : wordsT nr tn ≠ []) : lnT nr tn ≠ noneS := fun z => by
  have e := split_lnT h
  rw [z, show Txt.split noneS spS = [noneS] by decide +kernel] at e
  unfold wordsT at e
  cases hi : idx nr with
  | cons n r =>
    rw [hi] at e
    simp only [List.map_cons, List.cons_append] at e
    exact nS_none n (List.cons.inj e).1.symm
  | nil =>
    rw [hi] at e
    unfold tailW at e
    split at e
    · cases e
    · exact absurd (List.cons.inj e).1 (by decide)
theorem words_nil {nr tn : List Bool} (F : Form nr tn) (h : wordsT nr tn = []) : nr = [] ∧ tn = [false] := by
  unfold wordsT at h
  obtain ⟨h1, h2⟩ := List.append_eq_nil_iff.1 h
  have h3 : idx tn = [] := by
    unfold tailW at h2
    split at h2
    · assumption
    · cases h2
  have h4 := form_fin F h3
  subst h4
  refine ⟨?_, rfl⟩
  have e := (form_fin_begin F)
  rw [List.map_eq_nil_iff] at h1
  rw [h1] at e
  have e1 : beginOf (maskOf 400 []) [false] 1 = nr.length := e.1
  have e2 : beginOf (maskOf 400 []) [false] 1 = 0 := begin_uni (Nat.zero_le _) (fun i _ hi => by rw [mask_len] at hi; rw [ix_mask hi, Nat.mod_one]; simp [ix]) (fun z => absurd z (by decide))
  exact List.length_eq_zero_iff.1 (by omega)
theorem not_from {xs : List Nat} : ¬ fromS ∈ xs.map nS := fun h => by
  obtain ⟨n, _, e⟩ := List.mem_map.1 h
  exact nS_from n e
theorem map_nS_inj {xs ys : List Nat} (h : xs.map nS = ys.map nS) : xs = ys := List.map_inj_right (f := nS) (fun _ _ => nS_inj) |>.1 h
theorem cut_at {α : Type} {x : α} : ∀ {A A' R R' : List α}, ¬ x ∈ A → ¬ x ∈ A' → A ++ x :: R = A' ++ x :: R' → A = A' ∧ R = R'
  | [], [], _, _, _, _, e => ⟨rfl, (List.cons.inj e).2⟩
  | [], b :: B, _, _, _, h, e => absurd (by rw [(List.cons.inj e).1]; exact .head _) h
  | a :: A, [], _, _, h, _, e => absurd (by rw [← (List.cons.inj e).1]; exact .head _) h
  | a :: A, b :: B, _, _, h, h', e => by
    obtain ⟨e1, e2⟩ := List.cons.inj e
    obtain ⟨r1, r2⟩ := cut_at (fun z => h (.tail _ z)) (fun z => h' (.tail _ z)) e2
    exact ⟨by rw [e1, r1], r2⟩
theorem lnT_inj {nr tn nr' tn' : List Bool} (F : Form nr tn) (G : Form nr' tn') (h : lnT nr tn = lnT nr' tn') : nr = nr' ∧ tn = tn' := by
  by_cases h1 : wordsT nr tn = []
  · by_cases h2 : wordsT nr' tn' = []
    · obtain ⟨a, b⟩ := words_nil F h1
      obtain ⟨c, d⟩ := words_nil G h2
      exact ⟨a.trans c.symm, b.trans d.symm⟩
    · have := lnT_ne_none h2
      rw [← h] at this
      exact absurd (by unfold lnT; rw [if_pos h1]) this
  · by_cases h2 : wordsT nr' tn' = []
    · have := lnT_ne_none h1
      rw [h] at this
      exact absurd (by unfold lnT; rw [if_pos h2]) this
    · have e : wordsT nr tn = wordsT nr' tn' := by rw [← split_lnT h1, ← split_lnT h2, h]
      unfold wordsT tailW at e
      by_cases i1 : idx tn = []
      · rw [if_pos i1, List.append_nil] at e
        by_cases i2 : idx tn' = []
        · rw [if_pos i2, List.append_nil] at e
          have e := map_nS_inj e
          have t1 := form_fin F i1
          have t2 := form_fin G i2
          subst t1
          subst t2
          refine ⟨?_, rfl⟩
          obtain ⟨a1, a2⟩ := form_fin_begin F
          obtain ⟨b1, b2⟩ := form_fin_begin G
          rw [← a2, ← b2, ← a1, ← b1, e]
        · rw [if_neg i2] at e
          exact absurd (by rw [e]; simp) (not_from (xs := idx nr))
      · rw [if_neg i1] at e
        by_cases i2 : idx tn' = []
        · rw [if_pos i2, List.append_nil] at e
          exact absurd (by rw [← e]; simp) (not_from (xs := idx nr'))
        · rw [if_neg i2] at e
          obtain ⟨e1, e2⟩ := cut_at not_from not_from e
          have f1 := nS_inj (List.cons.inj e2).1
          have e3 := (List.cons.inj (List.cons.inj e2).2).2
          have f2 := nS_inj (List.cons.inj e3).1
          have e4 := (List.cons.inj (List.cons.inj e3).2).2
          exact ⟨idx_inj f1 (map_nS_inj e1), idx_inj f2 (map_nS_inj e4)⟩
end Tx1
end L2

/-! <=, <, >=, > and ~ of an own class; math.lcm. -/
namespace L2
open PySem PySem.Spec PyProof.Rows
section
variable {X : Cx} {CX : CXT} {k : Nat} {f C : Addr} {fd : FuncData} {ps : List Str} {sp : Sp} {E : XK}
structure CmpM (K : PySem.W.Frag) (op : CmpOp) (C f : Addr) : Prop where
  hs : PySem.W.findIn K (.ref C) (cmpInfo op).2.1 = some (some (.ref f))
  hf : PySem.W.isFn K (.ref f) = true
def rCmpO (K : PySem.W.Frag) (C : Addr) (sp : Sp) (E : XK) : R2 := fun x y H Q => ∃ a dx fs t, x = .ref a ∧ H a = some (.ins C dx fs) ∧ TyX K H y t ∧ PySem.W.notFirst K C t = true ∧ sp [.ref a, y] H Q E
theorem op_cmpO {op : CmpOp} (hop : ∀ a b, compareOp op a b = richCompare op a b) (M : CmpM X.K op C f) (F : FnOk X.prog X.w X.K X.mg X.base CX k f fd ps sp) (hr : Room (k + 1) X.A) (hb : Binds X.K fd ps []) (hx : Passes CX X E) : OpR X (compareOp op) (rCmpO X.K C sp E) := by
  intro pins s σ H x y v u Q I rx ry h
  obtain ⟨a, dx, fs, t, rfl, ha, ty, nf, hq⟩ := h
  cases rx
  obtain ⟨mA, J, _⟩ := ins_get I.hok ha
  obtain ⟨od, J, _⟩ := J.look
  have hbt := typeOf_of I ry ty
  obtain ⟨m, hF⟩ := I.fr
  rw [hop]
  refine PySem.W.cmp_K (op := op) hr.units0 hF I.ok.mod.kin J hbt nf M.hs M.hf ?_
  exact wpAny_mono (callA (vs := [.ref a, y]) F (hr.mono (Nat.le_succ _)) rfl hb hx I (.cons rfl (.cons ry .nil)) hq) (fun z s' hz => by
    obtain ⟨v', H', I', rv, q⟩ := id hz
    exact relV_ni rv hz) fun _ _ z => z
def rUnO (C : Addr) (sp : Sp) (E : XK) : V → Hp → VK → Prop := fun x H Q => ∃ a dx fs, x = .ref a ∧ H a = some (.ins C dx fs) ∧ sp [.ref a] H Q E
theorem un_invO (hs : PySem.W.findIn X.K (.ref C) "__invert__" = some (some (.ref f))) (hf : PySem.W.isFn X.K (.ref f) = true) (F : FnOk X.prog X.w X.K X.mg X.base CX k f fd ps sp) (hr : Room k X.A) (hb : Binds X.K fd ps []) (hx : Passes CX X E) : UnR X (unaryOp .Invert) (rUnO C sp E) := by
  intro pins s σ H x v Q I rx h
  obtain ⟨a, dx, fs, rfl, ha, hq⟩ := h
  cases rx
  obtain ⟨mA, J, _⟩ := ins_get I.hok ha
  obtain ⟨od, J, _⟩ := J.look
  unfold unaryOp
  refine wpAny_holding ?_
  dsimp only
  simp only [show ((UnaryOp.Invert == UnaryOp.Not)) = false from rfl, Bool.false_eq_true, if_false]
  refine wpAny_bind (PySem.W.special_fn I.kIn J hs (beq_iff_eq.mp hf) ?_)
  refine wpAny_mono (callA (vs := [.ref a]) F hr rfl hb hx I (.cons rfl .nil) hq) (fun z s' hz => ?_) fun _ _ z => z
  exact wpAny_pure hz
/-- math.lcm of two small numbers -/
def rLcm : List V → Hp → VK → Prop := fun vs H Q => ∃ a b : Nat, vs = [.int a, .int b] ∧ a ≤ 1000000 ∧ b ≤ 1000000 ∧ Q (.int (Nat.lcm a b : Nat)) H
theorem lcm_small {a b : Nat} (ha : a ≤ 1000000) (hb : b ≤ 1000000) : Nat.lcm a b ≤ 1000000000000 := by
  unfold Nat.lcm
  exact Nat.le_trans (Nat.div_le_self _ _) (Nat.le_trans (Nat.mul_le_mul ha hb) (by decide))
theorem cr_lcm : CallR X (.builtin "math.lcm") rLcm := by
  intro pins s σ H xs us Q I r h
  obtain ⟨a, b, rfl, ha, hb, q⟩ := h
  rcases r with _ | ⟨r1, r⟩
  rcases r with _ | ⟨r2, r⟩
  rcases r with _ | _
  obtain ⟨t1, rfl⟩ := r1
  obtain ⟨t2, rfl⟩ := r2
  have e : (Nat.lcm 1 ((a : Nat) : Int).natAbs).lcm ((b : Nat) : Int).natAbs = Nat.lcm a b := by
    rw [Int.natAbs_natCast, Int.natAbs_natCast, Nat.lcm_one_left]
  have hs := lcm_small ha hb
  refine PySem.W.mg_lcm (by omega) (by omega) ?_ ?_
  · rw [e, Int.natAbs_natCast]
    by_cases z : Nat.lcm a b = 0
    · rw [z]
      decide
    · exact Nat.lt_trans ((Nat.log2_lt z).mpr (show _ < 2 ^ 40 by omega)) (by decide)
  · rw [e]
    exact ⟨.int (Nat.lcm a b : Nat), H, I.tok _, ⟨_, rfl⟩, q⟩
end
end L2
namespace AW
open PySem PySem.Spec L2
section
variable {c : Cw} {kn : Hp} {n : Nat} {σ : L2.St} {Q : V → Hp → Nat → Prop} {K : PySem.W.Frag} {B : List V → Hp → AK → AXK → Prop} {E : XK} {EA : EAK}
theorem r_cmpO {C a dx : Addr} {fs : List (Str × V)} {y : V} {t : Value} (hm : MonoX B) (hE : ErrOk c EA E) (ha : kn a = some (.ins C dx fs)) (ty : TyX K kn y t) (nf : PySem.W.notFirst K C t = true)
    (h : B [.ref a, y] kn (fun v k => Q v k n) (fun cls d k => EA cls d k n)) : W c (rCmpO K C (liftX B) E (.ref a) y) kn n Q :=
  fun H g Q' q => ⟨a, dx, fs, t, rfl, g.ex _ _ ha, tyx_ext g.ex ty, nf, sp_call hm hE h H g Q' q⟩
theorem w_unO {te : TE} {C : Addr} (hm : MonoX B) (hE : ErrOk c EA E)
    (h : W c (te σ) kn n fun x kn1 n1 => ∃ a dx fs, x = .ref a ∧ kn1 a = some (.ins C dx fs) ∧ B [.ref a] kn1 (fun v k => Q v k n1) (fun cls d k => EA cls d k n1)) : W c (tUn (rUnO C (liftX B) E) te σ) kn n Q :=
  fun H g Q' q => h H g _ fun x kn1 n1 H1 ⟨a, dx, fs, e, ha, hb⟩ g1 => ⟨a, dx, fs, e, g1.ex _ _ ha, sp_call hm hE hb H1 g1 Q' q⟩
theorem r_lcm {a b : Nat} (ha : a ≤ 1000000) (hb : b ≤ 1000000) (q : Q (.int (Nat.lcm a b : Nat)) kn n) : W c (rLcm [.int a, .int b]) kn n Q := fun H g _ k => ⟨a, b, rfl, ha, hb, k _ kn n H q g⟩
end
end AW

/-! Lists or tuples, also those of the written part; join, stars, lists repeated, steps of slices; what is never reached. -/
namespace L2
open PySem PySem.Spec PyProof.Rows ClX
section
variable {X : Cx}
/-- what no run comes to -/

theorem pe_never {e : Expr} : PE X e (fun _ _ _ => False) := ⟨fun _ _ _ _ _ _ h => h.elim⟩
def rRepQ : R2 := fun x y H Q => ∃ l k xs, x = .ref l ∧ y = .int k ∧ H l = some (.lst xs) ∧ -(2 ^ 63) ≤ k ∧ k < 2 ^ 63 ∧ xs.length * k.toNat ≤ sizeLine ∧ ∀ p, H p = none → Q (.ref p) (upd H p (.lst (List.replicate k.toNat xs).flatten))
theorem op_repQ : OpR X (binaryOp .Mult) rRepQ := op_rep
def rTupQ (K : PySem.W.Frag) : List V → Hp → VK → Prop := fun xs H Q => ∃ p ys, xs = [.ref p] ∧ ((SqL K H p ys ∧ ∀ l, H l = none → Q (.ref l) (upd H l (.tup ys))) ∨ (SqT K H p ys ∧ Q (.ref p) H))
theorem c_tupQ : CallR X (.type "tuple") (rTupQ X.K) := call_tuple_of
def rJoinQ (K : PySem.W.Frag) : V → List V → Hp → VK → Prop := fun x xs H Q => ∃ a p, ∃ ys : List Str, x = .str a ∧ xs = [.ref p] ∧ (SqL K H p (ys.map V.str) ∨ SqT K H p (ys.map V.str)) ∧ (ys.map (·.length)).sum + ys.length * a.length ≤ 16777216 ∧ Q (.str (Txt.join a ys)) H
theorem pe_joinQ {o e : Expr} {to te : TE} {apos pos : Pos} (ho : PE X o to) (he : PE X e te) (hs : starEach [e] X.env = [(false, eval e X.env)] := by rfl) (hb : attributeBase o "join" X.env (eval o X.env) = eval o X.env := by rfl) (hp : (apos.endLine == pos.line) = true := by rfl) :
    PE X (.Call (.Attribute o "join" apos) [e] [] pos) (tM1 (rJoinQ X.K) to te) := pe_join ho he hs hb hp
/-- the truth of a list or a tuple -/
def tTru (K : PySem.W.Frag) (ta : TE) : TT := fun σ H Q => ta σ H fun x H' => ∃ k, TruV K x H' k ∧ Q k H'
theorem pt_truthQ {a : Expr} {ta : TE} (ha : PE X a ta) (he : ∀ whole, isTrue a X.env whole = (do let v ← whole; standAt a.pos; holding [v] (truthy v))) : PT X a (tTru X.K ta) := pt_truth ha he
/-- the items at a + k, a + 2 k, .. -/
def pick3 {α : Type} (xs : List α) (lo hi st : Option Int) : List α := (sliceRange (sliceBounds lo hi st xs.length).1 (sliceBounds lo hi st xs.length).2.1 (sliceBounds lo hi st xs.length).2.2).filterMap (xs[·]?)
theorem vals_pick {xs : List V} {us : List Value} (r : Vals xs us) : ∀ is : List Nat, Vals (is.filterMap (xs[·]?)) (is.filterMap (us[·]?))
  | [] => .nil
  | i :: is => by
    rw [List.filterMap_cons, List.filterMap_cons]
    cases h : xs[i]? with
    | none => rw [r.none_of h]; exact vals_pick r is
    | some x =>
      obtain ⟨u, hu, ru⟩ := r.get h
      rw [hu]
      exact .cons ru (vals_pick r is)
theorem vals_pick3 {xs : List V} {us : List Value} (r : Vals xs us) (lo hi st : Option Int) : Vals (pick3 xs lo hi st) (slicePick us.toArray lo hi st).toList := by
  have e : (slicePick us.toArray lo hi st).toList = pick3 us lo hi st := by
    unfold slicePick pick3
    simp
  rw [e]
  unfold pick3
  rw [r.length]
  exact vals_pick r _
def tSl3 (K : PySem.W.Frag) (te : TE) (tl th : TO) (k : Int) : TE := fun σ H Q => te σ H fun x H1 => tl σ H1 fun l H2 => th σ H2 fun u H3 => ∃ a xs, x = .ref a ∧ SqL K H3 a xs ∧ ∀ p, H3 p = none → Q (.ref p) (upd H3 p (.lst (pick3 xs l u (some k))))
theorem pe_sl3 {e : Expr} {te : TE} {lo hi : Option Expr} {tl th : TO} {k : Int} {j : Nat} {p1 p2 pos : Pos} (hk : k ≠ 0) (he : PE X e te) (hl : PO X lo tl) (hu : PO X hi th) (hst : PO X (some (.Constant (.int k) j p1)) (tPart (tC (.int k)))) :
    PE X (.Subscript e (.Slice lo hi (some (.Constant (.int k) j p1)) p2) pos) (tSl3 X.K te tl th k) := by
  refine ⟨fun pins s σ H Q I h => ?_⟩
  refine Subscript_ (thn (he.run pins s σ H _ I h) fun v s1 ⟨x, H1, I1, r1, q1⟩ => ?_)
  refine wpAny_Slice (thn (hl.run pins s1 σ H1 _ I1 q1) fun vl s2 ⟨l, H2, I2, pl, q2⟩ => thn (hu.run pins s2 σ H2 _ I2 q2) fun vu s3 ⟨u, H3, I3, pu, q3⟩ => ?_)
  refine thn (hst.run pins s3 σ H3 (fun o H4 => o = some k ∧ H4 = H3) I3 ⟨k, rfl, rfl, rfl⟩) fun vs s4 ⟨o, H4, I4, ps, eo, e4⟩ => ?_
  subst eo e4
  obtain ⟨a, xs, ex, hx, q⟩ := q3
  subst ex
  cases r1
  have I5 : Inv X pins σ H4 { s4 with heap := s4.heap.push { cls := .type "slice", data := .fields #[vl, vu, vs] } } := I4.kept (t' := s4.toks) fun b ob q => Heap.get?_push_of_some _ q
  obtain ⟨its, r, ht, hz⟩ := I5.list hx
  have hlen := r.length
  show wpAny (model X.prog X.w) X.A (subscriptTail e (.Slice lo hi (some (.Constant (.int k) j p1)) p2) (.ref a) (.ref s4.heap.objs.size)) (EP X pins σ Q) X.xe { s4 with heap := s4.heap.push { cls := .type "slice", data := .fields #[vl, vu, vs] } }
  refine tail_any (ops := [.ref a, .ref s4.heap.objs.size]) ht.isList.typeIs (PySem.slot_list_getitem.lookup) ?_ (by with_unfolding_all rfl)
  have hz2 : its.toArray.size ≤ sizeLine := by rw [List.size_toArray]; omega
  refine wpAny_getItem_list_slice ht.isList (Heap.IsSliceOf.new _ vl vu vs) pl pu ps (fun z => hk (Option.some.inj z)) ?_ hz2
  refine ⟨.ref _, _, I5.laid (t' := s4.toks) (o := .lst (pick3 xs l u (some k))) (fun b ob q => Heap.get?_push_of_some _ q) (Nat.le_refl _) ?_, rfl, q _ (I5.hok.fresh (Nat.le_refl _))⟩
  have v := vals_pick3 r l u (some k)
  refine ⟨?_, (slicePick its.toArray l u (some k)).toList, 0, v, ?_⟩
  · rw [v.length, Array.length_toList]
    exact Nat.le_trans (slicePick_size_le _ _ _ _) hz2
  · rw [Array.toArray_toList]
    exact Heap.get?_push_size _ rfl
end
/-- a tuple of the written part -/
def KTup (K : PySem.W.Frag) (a : Addr) (xs : List V) : Prop := ∃ (o : Obj) (its : Array Value) (n : Nat), K.lookup a = some o ∧ o.cls = .type "tuple" ∧ o.data = .seq its n ∧ its.size ≤ sizeLine ∧ Vals xs its.toList
/-- a list or a tuple with these items -/
def SeqV (K : PySem.W.Frag) (kn : Hp) (v : V) (xs : List V) : Prop := ∃ a, v = .ref a ∧ (kn a = some (.lst xs) ∨ kn a = some (.tup xs) ∨ KTup K a xs)
theorem SeqV.ext {K : PySem.W.Frag} {kn kn' : Hp} {v : V} {xs : List V} (e : Ext kn kn') (h : SeqV K kn v xs) : SeqV K kn' v xs := by
  obtain ⟨a, rfl, h | h | h⟩ := h
  · exact ⟨a, rfl, .inl (e _ _ h)⟩
  · exact ⟨a, rfl, .inr (.inl (e _ _ h))⟩
  · exact ⟨a, rfl, .inr (.inr h)⟩
theorem SeqV.ty {K : PySem.W.Frag} {kn : Hp} {v : V} {xs : List V} (h : SeqV K kn v xs) : TyX K kn v (.type "list") ∨ TyX K kn v (.type "tuple") := by
  obtain ⟨a, rfl, h | h | ⟨o, its, n, e, c, _⟩⟩ := h
  · exact .inl (.base (.lst h))
  · exact .inr (.base (.tup h))
  · exact .inr (.kTuple e c)
end L2
namespace AW
open PySem PySem.Spec PyProof.Rows L2 ClX StX
section
variable {c : Cw} {kn : Hp} {n : Nat} {σ : L2.St} {Q : V → Hp → Nat → Prop} {QA : List V → Hp → Nat → Prop} {K : PySem.W.Frag}
theorem r_repQ {l : Addr} {xs : List V} {k : Int} (h : kn l = some (.lst xs)) (h1 : -(2 ^ 63) ≤ k) (h2 : k < 2 ^ 63) (h3 : xs.length * k.toNat ≤ 100000) (q : ∀ p, kn p = none → Q (.ref p) (upd kn p (.lst (List.replicate k.toNat xs).flatten)) n) : W c (rRepQ (.ref l) (.int k)) kn n Q :=
  fun H g _ f => ⟨l, k, xs, rfl, rfl, g.ex _ _ h, h1, h2, sz h3, fun p hp => f _ _ n _ (q p (g.free hp)) (g.new hp)⟩
theorem r_tupL {p : Addr} {xs : List V} (h : kn p = some (.lst xs)) (q : ∀ l, kn l = none → Q (.ref l) (upd kn l (.tup xs)) n) : W c (rTupQ K [.ref p]) kn n Q :=
  fun H g _ f => ⟨p, xs, rfl, .inl ⟨sql (g.ex _ _ h), fun l hl => f _ _ n _ (q l (g.free hl)) (g.new hl)⟩⟩
theorem r_joinQ {a : Str} {p : Addr} {ys : List Str} (h : kn p = some (.lst (ys.map V.str))) (hs : (ys.map (·.length)).sum + ys.length * a.length ≤ 16777216) (q : Q (.str (Txt.join a ys)) kn n) : W c (rJoinQ K (.str a) [.ref p]) kn n Q :=
  fun H g _ f => ⟨a, p, ys, rfl, rfl, .inl (sql (g.ex _ _ h)), hs, f _ kn n H q g⟩
theorem w_star {te : TE} {t : TA} (h : W c (te σ) kn n fun x kn1 n1 => ∃ p xs, x = .ref p ∧ (kn1 p = some (.lst xs) ∨ kn1 p = some (.tup xs)) ∧ W c (t σ) kn1 n1 fun ys kn2 n2 => QA (xs ++ ys) kn2 n2) : W c (tStar K te t σ) kn n QA :=
  fun H g Q' q => h H g _ fun x kn1 n1 H1 ⟨p, xs, e, hp, h1⟩ g1 => ⟨p, xs, e, hp.symm.imp (fun z => sqt (g1.ex _ _ z)) (fun z => sql (g1.ex _ _ z)), h1 H1 g1 _ fun ys kn2 n2 H2 h2 g2 => q _ _ _ _ h2 g2⟩
theorem w_sl3 {te : TE} {tl th : TO} {k : Int} (h : W c (te σ) kn n fun x kn1 n1 => W c (tl σ) kn1 n1 fun l kn2 n2 => W c (th σ) kn2 n2 fun u kn3 n3 => ∃ a xs, x = .ref a ∧ kn3 a = some (.lst xs) ∧ ∀ p, kn3 p = none → Q (.ref p) (upd kn3 p (.lst (pick3 xs l u (some k)))) n3) : W c (tSl3 K te tl th k σ) kn n Q :=
  fun H g Q' q => h H g _ fun x kn1 n1 H1 h1 g1 => h1 H1 g1 _ fun l kn2 n2 H2 h2 g2 => h2 H2 g2 _ fun u kn3 n3 H3 ⟨a, xs, e, ha, h3⟩ g3 => ⟨a, xs, e, sql (g3.ex _ _ ha), fun p hp => q _ _ _ _ (h3 p (g3.free hp)) (g3.new hp)⟩
theorem i_seq3 {i : Nat} {v : V} {xs : List V} {R : It → Hp → Nat → Prop} {kn0 : Hp} (hv : σ[i]? = some (some v)) (e0 : Ext kn0 kn) (hs : SeqV K kn0 v xs) (h : ∀ J ka, Gives J xs ka → (∀ k, Ext kn0 k → ka k) → R J kn n) : WI c (iSeq K (tVar i) σ) kn n R := by
  intro H g R' q
  obtain ⟨a, rfl, ha | ha | hk⟩ := hs
  · exact .inl (i_list (w_var hv ⟨a, xs, rfl, e0 _ _ ha, h _ _ gives_lst fun k e => e _ _ ha⟩) H g R' q)
  · exact .inr (i_tup (w_var hv ⟨a, xs, rfl, e0 _ _ ha, h _ _ gives_tup fun k e => e _ _ ha⟩) H g R' q)
  · refine .inr ⟨.ref a, hv, ⟨a, rfl, ⟨xs, .inr hk⟩, q _ _ _ _ (h (Itt K a) (fun _ => True) (fun kn H e _ => ?_) (fun _ _ => trivial)) g⟩⟩
    exact ⟨fun i hi => ⟨xs, xs[i], .inr hk, List.getElem?_eq_getElem hi⟩, fun i hi => ⟨xs, .inr hk, hi⟩, fun i x H' y => ⟨y.1, fun _ => y.2 xs (.inr hk)⟩⟩
theorem w_tru {ta : TE} {QB : Bool → Hp → Nat → Prop} (h : W c (ta σ) kn n fun x kn1 n1 => ∃ p xs, x = .ref p ∧ (kn1 p = some (.lst xs) ∨ kn1 p = some (.tup xs)) ∧ QB (!xs.isEmpty) kn1 n1) : W c (tTru K ta σ) kn n QB :=
  fun H g Q' q => h H g _ fun x kn1 n1 H1 ⟨p, xs, e, hp, hq⟩ g1 => ⟨_, by
    subst e
    rcases hp with z | z
    · exact .inl ⟨xs, sql (g1.ex _ _ z), rfl⟩
    · exact .inr (.inl ⟨xs, sqt (g1.ex _ _ z), rfl⟩), q _ _ _ _ hq g1⟩
/-- a comprehension of what changes nothing, items that are known one by one -/
theorem w_lcP {wi : TI} {gt : TG} {tt : TT} {te : TE} {vs : List Nat}
    (h : WI c (wi σ) kn n fun J kn1 n1 => ∃ (xs : List V) (ka : Hp → Prop) (f : V → V) (p : V → Bool), Gives J xs ka ∧ xs.length ≤ 100000 ∧ (∀ k, Ext kn1 k → ka k) ∧
      (∀ x ∈ xs, ∀ k, Ext kn1 k → WG c gt x (wipe σ vs) k n1 fun σ2 k2 n2 => k2 = k ∧ n2 = n1 ∧ wipe σ2 vs = wipe σ vs ∧ W c (tt σ2) k n1 fun b k3 n3 => b = p x ∧ k3 = k ∧ n3 = n1 ∧ (p x = true → W c (te σ2) k n1 fun y k4 n4 => y = f x ∧ k4 = k ∧ n4 = n1)) ∧
      ∀ D, kn1 D = none → Q (.ref D) (upd kn1 D (.lst ((xs.filter p).map f))) n1) : W c (tLc wi gt tt te vs σ) kn n Q := by
  refine w_lc (fun H g R' q => h H g R' fun J kn1 n1 H1 hJ g1 => q J kn1 n1 H1 ?_ g1)
  obtain ⟨xs, ka, f, p, hG, hl, hk, hs, hd⟩ := hJ
  have e1 : ∀ {k : Hp} {D : Addr} {o : HO}, k D = none → Ext k (upd k D o) := fun h x u e => know h e
  refine ⟨xs, ka, fun D i acc k m => m = n1 ∧ kn1 D = none ∧ acc = ((xs.take i).filter p).map f ∧ k = upd kn1 D (.lst acc), hG, hl, fun D hD => ⟨rfl, hD, by simp, rfl⟩, ?_, ?_, ?_⟩
  · rintro D i acc k m ⟨rfl, hD, rfl, rfl⟩
    refine ⟨hk _ (e1 hD), upd_same, ?_⟩
    rw [List.length_map]
    exact Nat.le_trans (List.length_filter_le _ _) (by rw [List.length_take]; exact Nat.min_le_left _ _)
  · rintro D i acc x k m hx ⟨rfl, hD, rfl, rfl⟩
    have ht : xs.take (i + 1) = xs.take i ++ [x] := by rw [List.take_add_one, hx]; rfl
    intro H g N' f'
    refine hs x (List.mem_of_getElem? hx) _ (e1 hD) H g N' fun σ2 k2 n2 H2 hq g2 => f' σ2 k2 n2 H2 ?_ g2
    obtain ⟨rfl, rfl, hw, hq⟩ := hq
    refine ⟨hw, hq.mono fun b k3 n3 hb => ?_⟩
    obtain ⟨rfl, rfl, rfl, he⟩ := hb
    refine ⟨fun hp => (he hp).mono fun y k4 n4 hy => ?_, fun hp => ⟨rfl, hD, ?_, rfl⟩⟩
    · obtain ⟨rfl, rfl, rfl⟩ := hy
      refine ⟨upd_same, rfl, hD, ?_, ?_⟩
      · rw [ht, List.filter_append, List.filter_cons_of_pos hp, List.map_append]; rfl
      · funext z
        by_cases hz : z = D
        · rw [hz, upd_same, upd_same]
        · rw [upd_ne hz, upd_ne hz, upd_ne hz]
    · rw [ht, List.filter_append, List.filter_cons_of_neg (by rw [hp]; exact Bool.false_ne_true)]
      simp
  · rintro D acc k m ⟨rfl, hD, rfl, rfl⟩
    rw [List.take_length]
    exact hd D hD
theorem w_yesT {QB : Bool → Hp → Nat → Prop} (q : QB true kn n) : W c (tYes σ) kn n QB := fun H g Q' k => k _ kn n H q g
/-- what no run comes to -/
theorem s_never {D : AE} (h : False) : WS c tNever D σ kn n := h.elim
theorem w_never {Q : V → Hp → Nat → Prop} (h : False) : W c ((fun _ _ _ => False : TE) σ) kn n Q := h.elim
end
end AW

/-! Ranges beyond 2^62. -/
namespace L2
open PySem PySem.Spec PyProof.Rows
theorem lot_int (tg : Expr) (it : Value) (i : Int) (t : Tok) : letOwnedTupleGo tg it (.int i t) = pure () := by
  cases tg <;> cases it <;> rfl
theorem iter_selfL (it : Addr) : Gives (Builtin.«dict_keyiterator.__iter__» { pos := [Value.ref it] }) (.val (.ref it)) := by
  intro prog w A R s h
  unfold Builtin.«dict_keyiterator.__iter__»
  refine wpAny_bind (wpAny_of_eq (a := ((Value.ref it : Value), ([] : List Value))) (by first | rfl | (simp only [slotArgs]; rfl)) ?_)
  exact wpAny_pure h
theorem pyIter_long {P : Program} {w : World} {A : Around} {E : Value → Shared → Prop} {s : Shared} {it : Addr} {x left step : Int} {Q : Value → Shared → Prop} (h : IsLongIter s.heap it x left step) (q : Q (.ref it) s) : wpAny (model P w) A (pyIter (.ref it)) Q E s := by
  have ty : s.TypeIs (.ref it) "longrange_iterator" := ⟨_, h, rfl⟩
  unfold pyIter
  refine wpAny_bind (wpAny_specialOf ty F.slot_longrange_iterator_iter.lookup ?_)
  dsimp only
  refine wpAny_bind (wpAny_callSpecialIfBoundUnlessNone?_slot ty F.slot_longrange_iterator_iter (call_gives F.slot_longrange_iterator_iter ty F.entry_longrange_iterator_iter (F.args_longrange_iterator_iter_1 _) (iter_selfL it) ?_))
  show wpAny _ _ _ _ _ _
  refine wpAny_bind (wpAny_specialOf ty F.slot_longrange_iterator_next.lookup ?_)
  exact wpAny_pure q
theorem turn_long {P : Program} {w : World} {K : PySem.W.Frag} {tg : Expr} (lo : Int) (n : Nat) (it : Addr) : Turn P w K tg (Itr lo n) [it] it (fun i h => i ≤ n ∧ IsLongIter h it (lo + (i : Int) * 1) ((n : Int) - i) 1) := by
  refine ⟨.head _, fun i h e b hb => ?_, fun i h h' e k => ?_, ?_, ?_, ?_⟩
  · rw [List.mem_singleton.1 hb]
    exact ⟨_, e.2, fun v z => nomatch z⟩
  · exact ⟨e.1, k it (.head _) _ e.2⟩
  · intro X hP hw hK hc i pins s σ H E I fp tn go
    subst hP hw hK
    have W := Walks.longrange (prog := X.prog) (w := X.w) (I.ok.hd hc) it lo 1 n
    refine W.item i s _ E go tn.2 fun v h' tk hv hs keep => ?_
    obtain ⟨t, rfl⟩ := hv
    refine ⟨_, rfl, ?_⟩
    rw [lot_int]
    obtain ⟨f1, f2, f3, f4, f5, f6⟩ := fp it (.head _)
    have go : i < n := go
    refine wpAny_pure ⟨.int (lo + i), H, I.turned (fun b o hb e => keep b o (by simp [hb]) e) f1 f2 f4 f5 f6, ?_, ⟨rfl, rfl⟩, ⟨go, hs⟩, fun b hb => by rw [List.mem_singleton.1 hb]; exact f1⟩
    exact ⟨t, by rw [Int.mul_one]⟩
  · intro X hP hw hK hc i pins s σ H E I fp tn st
    subst hP hw hK
    have W := Walks.longrange (prog := X.prog) (w := X.w) (I.ok.hd hc) it lo 1 n
    have st : n ≤ i := st
    obtain rfl : i = n := Nat.le_antisymm tn.1 st
    obtain ⟨f1, f2, f3, f4, f5, f6⟩ := fp it (.head _)
    exact W.done s _ E tn.2 fun h' tk keep => ⟨rfl, I.turned (fun b o hb e => keep b o (by simp [hb]) e) f1 f2 f4 f5 f6⟩
  · intro A i s Q E tn q
    exact pyIter_long tn.2 q
theorem size_1 (a b : Int) : Builtin.Range.rangeSize a b 1 = (((b - a).toNat : Nat) : Int) := by
  unfold Builtin.Range.rangeSize
  rw [if_pos (by decide)]
  split
  · rw [Int.ediv_one]
    omega
  · omega
/-- a range with any ends -/
def iRgA (tr : St → Hp → (Int → Int → Hp → Prop) → Prop) : TI := fun σ H R => tr σ H fun a b H1 => R (Itr a (b - a).toNat) H1
theorem pi_rangeA {X : Cx} {tg e : Expr} {tr : St → Hp → (Int → Int → Hp → Prop) → Prop} (he : PRg X e tr) : PI X tg e (iRgA tr) := by
  refine ⟨fun pins s σ H R I h => ?_⟩
  refine thn (he pins s σ H _ I h) fun x s1 ⟨r, a, b, t, u, v, H', ex, hr, I1, q⟩ => ?_
  subst ex
  have fp := I1.fpOk (b := s1.heap.objs.size) (Nat.le_refl _) (I1.hok.fresh (Nat.le_refl _))
  cases hs : Builtin.Range.small a b 1 with
  | true =>
    refine wpAny_pyIter_range hr hs ?_
    refine ⟨s1.heap.objs.size, [s1.heap.objs.size], _, Itr a (b - a).toNat, H', rfl, I1.kept (t' := s1.toks) fun c o e => Heap.get?_push_of_some _ e, turn_range s1.heap.objs.size a (b - a).toNat, ?_, fun c hc => by rw [List.mem_singleton.1 hc]; exact fp, q⟩
    show IsRangeIter _ _ _ _ _
    rw [size_1]
    have e1 : a + ((0 : Nat) : Int) * 1 = a := by omega
    have e2 : (((b - a).toNat : Nat) : Int) - ((0 : Nat) : Int) = (((b - a).toNat : Nat) : Int) := by omega
    rw [e1, e2]
    exact Heap.get?_push_size _ rfl
  | false =>
    refine wpAny_pyIter_longrange hr hs ?_
    refine ⟨s1.heap.objs.size, [s1.heap.objs.size], _, Itr a (b - a).toNat, H', rfl, I1.kept (t' := s1.toks) fun c o e => Heap.get?_push_of_some _ e, turn_long a (b - a).toNat s1.heap.objs.size, ⟨Nat.zero_le _, ?_⟩, fun c hc => by rw [List.mem_singleton.1 hc]; exact fp, q⟩
    show IsLongIter _ _ _ _ _
    rw [size_1]
    have e1 : a + ((0 : Nat) : Int) * 1 = a := by omega
    have e2 : (((b - a).toNat : Nat) : Int) - ((0 : Nat) : Int) = (((b - a).toNat : Nat) : Int) := by omega
    rw [e1, e2]
    exact Heap.get?_push_size _ rfl
end L2
namespace AW
open PySem PySem.Spec L2
theorem i_rgA {c : Cw} {kn : Hp} {n : Nat} {σ : L2.St} {ta tb : TE} {R : It → Hp → Nat → Prop} (h : W c (ta σ) kn n fun x kn1 n1 => W c (tb σ) kn1 n1 fun y kn2 n2 => ∃ i j, x = .int i ∧ y = .int j ∧ R (Itr i (j - i).toNat) kn2 n2) : WI c (iRgA (tRg2 ta tb) σ) kn n R :=
  fun H g R' q => h H g _ fun x kn1 n1 H1 h1 g1 => h1 H1 g1 _ fun y kn2 n2 H2 ⟨i, j, ex, ey, hr⟩ g2 => ⟨i, j, ex, ey, q _ _ _ _ hr g2⟩
end AW

/-! Tuples and lists of the same things compared: also of things that are no data. -/
namespace L2
open PySem PySem.Spec PyProof.Rows
theorem eqAt_ref {A : Around} {s : Shared} (a : Addr) : SeqAt.EqAt A s (.ref a) (.ref a) true := by
  intro prog w E Q q
  unfold eqBool
  refine wpAny_holding ?_
  rw [if_pos (by simp)]
  exact wpAny_bind (wpAny_rule (wpAny_pure q))
def plainV : V → Bool
  | .ref _ => true
  | v => flatB v
theorem eqAt_plain {A : Around} {s : Shared} {v : V} {u u' : Value} (r : RelV v u) (r' : RelV v u') (h : plainV v = true) : SeqAt.EqAt A s u u' true := by
  cases v with
  | ref a =>
    cases (show u = Value.ref a from r)
    cases (show u' = Value.ref a from r')
    exact eqAt_ref a
  | _ => exact eqAt_same r r' h
def rEqS (K : PySem.W.Frag) (neg : Bool) : R2 := fun x y H Q => ∃ p q xs, x = .ref p ∧ y = .ref q ∧ ((SqT K H p xs ∧ SqT K H q xs)) ∧ (∀ v ∈ xs, plainV v = true) ∧ Q (.bl (!neg)) H
section
variable {X : Cx}
theorem op_eqS (hu : X.A.units < cLine) : OpR X (compareOp .Eq) (rEqS X.K false) := by
  intro pins s σ H x y v u Q I rx ry h
  obtain ⟨p, q, xs, rfl, rfl, ⟨h1, h2⟩, hf, hq⟩ := h
  cases rx
  cases ry
  obtain ⟨its, v1, T1, z1⟩ := I.tuple h1
  obtain ⟨its2, v2, T2, z2⟩ := I.tuple h2
  obtain ⟨⟨c1, dd1, da1, sl1⟩, g1, rfl, n1, rfl⟩ := T1
  obtain ⟨⟨c2, dd2, da2, sl2⟩, g2, rfl, n2, rfl⟩ := T2
  have l1 := v1.length
  have l2 := v2.length
  show wpAny _ _ (richCompare .Eq (.ref p) (.ref q)) _ _ _
  refine wpAny_richCompare_same_or (T := "tuple") ⟨_, g1, rfl⟩ ⟨_, g2, rfl⟩ F.slot_tuple_eq ?_ (.inr hu)
  refine call_meets F.slot_tuple_eq ⟨_, g1, rfl⟩ F.entry_tuple_eq (F.args_tuple_eq_2 _ _) (SeqAt.tuple_eqAt p q its.toArray its2.toArray n1 n2 dd1 dd2 sl1 sl2 fun _ => true) ⟨g1, g2, fun j k1 k2 => ?_, ?_⟩
  · rw [List.size_toArray] at k1 k2
    have hx : j < xs.length := by omega
    obtain ⟨u1, e1, r1⟩ := v1.get (List.getElem?_eq_getElem hx)
    obtain ⟨u2, e2, r2⟩ := v2.get (List.getElem?_eq_getElem hx)
    rw [List.getElem?_eq_getElem k1] at e1
    rw [List.getElem?_eq_getElem k2] at e2
    cases e1
    cases e2
    exact eqAt_plain r1 r2 (hf _ (List.getElem_mem hx))
  · have e : ((List.range (min its.toArray.size its2.toArray.size)).all (fun _ => true) && its.toArray.size == its2.toArray.size) = true := by
      rw [List.size_toArray, List.size_toArray, ← l1, ← l2]
      simp
    rw [e]
    exact ⟨(fun z => nomatch z), ⟨.bl true, H, I, rfl, hq⟩⟩
end
end L2
namespace AW
open PySem PySem.Spec L2
theorem r_eqS {c : Cw} {kn : Hp} {n : Nat} {Q : V → Hp → Nat → Prop} {K : PySem.W.Frag} {p q : Addr} {xs : List V} (h1 : kn p = some (.tup xs)) (h2 : kn q = some (.tup xs)) (hf : ∀ v ∈ xs, plainV v = true) (k : Q (.bl true) kn n) : W c (rEqS K false (.ref p) (.ref q)) kn n Q :=
  fun H g _ z => ⟨p, q, xs, rfl, rfl, ⟨sqt (g.ex _ _ h1), sqt (g.ex _ _ h2)⟩, hf, z _ kn n H k g⟩
end AW

/-! == and != of two lists whose items' == may run a def of the text. -/
namespace L2
open PySem PySem.Spec PyProof.Rows PySem.SeqAt
/-- the turns that are left, the spot -/
def ElChain (prog : Program) (w : World) (A : Around) (l b : Addr) (neg : Bool) : Nat → Nat → (Result → Shared → Prop) → Shared → Prop
  | 0, i, R, s => ∃ items n items2 n2, s.heap.get? l = some (lstOf items n) ∧ s.heap.get? b = some (lstOf items2 n2) ∧ items.size = i ∧ items2.size = i ∧ R (.ok (.ret (.bool neg.not))) s
  | m + 1, i, R, s => ∃ items n items2 n2 x y, s.heap.get? l = some (lstOf items n) ∧ s.heap.get? b = some (lstOf items2 n2) ∧ items[i]? = some x ∧ items2[i]? = some y ∧
    wpAny (model prog w) A (eqBool x y) (fun k s' => (k = true → ElChain prog w A l b neg m (i + 1) R s') ∧
      (k = false → ∃ items n items2 n2 x y, s'.heap.get? l = some (lstOf items n) ∧ s'.heap.get? b = some (lstOf items2 n2) ∧ items[i]? = some x ∧ items2[i]? = some y ∧ R (.ok (.ret (.bool neg))) s')) (fun e s' => R (.error e) s') s
abbrev elCode (neg : Bool) : Int := if neg then 3 else 2
theorem plain_el : plainId "list.__eq__.loop" = true := PySem.MeetsSeq3.plain_eq_loop
theorem entry_el : entryFor table "list.__eq__.loop" = some Builtin.«list.__eq__.loop» := PySem.MeetsSeq3.entry_eq_loop
theorem el_chain {prog : Program} {w : World} {l b : Addr} {neg : Bool} (m : Nat) :
    ∀ i : Nat, MeetsIn prog w (Builtin.«list.__eq__.loop» ⟨[.ref l, .ref b, rawInt i, rawInt (elCode neg)], []⟩) (fun A R s => ElChain prog w A.in1 l b neg m i R s) := by
  induction m with
  | zero =>
    intro i A R s h
    obtain ⟨hp, g, d, tk, os⟩ := s
    obtain ⟨items, n, items2, n2, hl, hb, hi, hi2, h⟩ := h
    have none_at : items[((i : Nat) : Int).toNat]? = none := by
      rw [Int.toNat_natCast]
      exact Array.getElem?_eq_none (by omega)
    cases neg with
    | false =>
      wp_walk using wpAny_loadPart' hl, wpAny_loadPart' hb
      rw [none_at]
      wp_walk using wpAny_loadPart' hl, wpAny_loadPart' hb
      show R (Except.ok (Flow.ret (Value.bool (items.size == items2.size)))) _
      rw [hi, hi2, beq_self_eq_true]
      exact h
    | true =>
      wp_walk using wpAny_loadPart' hl, wpAny_loadPart' hb
      rw [none_at]
      wp_walk using wpAny_loadPart' hl, wpAny_loadPart' hb
      show R (Except.ok (Flow.ret (Value.bool (items.size != items2.size)))) _
      rw [hi, hi2, bne_self_eq_false]
      exact h
  | succ m ih =>
    intro i A R s h
    obtain ⟨hp, g, d, tk, os⟩ := s
    obtain ⟨items, n, items2, n2, x, y, hl, hb, hi, hi2, h⟩ := h
    have at1 : items[((i : Nat) : Int).toNat]? = some x := by simpa using hi
    have at2 : items2[((i : Nat) : Int).toNat]? = some y := by simpa using hi2
    have cast1 : ((i : Int) + 1) = ((i + 1 : Nat) : Int) := by push_cast; rfl
    cases neg with
    | false =>
      wp_walk using wpAny_loadPart' hl, wpAny_loadPart' hb
      rw [at1, at2]
      dsimp only
      refine wpAny_bind (wpAny_mono h (fun k s' hk => ?_) fun _ _ z => z)
      obtain ⟨ht, hf⟩ := hk
      cases k with
      | true =>
        wp_walk
        rw [cast1]
        refine ⟨plainId_quiet plain_el _, codeAny_builtin entry_el ?_⟩
        rw [Around.under_plainId plain_el _]
        exact ih (i + 1) A R s' (ht rfl)
      | false =>
        obtain ⟨hp, g, d, tk, os⟩ := s'
        obtain ⟨items, n, items2, n2, x, y, hl, hb, hi, hi2, h⟩ := hf rfl
        have at1 : items[((i : Nat) : Int).toNat]? = some x := by simpa using hi
        have at2 : items2[((i : Nat) : Int).toNat]? = some y := by simpa using hi2
        wp_walk using wpAny_loadPart' hl, wpAny_loadPart' hb
        rw [at1, at2]
        wp_walk
        exact h
    | true =>
      wp_walk using wpAny_loadPart' hl, wpAny_loadPart' hb
      rw [at1, at2]
      dsimp only
      refine wpAny_bind (wpAny_mono h (fun k s' hk => ?_) fun _ _ z => z)
      obtain ⟨ht, hf⟩ := hk
      cases k with
      | true =>
        wp_walk
        rw [cast1]
        refine ⟨plainId_quiet plain_el _, codeAny_builtin entry_el ?_⟩
        rw [Around.under_plainId plain_el _]
        exact ih (i + 1) A R s' (ht rfl)
      | false =>
        obtain ⟨hp, g, d, tk, os⟩ := s'
        obtain ⟨items, n, items2, n2, x, y, hl, hb, hi, hi2, h⟩ := hf rfl
        have at1 : items[((i : Nat) : Int).toNat]? = some x := by simpa using hi
        have at2 : items2[((i : Nat) : Int).toNat]? = some y := by simpa using hi2
        wp_walk using wpAny_loadPart' hl, wpAny_loadPart' hb
        rw [at1, at2]
        wp_walk
        exact h
theorem eq_list {prog : Program} {w : World} {l b : Addr} (m : Nat) :
    MeetsIn prog w (Builtin.«list.__eq__» ⟨[.ref l, .ref b], []⟩) (fun A R s => (∃ items n items2 n2, s.heap.get? l = some (lstOf items n) ∧ s.heap.get? b = some (lstOf items2 n2) ∧ items.size = items2.size) ∧ ElChain prog w A.in1 l b false m 0 R s) := by
  intro A R s h
  obtain ⟨hp, g, d, tk, os⟩ := s
  obtain ⟨⟨items, n, items2, n2, hl, hb, hs⟩, h⟩ := h
  have hne : (items.size != items2.size) = false := by rw [hs]; simp
  wp_walk using wpAny_loadPart' hl, wpAny_loadPart' hb
  refine wpAny_of_eq (show isSubtype (Value.type "list") (Value.type "list") = pure true from by first | rfl | kernel_rfl) ?_
  simp only [Bool.not_true, Bool.false_eq_true, if_false, show (CmpOp.Eq == CmpOp.Eq || CmpOp.Eq == CmpOp.NotEq) = true from rfl, if_true]
  wp_walk using wpAny_loadPart' hl, wpAny_loadPart' hb
  simp only [hne, Bool.false_eq_true, if_false]
  wp_walk
  refine ⟨plainId_quiet plain_el _, codeAny_builtin entry_el ?_⟩
  rw [Around.under_plainId plain_el _]
  exact el_chain (neg := false) m 0 A R _ h
theorem ne_list {prog : Program} {w : World} {l b : Addr} (m : Nat) :
    MeetsIn prog w (Builtin.«list.__ne__» ⟨[.ref l, .ref b], []⟩) (fun A R s => (∃ items n items2 n2, s.heap.get? l = some (lstOf items n) ∧ s.heap.get? b = some (lstOf items2 n2) ∧ items.size = items2.size) ∧ ElChain prog w A.in1 l b true m 0 R s) := by
  intro A R s h
  obtain ⟨hp, g, d, tk, os⟩ := s
  obtain ⟨⟨items, n, items2, n2, hl, hb, hs⟩, h⟩ := h
  have hne : (items.size != items2.size) = false := by rw [hs]; simp
  wp_walk using wpAny_loadPart' hl, wpAny_loadPart' hb
  refine wpAny_of_eq (show isSubtype (Value.type "list") (Value.type "list") = pure true from by first | rfl | kernel_rfl) ?_
  simp only [Bool.not_true, Bool.false_eq_true, if_false, show (CmpOp.NotEq == CmpOp.Eq || CmpOp.NotEq == CmpOp.NotEq) = true from rfl, if_true]
  wp_walk using wpAny_loadPart' hl, wpAny_loadPart' hb
  simp only [hne, Bool.false_eq_true, if_false]
  wp_walk
  refine ⟨plainId_quiet plain_el _, codeAny_builtin entry_el ?_⟩
  rw [Around.under_plainId plain_el _]
  exact el_chain (neg := true) m 0 A R _ h
end L2

/-! == and != of two lists of own objects. -/
namespace L2
open PySem PySem.Spec PyProof.Rows PySem.SeqAt
theorem el_eq {prog : Program} {w : World} {A : Around} {E : Value → Shared → Prop} {s : Shared} {l b : Addr} {Q : Value → Shared → Prop} (m : Nat) (hu : A.units < cLine) (h0 : ∃ items n items2 n2, s.heap.get? l = some (lstOf items n) ∧ s.heap.get? b = some (lstOf items2 n2) ∧ items.size = items2.size)
    (h : ElChain prog w A.in1 l b false m 0 (wants (fun v s' => v ≠ .notImplemented ∧ Q v s') E) s) : wpAny (model prog w) A (richCompare .Eq (.ref l) (.ref b)) Q E s := by
  obtain ⟨items, n, items2, n2, hl, hb, hs⟩ := id h0
  exact wpAny_richCompare_same_or (T := "list") ⟨_, hl, rfl⟩ ⟨_, hb, rfl⟩ F.slot_list_eq (call_meetsIn F.slot_list_eq ⟨_, hl, rfl⟩ F.entry_list_eq (F.args_list_eq_2 _ _) (eq_list m) ⟨h0, h⟩) (.inr hu)
theorem el_ne {prog : Program} {w : World} {A : Around} {E : Value → Shared → Prop} {s : Shared} {l b : Addr} {Q : Value → Shared → Prop} (m : Nat) (hu : A.units < cLine) (h0 : ∃ items n items2 n2, s.heap.get? l = some (lstOf items n) ∧ s.heap.get? b = some (lstOf items2 n2) ∧ items.size = items2.size)
    (h : ElChain prog w A.in1 l b true m 0 (wants (fun v s' => v ≠ .notImplemented ∧ Q v s') E) s) : wpAny (model prog w) A (richCompare .NotEq (.ref l) (.ref b)) Q E s := by
  obtain ⟨items, n, items2, n2, hl, hb, hs⟩ := id h0
  exact wpAny_richCompare_same_or (T := "list") ⟨_, hl, rfl⟩ ⟨_, hb, rfl⟩ F.slot_list_ne (call_meetsIn F.slot_list_ne ⟨_, hl, rfl⟩ F.entry_list_ne (F.args_list_ne_2 _ _) (ne_list m) ⟨h0, h⟩) (.inr hu)
/-- the pairs that are left -/
def ElCh (K : PySem.W.Frag) (C l b : Addr) (xs ys : List V) (sp : Sp) (neg : Bool) : List (Addr × Addr) → Hp → VK → Prop
  | [], H, Q => Q (.bl (!neg)) H
  | (p, q) :: r, H, Q => (∃ dx fs, H p = some (.ins C dx fs)) ∧ (∃ t, TyX K H (.ref q) t ∧ PySem.W.notFirst K C t = true) ∧ (p = q → ElCh K C l b xs ys sp neg r H Q) ∧
    (p ≠ q → sp [.ref p, .ref q] H (fun u H1 => ∃ k, u = .bl k ∧ H1 l = some (.lst xs) ∧ H1 b = some (.lst ys) ∧ (k = true → ElCh K C l b xs ys sp neg r H1 Q) ∧ (k = false → Q (.bl neg) H1)) (fun _ _ _ => False))
def rEqLO (K : PySem.W.Frag) (C : Addr) (sp : Sp) (neg : Bool) : R2 := fun x y H Q => ∃ l b ps, x = .ref l ∧ y = .ref b ∧ H l = some (.lst (ps.map fun p : Addr × Addr => .ref p.1)) ∧ H b = some (.lst (ps.map fun p : Addr × Addr => .ref p.2)) ∧
  ElCh K C l b (ps.map fun p : Addr × Addr => .ref p.1) (ps.map fun p : Addr × Addr => .ref p.2) sp neg ps H Q
section
variable {X : Cx} {CX : CXT} {k : Nat} {f C l b : Addr} {fd : FuncData} {ps : List Str} {sp : Sp} {pins : List (Addr × Obj)} {σ : St}
theorem el_walk {Q : VK} {neg : Bool} (hu : X.A.in1.units < cLine) (M : EqM X.K C f) (F : FnOk X.prog X.w X.K X.mg X.base CX k f fd ps sp) (hr : Room k X.A.in1) (hb : Binds X.K fd ps []) (hx : Passes CX X (fun _ _ _ => False)) {prs : List (Addr × Addr)} :
    ∀ (r done : List (Addr × Addr)) (H : Hp) (s : Shared), prs = done ++ r → Inv X pins σ H s → H l = some (.lst (prs.map fun p : Addr × Addr => .ref p.1)) → H b = some (.lst (prs.map fun p : Addr × Addr => .ref p.2)) → ElCh X.K C l b (prs.map fun p : Addr × Addr => .ref p.1) (prs.map fun p : Addr × Addr => .ref p.2) sp neg r H Q →
      ElChain X.prog X.w X.A.in1 l b neg r.length done.length (wants (fun v s' => v ≠ .notImplemented ∧ EP X pins σ Q v s') X.xe) s := by
  intro r
  induction r with
  | nil =>
    intro done H s e I hl hb2 h
    obtain ⟨_, its, n, rv, hlen, e1⟩ := I.lstM hl
    obtain ⟨_, its2, n2, rv2, hlen2, e2⟩ := I.lstM hb2
    rw [List.length_map, e, List.append_nil] at hlen hlen2
    exact ⟨its.toArray, n, its2.toArray, n2, e1, e2, by rw [List.size_toArray, ← hlen], by rw [List.size_toArray, ← hlen2], (fun z => nomatch z), .bl neg.not, H, I, rfl, h⟩
  | cons pq r ih =>
    obtain ⟨p, q⟩ := pq
    intro done H s e I hl hb2 h
    obtain ⟨⟨dx, fs, hp⟩, ⟨t, ty, nf⟩, hsame, hsp⟩ := h
    have nxt : prs = (done ++ [(p, q)]) ++ r := by rw [e]; simp
    have spots : ∀ {s' : Shared} {H' : Hp}, Inv X pins σ H' s' → H' l = some (.lst (prs.map fun p : Addr × Addr => .ref p.1)) → H' b = some (.lst (prs.map fun p : Addr × Addr => .ref p.2)) →
        ∃ items n items2 n2, s'.heap.get? l = some (lstOf items n) ∧ s'.heap.get? b = some (lstOf items2 n2) ∧ items[done.length]? = some (Value.ref p) ∧ items2[done.length]? = some (Value.ref q) := fun {s' H'} I' hl' hb' => by
      obtain ⟨_, its, n, rv, hlen, e1⟩ := I'.lstM hl'
      obtain ⟨_, its2, n2, rv2, hlen2, e2⟩ := I'.lstM hb'
      obtain ⟨u1, g1, r1⟩ := rv.get (show (prs.map fun p : Addr × Addr => V.ref p.1)[done.length]? = some (V.ref p) by rw [e]; simp)
      obtain ⟨u2, g2, r2⟩ := rv2.get (show (prs.map fun p : Addr × Addr => V.ref p.2)[done.length]? = some (V.ref q) by rw [e]; simp)
      cases (show u1 = Value.ref p from r1)
      cases (show u2 = Value.ref q from r2)
      exact ⟨its.toArray, n, its2.toArray, n2, e1, e2, by rw [List.getElem?_toArray]; exact g1, by rw [List.getElem?_toArray]; exact g2⟩
    obtain ⟨items, n, items2, n2, e1, e2, g1, g2⟩ := spots I hl hb2
    refine ⟨items, n, items2, n2, .ref p, .ref q, e1, e2, g1, g2, ?_⟩
    by_cases hpq : p = q
    · subst hpq
      refine eqAt_ref p _ _ _ _ ⟨fun _ => ?_, fun z => nomatch z⟩
      have z := ih (done ++ [(p, p)]) H s nxt I hl hb2 (hsame rfl)
      rw [List.length_append] at z
      exact z
    · unfold eqBool
      refine wpAny_holding ?_
      refine wpAny_ite_split (fun z => absurd (Value.ref.inj (eq_of_beq z)) hpq) (fun _ => ?_)
      obtain ⟨mA, J, _⟩ := ins_get I.hok hp
      obtain ⟨od, J, _⟩ := J.look
      obtain ⟨m0, hF⟩ := I.fr
      have hbt := typeOf_of I (show RelV (V.ref q) (Value.ref q) from rfl) ty
      refine wpAny_bind (PySem.W.cmp_K (op := .Eq) hu hF I.ok.mod.kin J hbt nf M.hs M.hf ?_)
      refine wpAny_mono (callA (A := X.A.in1) (vs := [.ref p, .ref q]) F hr rfl hb hx I (.cons rfl (.cons rfl .nil)) (hsp hpq)) (fun z s' hz => ?_) fun _ _ z => z
      obtain ⟨v', H', I', rv', k, ek, hl', hb', ht, hf⟩ := hz
      subst ek
      cases (show z = Value.bool k from rv')
      show wpAny _ _ (truthOfDropped (.bool k)) _ _ _
      refine (show wpAny _ _ (truthy (.bool k)) _ _ _ from wpAny_truthy_bool ⟨fun hk => ?_, fun hk => ?_⟩)
      · have z := ih (done ++ [(p, q)]) H' s' nxt I' hl' hb' (ht hk)
        rw [List.length_append] at z
        exact z
      · obtain ⟨items, n, items2, n2, e1, e2, g1, g2⟩ := spots I' hl' hb'
        exact ⟨items, n, items2, n2, .ref p, .ref q, e1, e2, g1, g2, (fun z => nomatch z), .bl neg, H', I', rfl, hf hk⟩
theorem op_eqLO (M : EqM X.K C f) (F : FnOk X.prog X.w X.K X.mg X.base CX k f fd ps sp) (hr : Room (k + 1) X.A) (hb : Binds X.K fd ps []) (hx : Passes CX X (fun _ _ _ => False)) : OpR X (compareOp .Eq) (rEqLO X.K C sp false) := by
  intro pins s σ H x y v u Q I rx ry h
  obtain ⟨l, b, prs, rfl, rfl, hl, hb2, h⟩ := h
  cases (show v = Value.ref l from rx)
  cases (show u = Value.ref b from ry)
  obtain ⟨_, its, n, rv, hlen, e1⟩ := I.lstM hl
  obtain ⟨_, its2, n2, rv2, hlen2, e2⟩ := I.lstM hb2
  rw [List.length_map] at hlen hlen2
  exact el_eq prs.length hr.units0 ⟨its.toArray, n, its2.toArray, n2, e1, e2, by rw [List.size_toArray, List.size_toArray, ← hlen, ← hlen2]⟩ (el_walk hr.in1.units0 M F hr.in1 hb hx prs [] H s rfl I hl hb2 h)
theorem op_neLO (M : EqM X.K C f) (F : FnOk X.prog X.w X.K X.mg X.base CX k f fd ps sp) (hr : Room (k + 1) X.A) (hb : Binds X.K fd ps []) (hx : Passes CX X (fun _ _ _ => False)) : OpR X (compareOp .NotEq) (rEqLO X.K C sp true) := by
  intro pins s σ H x y v u Q I rx ry h
  obtain ⟨l, b, prs, rfl, rfl, hl, hb2, h⟩ := h
  cases (show v = Value.ref l from rx)
  cases (show u = Value.ref b from ry)
  obtain ⟨_, its, n, rv, hlen, e1⟩ := I.lstM hl
  obtain ⟨_, its2, n2, rv2, hlen2, e2⟩ := I.lstM hb2
  rw [List.length_map] at hlen hlen2
  exact el_ne prs.length hr.units0 ⟨its.toArray, n, its2.toArray, n2, e1, e2, by rw [List.size_toArray, List.size_toArray, ← hlen, ← hlen2]⟩ (el_walk hr.in1.units0 M F hr.in1 hb hx prs [] H s rfl I hl hb2 h)
end
end L2
namespace AW
open PySem PySem.Spec PyProof.Rows L2
/-- two lists of own objects, whose == changes nothing that is known -/
theorem r_eqLO {K : PySem.W.Frag} {c : Cw} {kn : Hp} {n : Nat} {Q : V → Hp → Nat → Prop} {B : List V → Hp → AK → AXK → Prop} {C l b : Addr} {neg : Bool} {prs : List (Addr × Addr)} (e : Addr × Addr → Bool) (hm : MonoX B) (nf : PySem.W.notFirst K C (.ref C) = true)
    (hl : kn l = some (.lst (prs.map fun p : Addr × Addr => .ref p.1))) (hb : kn b = some (.lst (prs.map fun p : Addr × Addr => .ref p.2))) (own : ∀ pq ∈ prs, (∃ dx fs, kn pq.1 = some (.ins C dx fs)) ∧ TyX K kn (.ref pq.2) (.ref C)) (es : ∀ pq ∈ prs, pq.1 = pq.2 → e pq = true)
    (h : ∀ pq ∈ prs, pq.1 ≠ pq.2 → B [.ref pq.1, .ref pq.2] kn (fun u k => u = .bl (e pq) ∧ k = kn) (fun _ _ _ => False)) (q : Q (.bl (if neg then !(prs.all e) else prs.all e)) kn n) : W c (rEqLO K C (liftX B) neg (.ref l) (.ref b)) kn n Q := by
  intro H g Q' k
  have walk : ∀ (r : List (Addr × Addr)), (∀ v ∈ r, v ∈ prs) → (Q (.bl (if neg then !(r.all e) else r.all e)) kn n) → ∀ H, Good c kn n H → ElCh K C l b (prs.map fun p : Addr × Addr => .ref p.1) (prs.map fun p : Addr × Addr => .ref p.2) (liftX B) neg r H Q' := by
    intro r
    induction r with
    | nil =>
      intro _ q H g
      refine k _ _ _ _ ?_ g
      cases neg
      · exact q
      · exact q
    | cons pq r ih =>
      obtain ⟨p, q'⟩ := pq
      intro hr q H g
      have hin := hr (p, q') List.mem_cons_self
      obtain ⟨⟨dx, fs, hp⟩, ty⟩ := own _ hin
      have ih := ih fun w hw => hr w (List.mem_cons_of_mem _ hw)
      refine ⟨⟨dx, fs, g.ex _ _ hp⟩, ⟨_, tyx_ext g.ex ty, nf⟩, fun same => ?_, fun ne => ⟨kn, g.ex, g.nt, hm _ _ _ _ _ _ (fun u k' hu n' H' g' => ?_) (fun _ _ _ z => z.elim) (h _ hin ne)⟩⟩
      · refine ih ?_ H g
        rw [List.all_cons, es _ hin same, Bool.true_and] at q
        exact q
      · obtain ⟨rfl, rfl⟩ := hu
        have g2 : Good c k' n H' := g.back g'
        refine ⟨_, rfl, g2.ex _ _ hl, g2.ex _ _ hb, fun ht => ih ?_ H' g2, fun hf => k _ _ _ _ ?_ g2⟩
        · rw [List.all_cons, ht, Bool.true_and] at q
          exact q
        · rw [List.all_cons, hf, Bool.false_and] at q
          cases neg
          · exact q
          · exact q
  exact ⟨l, b, prs, rfl, rfl, g.ex _ _ hl, g.ex _ _ hb, walk prs (fun _ z => z) q H g⟩
end AW

/-! bool of a tuple, repr of a number or None, a dict of one entry. -/
namespace L2
open PySem PySem.Spec PyProof.Rows
section
variable {X : Cx}
def rBoolT (K : PySem.W.Frag) : List V → Hp → VK → Prop := fun xs H Q => ∃ (a : Addr) (zs : List V), xs = [.ref a] ∧ SqT K H a zs ∧ Q (.bl (!zs.isEmpty)) H
theorem c_boolT : CallR X (.type "bool") (rBoolT X.K) := by
  intro pins s σ H xs us Q I r h
  obtain ⟨a, zs, rfl, hq, q⟩ := h
  obtain ⟨u, rfl, rx⟩ := vals1 r
  cases (show u = Value.ref a from rx)
  obtain ⟨its, rv, pl, hz⟩ := I.tuple hq
  have hl := line63
  have hlen := rv.length
  refine callType_newIn PySem.F.called_bool PySem.F.newNe_bool (PySem.F.typeCall_bool_1 _) (PySem.F.newCall_bool_1 _) (fun obj => PySem.F.args_object_init_2 obj _) PySem.F.entry_bool_new bool_new_own ?_
  refine truthy_tuple pl (by simp only [List.size_toArray]; omega) ?_
  refine ⟨PySem.typeIs_bool _ _, .bl (!zs.isEmpty), H, I.tok _, ?_, q⟩
  rw [isEmpty_of rv]
  rfl
def rReprS : List V → Hp → VK → Prop := fun xs H Q => (∃ i : Int, xs = [.int i] ∧ i.natAbs.log2 < 1920 ∧ Q (.str (toString i)) H) ∨ (xs = [.non] ∧ Q (.str "None") H)
theorem c_reprS : CallR X (.builtin "repr") rReprS := by
  intro pins s σ H xs us Q I r h
  rcases h with ⟨i, rfl, hz, q⟩ | ⟨rfl, q⟩
  · obtain ⟨u, rfl, t, rfl⟩ := vals1 r
    exact PySem.P.repr_of_int hz ⟨.str _, H, I.tok _, ⟨_, rfl⟩, q⟩
  · obtain ⟨u, rfl, rx⟩ := vals1 r
    cases (show u = Value.none from rx)
    exact PySem.P.repr_of_none ⟨.str "None", H, I.tok _, ⟨_, rfl⟩, q⟩
end
end L2
namespace AW
open PySem PySem.Spec L2
section
variable {K : PySem.W.Frag} {c : Cw} {kn : Hp} {n : Nat} {σ : L2.St} {Q : V → Hp → Nat → Prop}
theorem r_boolT {p : Addr} {xs : List V} (h : kn p = some (.tup xs)) (q : Q (.bl (!xs.isEmpty)) kn n) : W c (rBoolT K [.ref p]) kn n Q := fun H g _ k => ⟨p, xs, rfl, sqt (g.ex _ _ h), k _ kn n H q g⟩
def reprV : V → Str
  | .int i => Str.ofString (toString i)
  | _ => Str.ofString "None"
theorem r_reprS {v : V} (hv : (∃ i : Int, v = .int i ∧ i.natAbs.log2 < 1920) ∨ v = .non) (q : Q (.str (reprV v)) kn n) : W c (rReprS [v]) kn n Q := fun H g _ k => by
  rcases hv with ⟨i, rfl, hi⟩ | rfl
  · exact .inl ⟨i, rfl, hi, k _ kn n H q g⟩
  · exact .inr ⟨rfl, k _ kn n H q g⟩
/-- {k: v} -/
theorem w_dict1 {tk tv : TE} (h : ∀ p, kn p = none → W c (tk σ) (upd kn p (.dK [])) n fun x kn1 n1 => W c (tv σ) kn1 n1 fun y kn2 n2 => ∃ k, x = kV k ∧ kn2 p = some (.dK []) ∧ Q (.ref p) (upd kn2 p (.dK (mergeK [] [(k, y)]))) n2) : W c (tDisp [(tk, tv)] σ) kn n Q :=
  fun H g Q' q => fun p hp => h p (g.free hp) _ (g.new hp) _ fun x kn1 n1 H1 h1 g1 => h1 H1 g1 _ fun y kn2 n2 H2 ⟨k, e, hd, h2⟩ g2 => ⟨g2.ex _ _ hd, [(k, y)], by rw [e]; rfl, (show 1 ≤ 15 by decide), q _ _ _ _ h2 (g2.put hd rfl)⟩
end
end AW

/-! max(list of ints, default=d); set(list of ints) -/
namespace L2
open PySem PySem.Spec PyProof.Rows PySem PySem.W
def rMaxDf (K : PySem.W.Frag) : List V → List V → Hp → VK → Prop := fun vs zs H Q => ∃ (a : Addr) (ns : List Int) (d : V), vs = [V.ref a] ∧ zs = [d] ∧ SqL K H a (ns.map V.int) ∧ (ns = [] → Q d H) ∧ ∀ m, m ∈ ns → (∀ y, y ∈ ns → y ≤ m) → Q (.int m) H
theorem fold_mem : ∀ (ns : List Int) (n : Int), ns.foldl max n ∈ n :: ns ∧ ∀ y ∈ n :: ns, y ≤ ns.foldl max n
  | [], n => ⟨.head _, fun y hy => by rw [List.mem_singleton.1 hy]; exact Int.le_refl _⟩
  | m :: r, n => by
    obtain ⟨h1, h2⟩ := fold_mem r (max n m)
    rw [List.foldl_cons]
    have hm := h2 (max n m) (.head _)
    refine ⟨?_, fun y hy => ?_⟩
    · rcases List.mem_cons.1 h1 with e | h
      · rw [e]
        rcases Int.le_total n m with z | z
        · rw [Int.max_eq_right z]; exact .tail _ (.head _)
        · rw [Int.max_eq_left z]; exact .head _
      · exact .tail _ (.tail _ h)
    · rcases List.mem_cons.1 hy with rfl | hy
      · exact Int.le_trans (Int.le_max_left _ _) hm
      · rcases List.mem_cons.1 hy with rfl | hy
        · exact Int.le_trans (Int.le_max_right _ _) hm
        · exact h2 y (.tail _ hy)
theorem alike_ints (ns : List Int) : AlikeAll (ns.map PyData.int) := by
  refine ⟨fun x hx y hy => ?_, fun x hx => ?_⟩
  · obtain ⟨i, _, rfl⟩ := List.mem_map.1 hx
    obtain ⟨j, _, rfl⟩ := List.mem_map.1 hy
    rfl
  · obtain ⟨i, _, rfl⟩ := List.mem_map.1 hx
    exact nofun
theorem depth_ints : ∀ ns : List Int, PyData.depthAll (ns.map PyData.int) = 0
  | [] => by simp [PyData.depthAll]
  | n :: r => by simp only [List.map_cons, PyData.depthAll, PyData.depth]; rw [depth_ints r]; rfl
theorem dpi : ∀ {K : PySem.W.Frag} {H : Hp} (ns : List Int), DpAll K H (ns.map V.int) (ns.map PyData.int)
  | _, _, [] => .nil
  | _, _, n :: r => .cons (.int n) (dpi r)
theorem cr_maxDf {X : Cx} (hc : X.calm = true) (hu : X.A.units + 64 < cLine) : CallRK X (.builtin "max") [Str.ofString "default"] (rMaxDf X.K) := by
  intro pins s σ H vs zs us ws Q I r rz h
  obtain ⟨a, ns, d, rfl, rfl, hs, h0, h1⟩ := h
  obtain rfl := Vals.ref1 r
  cases rz with
  | cons rd rt =>
    cases rt
    obtain ⟨its, rv, pl, hz⟩ := I.list hs
    obtain ⟨as, hr⟩ := Dp.readsAll I _ _ _ (dpi ns) rv
    refine max_list_default (I.ok.hd hc) pl.isList (by simpa using hr) (alike_ints ns) (by rw [depth_ints]; omega) (fun e h' tk hk => ?_) fun y ys i v h' tk bs e hv hrd hk => ?_
    · have e : ns = [] := by cases ns with | nil => rfl | cons => cases e
      exact ⟨d, H, I.kept hk, rd, h0 e⟩
    · cases ns with
      | nil => cases e
      | cons n r =>
        cases e
        rw [maxD_ints] at hrd
        obtain ⟨m1, m2⟩ := fold_mem r n
        refine ⟨.int (r.foldl max n), H, I.kept hk, ?_, h1 _ m1 m2⟩
        cases hrd
        exact ⟨_, rfl⟩
/-! ### set(list) -/
/-- a set that holds nothing yet -/
abbrev emptyO (w : World) : Obj := { cls := .type "set", dict := none, data := .set #[] 0 (.fresh 0 0 (!w.params.followText "set-order")) }
section
variable {P : Program} {w : World} {A : Around} {E : Value → Shared → Prop}
set_option maxHeartbeats 0 in
theorem init_list {s : Shared} {S l : Addr} {items : Array Value} {ns : List Int} {R : Fin → Shared → Prop} {E' : Value → Shared → Prop} (hh : A.handled = none) (hS : s.heap.get? S = some (emptyO w)) (hl : s.heap.IsList l items) (hi : IntsAre items.toList ns) (hb : ns.length + 1 < scanBound)
    (h : ∀ (h' : Heap) (tk c : Nat), SetR w h' S (fun j => decide (j ∈ ns)) c → c ≤ ns.length → (∀ b o, b ≠ S → s.heap.get? b = some o → h'.get? b = some o) → R (.done (.ret .none)) { s with heap := h', toks := tk }) :
    wpAny (model P w) A (Builtin.«set.__init__» ⟨[.ref S, .ref l], []⟩) R E' s := by
  have hT : s.TypeIs (.ref S) "set" := ⟨_, hS, rfl⟩
  obtain ⟨ol, hol, hcl, nl, hdl⟩ := id hl
  obtain ⟨ocls, odict, odata, oslots⟩ := ol
  simp only at hcl hdl
  subst hcl; subst hdl
  have x1 := F.sub_list_set
  have x2 := F.sub_list_frozenset
  have x3 : (Value.type "list" == Value.type "dict") = false := by decide
  unfold Builtin.«set.__init__» noKeywords Builtin.Frozenset.updateFrom
  generalize hPI : pyIter = PI
  wp_walk
  subst hPI
  refine wpAny_pyIter_list hl ?_
  refine wpAny_bind (wpAny_runValue ?_)
  clear x1 x2 x3
  have hlt := Heap.lt_size hol
  have hSl := Heap.lt_size hS
  have hne : l ≠ s.heap.objs.size := Nat.ne_of_lt hlt
  have hlS : l ≠ S := fun z => by
    rw [z, hS] at hol
    have e : Value.type "set" = Value.type "list" := congrArg Obj.cls (Option.some.inj hol)
    exact absurd (Value.type.inj e) (by decide)
  have hsz : items.size = ns.length := by
    have q := IntsAre.length hi
    rw [Array.length_toList] at q
    exact q
  have hval : ∀ (i : Nat) (v : Value), items[i]? = some v → ∃ k t, ns[i]? = some k ∧ v = .int k t := fun i v hv => by
    have hi2 : i < ns.length := by rw [← hsz]; exact (Array.getElem?_eq_some_iff.mp hv).1
    obtain ⟨t, e⟩ := PyProof.Rows.IntsAre.int_at hi i v (by rw [Array.getElem?_toList]; exact hv)
    exact ⟨ns[i], t, List.getElem?_eq_getElem hi2, by rw [e, List.getD_eq_getElem?_getD, List.getElem?_eq_getElem hi2]; rfl⟩
  have hSf : S ∉ [s.heap.objs.size, l] := by
    simp only [List.mem_cons, List.mem_singleton, List.not_mem_nil, or_false, not_or]
    exact ⟨Nat.ne_of_lt hSl, fun z => hlS z.symm⟩
  refine set_update_ints ((Walks.list (by simp [hh]) _ l hne items).toS) S hSf ns hsz hb hval (items.size - 0) 0 _ (by omega) (Nat.zero_le _) ⟨⟨_, Heap.get?_push_size _ rfl, rfl, rfl⟩, hl.push _⟩ ⟨0, Nat.le_refl 0, setR_new_at (Heap.get?_push_of_some _ hS)⟩ ?hR
  intro s' c hm hc hS'
  obtain ⟨h', g2, d', tk', os'⟩ := s'
  have eg : g2 = s.gens := hm.gens
  have ed : d' = s.drawn := hm.drawn
  have eo : os' = s.os := hm.os
  subst eg; subst ed; subst eo
  show wpAny _ _ _ _ _ _
  refine wpAny_pure ?_
  show wpAny _ _ (ret Value.none) _ _ _
  refine wpAny_pure (h h' tk' c hS' (by rw [← hsz]; exact hc) fun b o hb e => ?_)
  have hb2 : b ≠ s.heap.objs.size := Nat.ne_of_lt (Heap.lt_size e)
  exact hm.heap b o (by simp only [List.mem_cons, List.mem_singleton, List.not_mem_nil, or_false, not_or]; exact ⟨hb, hb2⟩) (Heap.get?_push_of_some _ e)
set_option maxHeartbeats 0 in
/-- set(l) of a list of ints -/
theorem call_set_ints {s : Shared} {l : Addr} {items : Array Value} {ns : List Int} {Q : Value → Shared → Prop} (hh : A.handled = none) (hl : s.heap.IsList l items) (hi : IntsAre items.toList ns) (hb : ns.length + 1 < scanBound)
    (h : ∀ (h' : Heap) (tk c : Nat), SetR w h' s.heap.objs.size (fun j => decide (j ∈ ns)) c → c ≤ ns.length → (∀ b o, s.heap.get? b = some o → h'.get? b = some o) → Q (.ref s.heap.objs.size) { s with heap := h', toks := tk }) :
    wpAny (model P w) A (call (.type "set") [.ref l]) Q E s := by
  obtain ⟨c, tl, hmro⟩ := F.called_set.mro
  have hmade := F.called_set.made
  have hsub := F.called_set.sub
  refine wpAny_call (codeAny_of_tree ?_)
  show wpAny _ _ (callAny (.type "set") _) _ _ _
  refine wpAny_pure ⟨Code.quiet_builtin _ (by decide +kernel), codeAny_builtin F.entry_type_call ?_⟩
  rw [Around.under_plain (weight_type_call_type "set" [.ref l] []) rfl]
  have h1 := F.called_set.notType
  have h2 := F.called_set.canCreate
  have h3 := F.typeCall_set_1 (.ref l)
  repeat (any_goals (first | assumption | wp_step))
  refine codeAny_mono (code_set_led1 (.ref l) (E := E) (Q₁ := fun obj s₁ => obj = .ref s.heap.objs.size ∧ s₁ = { s with heap := s.heap.push (emptyO w) }) ⟨rfl, rfl⟩) fun r s₁ hr => ?_
  rcases r with e | fl
  · exact hr
  rcases fl with _ | _ | _ | obj
  all_goals first | exact hr.elim | skip
  obtain ⟨rfl, rfl⟩ := hr
  have hS : (s.heap.push (emptyO w)).get? s.heap.objs.size = some (emptyO w) := Heap.get?_push_size _ rfl
  have hT : Shared.TypeIs { s with heap := s.heap.push (emptyO w) } (.ref s.heap.objs.size) "set" := ⟨_, hS, rfl⟩
  have i1 := F.called_set.init.lookup
  have i2 := F.called_set.init.bind (.ref s.heap.objs.size)
  repeat (any_goals (first | assumption | wp_step))
  refine codeAny_mono (codeAny_call_builtin (R := wants (fun r s₂ => r = .none ∧ ∃ h' tk n, s₂ = { s with heap := h', toks := tk } ∧ SetR w h' s.heap.objs.size (fun j => decide (j ∈ ns)) n ∧ n ≤ ns.length ∧
      (∀ b o, s.heap.get? b = some o → h'.get? b = some o)) E) F.called_set.init.plain F.entry_set_init (check_set_init_1 hT ?_)) fun r₂ s₂ hr₂ => ?_
  · refine init_list (by simp [hh]) hS (hl.push _) hi hb fun h' tk n hn hc hk => ?_
    exact ⟨rfl, h', tk, n, rfl, hn, hc, fun b o e => hk b o (Nat.ne_of_lt (Heap.lt_size e)) (Heap.get?_push_of_some _ e)⟩
  · rcases r₂ with e | fl
    · exact hr₂
    rcases fl with _ | _ | _ | r
    all_goals first | exact hr₂.elim | skip
    obtain ⟨rfl, h', tk, n, rfl, hn, hc, hk⟩ := hr₂
    repeat (any_goals (first | assumption | wp_step))
    exact h _ _ _ hn hc hk
end
def rSetFromL (K : PySem.W.Frag) (w : World) : List V → Hp → VK → Prop := fun vs H Q => ∃ (l : Addr) (ns : List Int), vs = [.ref l] ∧ SqL K H l (ns.map V.int) ∧ ns.length ≤ 1000 ∧ ∀ a n, H a = none → n ≤ ns.length → Q (.ref a) (upd H a (SetO w a (fun k => decide (k ∈ ns)) n))
theorem cr_setL {X : Cx} (hc : X.calm = true) : CallR X (.type "set") (rSetFromL X.K X.w) := by
  intro pins s σ H vs us Q I r h
  obtain ⟨l, ns, rfl, hs, hl, q⟩ := h
  obtain rfl := Vals.ref1 r
  obtain ⟨its, rv, pl, hz⟩ := I.list hs
  refine call_set_ints (I.ok.hd hc) pl.isList (by simpa using ints_of_vals rv) (by unfold scanBound; omega) fun h' tk n R hn hk => ?_
  exact ⟨.ref _, upd H s.heap.objs.size (SetO X.w s.heap.objs.size (fun k => decide (k ∈ ns)) n), I.laid (t' := tk) hk (Nat.le_refl _) (setO_new R), rfl, q _ n (I.hok.fresh (Nat.le_refl _)) hn⟩
end L2
namespace AW
open PySem PySem.Spec PyProof.Rows L2 LamX
section
variable {c : Cw} {kn : Hp} {n : Nat} {σ : L2.St} {Q : V → Hp → Nat → Prop} {K : PySem.W.Frag} {w : World}
theorem r_setL {l : Addr} {ns : List Int} (h : kn l = some (.lst (ns.map V.int))) (hl : ns.length ≤ 1000) (q : ∀ a m, kn a = none → m ≤ ns.length → Q (.ref a) (upd kn a (SetO w a (fun k => decide (k ∈ ns)) m)) n) : W c (rSetFromL K w [.ref l]) kn n Q :=
  fun H g Q' k => ⟨l, ns, rfl, sql (g.ex _ _ h), hl, fun a m ha hm => k _ _ _ _ (q a m (g.free ha) hm) (g.new ha)⟩
theorem r_sortSet {a : Addr} {S : Int → Bool} {m : Nat} (h : kn a = some (SetO w a S m)) (hm : m < 64) (q : ∀ (ns : List Int) (p : Addr), ns.Pairwise (· < ·) → (∀ k : Int, k ∈ ns ↔ S k = true) → kn p = none → Q (.ref p) (upd kn p (.lst (ns.map V.int))) n) : W c (rSortedSet w [.ref a]) kn n Q :=
  fun H g Q' k => ⟨a, S, m, rfl, g.ex _ _ h, hm, fun ns p h1 h2 _ hp => k _ _ _ _ (q ns p h1 h2 (g.free hp)) (g.new hp)⟩
theorem w_ckw {r : List V → List V → Hp → VK → Prop} {t tk : TA} (h : W c (t σ) kn n fun vs kn1 n1 => W c (tk σ) kn1 n1 fun zs kn2 n2 => W c (r vs zs) kn2 n2 Q) : W c (tCKw r t tk σ) kn n Q :=
  fun H g Q' q => h H g _ fun vs kn1 n1 H1 h1 g1 => h1 H1 g1 _ fun zs kn2 n2 H2 h2 g2 => h2 H2 g2 Q' q
theorem r_maxDf {a : Addr} {ns : List Int} {d : V} (h : kn a = some (.lst (ns.map V.int))) (q0 : ns = [] → Q d kn n) (q : ∀ m, m ∈ ns → (∀ y, y ∈ ns → y ≤ m) → Q (.int m) kn n) : W c (rMaxDf K [.ref a] [d]) kn n Q :=
  fun H g Q' k => ⟨a, ns, d, rfl, rfl, sql (g.ex _ _ h), fun e => k _ _ _ _ (q0 e) g, fun m h1 h2 => k _ _ _ _ (q m h1 h2) g⟩
end
end AW

/-! Pieces that several laws' own defs have. -/
namespace AW
open PySem PySem.Spec L2 LamX
section
variable {c : Cw} {kn : Hp} {n : Nat} {σ : L2.St} {Q : V → Hp → Nat → Prop} {K : PySem.W.Frag}
/-- a value that changes nothing -/
theorem w_pure {t : TE} (v0 : V) (h : W c (t σ) kn n fun v k m => v = v0 ∧ k = kn ∧ m = n) (q : Q v0 kn n) : W c (t σ) kn n Q :=
  h.mono fun v k m ⟨e1, e2, e3⟩ => by subst e1 e2 e3; exact q
theorem w_revL {te : TE} (h : W c (te σ) kn n fun x kn1 n1 => ∃ a xs, x = .ref a ∧ kn1 a = some (.lst xs) ∧ ∀ p, kn1 p = none → Q (.ref p) (upd kn1 p (.lst xs.reverse)) n1) : W c (tRevL K te σ) kn n Q :=
  fun H g Q' q => h H g _ fun x kn1 n1 H1 ⟨a, xs, e, hx, hq⟩ g1 => ⟨a, xs, e, sql (g1.ex _ _ hx), fun p hp => q _ _ _ _ (hq p (g1.free hp)) (g1.new hp)⟩
end
/-- [n for n in range(s) if draw(pen, 2) == 0] -/
theorem w_lcOver {p a : Addr} {ns : List Int} {TT : List (Addr × Str)} {kn : Hp} {n : Nat} {σ : L2.St} {Q : V → Hp → Nat → Prop} {s jp js m : Nat} (h4 : σ[js]? = some (some (.int (s : Int)))) (h1 : ∀ v : V, ((wipe σ [m]).set m (some v))[jp]? = some (some (.ref p))) (h6 : ∀ v : V, ((wipe σ [m]).set m (some v))[m]? = some (some v)) (hw : ∀ v : V, wipe ((wipe σ [m]).set m (some v)) [m] = wipe σ [m])
    (hs : s ≤ 100) (hn : n + s + 1 < 1000000)
    (h : ∀ (D : Addr) (ys : List Nat) (n' : Nat), kn D = none → (∀ y ∈ ys, y < s) → ys.length ≤ s → n' ≤ n + s → Q (.ref D) (upd kn D (.lst (ys.map fun (i : Nat) => V.int i))) n') :
    W (penC p a ns TT) (tLc (iRng1 (tCons (tVar js) tNil)) (gName m) (tTest (tOp rEq (tCall spDraw [] E0 (tCons (tVar jp) (tCons (tC (.int 2)) tNil))) (tC (.int 0)))) (tVar m) [m] σ) kn n Q := by
  refine w_lc (i_rng1 (w_cons (w_var h4 (w_nil ⟨_, rfl, by omega, by omega, ?_⟩))))
  rw [Int.toNat_natCast]
  refine ⟨_, (fun _ => True), fun D i acc k m => k = upd kn D (.lst acc) ∧ kn D = none ∧ m ≤ n + i ∧ i ≤ s ∧ ∃ ys : List Nat, acc = (ys.map fun (i : Nat) => V.int i) ∧ ys.length ≤ i ∧ ∀ y ∈ ys, y < s, gives_rng, by rw [List.length_map, List.length_range]; omega, fun D hD => ⟨rfl, hD, by omega, by omega, [], rfl, Nat.le_refl 0, fun y hy => (by cases hy)⟩, ?_, ?_, ?_⟩
  · rintro D i acc k m ⟨rfl, hD, _, _, ys, rfl, hl, _⟩
    exact ⟨trivial, upd_same, by rw [List.length_map]; exact hl⟩
  · rintro D i acc x k m hx ⟨rfl, hD, hm, _, ys, rfl, hl, hy⟩
    have hi : i < s := by
      have := (List.getElem?_eq_some_iff.1 hx).1
      rw [List.length_map, List.length_range] at this
      exact this
    obtain rfl : x = V.int (i : Int) := by
      rw [List.getElem?_map, List.getElem?_range hi] at hx
      rw [← Option.some.inj hx]
      exact congrArg V.int (show (0 : Int) + ((i : Nat) : Int) = ((i : Nat) : Int) by omega)
    refine g_name ⟨hw _, w_test (w_op (w_draw (w_cons (w_var (h1 _) (w_cons (w_c (w_nil ⟨2, rfl, by omega, by decide, by decide, fun k2 k20 k21 => w_c (r_eq rfl ⟨_, rfl, fun _ => ?_, fun _ => ?_⟩)⟩)))))))⟩
    · refine w_var (h6 _) ⟨upd_same, ?_, hD, by omega, by omega, ys ++ [i], by rw [List.map_append]; rfl, by rw [List.length_append]; show _ + 1 ≤ _; omega, fun y hy2 => ?_⟩
      · funext b
        by_cases hb : b = D
        · rw [hb, upd_same, upd_same]
        · rw [upd_ne hb, upd_ne hb, upd_ne hb]
      · rcases List.mem_append.1 hy2 with z | z
        · exact hy y z
        · rw [List.mem_singleton.1 z]
          exact hi
    · exact ⟨rfl, hD, by omega, by omega, ys, rfl, by omega, hy⟩
  · rintro D acc k m ⟨rfl, hD, hm, hs2, ys, rfl, hl, hy⟩
    rw [List.length_map, List.length_range] at hm hl
    exact h D ys m hD hy (by omega) (by omega)
section
variable {c : Cw} {kn : Hp} {n : Nat} {σ : L2.St} {Q : V → Hp → Nat → Prop}
/-- a comprehension without a test that changes nothing, its items one by one -/
theorem w_lcV {wi : TI} {gt : TG} {te : TE} {vs : List Nat}
    (h : WI c (wi σ) kn n fun J kn1 n1 => ∃ (xs : List V) (ka : Hp → Prop) (ys : List V), Gives J xs ka ∧ xs.length ≤ 100000 ∧ ys.length = xs.length ∧ (∀ k, Ext kn1 k → ka k) ∧
      (∀ (i : Nat) (x y : V), xs[i]? = some x → ys[i]? = some y → ∀ k, Ext kn1 k → WG c gt x (wipe σ vs) k n1 fun σ2 k2 n2 => k2 = k ∧ n2 = n1 ∧ wipe σ2 vs = wipe σ vs ∧ W c (te σ2) k n1 fun v k4 n4 => v = y ∧ k4 = k ∧ n4 = n1) ∧
      ∀ D, kn1 D = none → Q (.ref D) (upd kn1 D (.lst ys)) n1) : W c (tLc wi gt tYes te vs σ) kn n Q := by
  refine w_lc (fun H g R' q => h H g R' fun J kn1 n1 H1 hJ g1 => q J kn1 n1 H1 ?_ g1)
  obtain ⟨xs, ka, ys, hG, hl, hy, hk, hs, hd⟩ := hJ
  have e1 : ∀ {k : Hp} {D : Addr} {o : HO}, k D = none → Ext k (upd k D o) := fun h x u e => know h e
  refine ⟨xs, ka, fun D i acc k m => m = n1 ∧ kn1 D = none ∧ acc = ys.take i ∧ k = upd kn1 D (.lst acc), hG, hl, fun D hD => ⟨rfl, hD, by simp, rfl⟩, ?_, ?_, ?_⟩
  · rintro D i acc k m ⟨rfl, hD, rfl, rfl⟩
    exact ⟨hk _ (e1 hD), upd_same, by rw [List.length_take]; exact Nat.min_le_left _ _⟩
  · rintro D i acc x k m hx ⟨rfl, hD, rfl, rfl⟩
    have hi : i < ys.length := by rw [hy]; exact (List.getElem?_eq_some_iff.1 hx).1
    intro H g N' f'
    refine hs i x _ hx (List.getElem?_eq_getElem hi) _ (e1 hD) H g N' fun σ2 k2 n2 H2 hq g2 => f' σ2 k2 n2 H2 ?_ g2
    obtain ⟨rfl, rfl, hw, hq⟩ := hq
    refine ⟨hw, w_yesT ⟨fun _ => hq.mono fun y k4 n4 hy2 => ?_, fun z => nomatch z⟩⟩
    obtain ⟨rfl, rfl, rfl⟩ := hy2
    refine ⟨upd_same, rfl, hD, ?_, ?_⟩
    · rw [List.take_add_one, List.getElem?_eq_getElem hi]; rfl
    · funext z
      by_cases hz : z = D
      · rw [hz, upd_same, upd_same]
      · rw [upd_ne hz, upd_ne hz, upd_ne hz]
  · rintro D acc k m ⟨rfl, hD, rfl, rfl⟩
    rw [← hy, List.take_length]
    exact hd D hD
/-- a comprehension without a test whose items are made anew -/
theorem w_lcN {wi : TI} {gt : TG} {te : TE} {vs : List Nat} (R : Nat → V → Hp → Prop) (hE : ∀ i v k k', Ext k k' → R i v k → R i v k') (hP : ∀ i v k D zs o, k D = some (.lst zs) → R i v k → R i v (upd k D o))
    (h : WI c (wi σ) kn n fun J kn1 n1 => ∃ (xs : List V) (ka : Hp → Prop), Gives J xs ka ∧ xs.length ≤ 100000 ∧ (∀ k, Ext kn1 k → ka k) ∧
      (∀ (i : Nat) (x : V), xs[i]? = some x → ∀ k, Ext kn1 k → WG c gt x (wipe σ vs) k n1 fun σ2 k2 n2 => k2 = k ∧ n2 = n1 ∧ wipe σ2 vs = wipe σ vs ∧ W c (te σ2) k n1 fun v k4 n4 => n4 = n1 ∧ Ext k k4 ∧ R i v k4) ∧
      ∀ D k (ys : List V), Ext kn1 k → kn1 D = none → k D = some (.lst ys) → ys.length = xs.length → (∀ (i : Nat) (y : V), ys[i]? = some y → R i y k) → Q (.ref D) k n1) : W c (tLc wi gt tYes te vs σ) kn n Q := by
  refine w_lc (fun H g R' q => h H g R' fun J kn1 n1 H1 hJ g1 => q J kn1 n1 H1 ?_ g1)
  obtain ⟨xs, ka, hG, hl, hk, hs, hd⟩ := hJ
  have e1 : ∀ {k : Hp} {D : Addr} {o : HO}, k D = none → Ext k (upd k D o) := fun h x u e => know h e
  refine ⟨xs, ka, fun D i acc k m => m = n1 ∧ kn1 D = none ∧ Ext kn1 k ∧ k D = some (.lst acc) ∧ acc.length = i ∧ ∀ (j : Nat) (y : V), acc[j]? = some y → R j y k, hG, hl, fun D hD => ⟨rfl, hD, e1 hD, upd_same, rfl, fun j y hj => (by cases hj)⟩, ?_, ?_, ?_⟩
  · rintro D i acc k m ⟨rfl, hD, ek, kD, hl, hr⟩
    exact ⟨hk _ ek, kD, Nat.le_of_eq hl⟩
  · rintro D i acc x k m hx ⟨rfl, hD, ek, kD, hl, hr⟩
    intro H g N' f'
    refine hs i x hx _ ek H g N' fun σ2 k2 n2 H2 hq g2 => f' σ2 k2 n2 H2 ?_ g2
    obtain ⟨rfl, rfl, hw, hq⟩ := hq
    refine ⟨hw, w_yesT ⟨fun _ => hq.mono fun y k4 n4 hy2 => ?_, fun z => nomatch z⟩⟩
    obtain ⟨rfl, e4, hy⟩ := hy2
    have kD4 := e4 _ _ kD
    refine ⟨kD4, rfl, hD, fun z o hz => ?_, upd_same, by rw [List.length_append, hl]; rfl, fun j y' hj => ?_⟩
    · rw [upd_ne (fun e => by rw [e, hD] at hz; cases hz)]
      exact e4 _ _ (ek _ _ hz)
    · refine hP _ _ _ _ _ _ kD4 ?_
      rcases Nat.lt_or_ge j acc.length with z | z
      · rw [List.getElem?_append_left z] at hj
        exact hE _ _ _ _ e4 (hr j y' hj)
      · rw [List.getElem?_append_right z] at hj
        have : j - acc.length = 0 := by
          rcases Nat.eq_zero_or_pos (j - acc.length) with e | e
          · exact e
          · rw [List.getElem?_eq_none (by show 1 ≤ _; omega)] at hj; cases hj
        rw [this] at hj
        cases hj
        have : j = i := by omega
        rw [this]
        exact hy
  · rintro D acc k m ⟨rfl, hD, ek, kD, hl, hr⟩
    exact hd D k acc ek hD kD hl hr
end
end AW

/-! while; any(tuple); list.clear; sorted(list of ints); try .. except C as e (all errors taken) of a statement, its suite returns -/
namespace L2
open PySem PySem.Spec PyProof.Rows
def rAnyT (K : PySem.W.Frag) : List V → Hp → VK → Prop := fun vs H Q => ∃ (a : Addr) (bs : List Bool), vs = [V.ref a] ∧ SqT K H a (bs.map V.bl) ∧ Q (.bl (bs.any id)) H
theorem dpb : ∀ {K : PySem.W.Frag} {H : Hp} (bs : List Bool), DpAll K H (bs.map V.bl) (bs.map PyData.bool)
  | _, _, [] => .nil
  | _, _, b :: r => .cons (.bl b) (dpb r)
theorem plain_bls : ∀ bs : List Bool, PyData.plainAll (bs.map PyData.bool) = true
  | [] => by simp [PyData.plainAll]
  | b :: r => by simp only [List.map_cons, PyData.plainAll, PyData.plain, Bool.true_and]; exact plain_bls r
theorem any_bls (bs : List Bool) : (bs.map PyData.bool).any PyData.truthy = bs.any id := by
  rw [List.any_map]
  congr 1
theorem cr_anyT {X : Cx} (hc : X.calm = true) : CallR X (.builtin "any") (rAnyT X.K) := by
  intro pins s σ H vs us Q I r h
  obtain ⟨a, bs, rfl, hs, q⟩ := h
  obtain rfl := Vals.ref1 r
  obtain ⟨its, rv, pl, hz⟩ := I.tuple hs
  obtain ⟨as, hr⟩ := Dp.readsAll I _ _ _ (dpb bs) rv
  refine PySem.W.any_tuple_data (I.ok.hd hc) pl (by simpa using hr) (plain_bls bs) (fun x hx => ?_) fun h' tk hk => ?_
  · obtain ⟨b, _, rfl⟩ := List.mem_map.1 hx
    trivial
  · rw [any_bls]
    exact ⟨.bl _, H, I.kept hk, rfl, q⟩
end L2
namespace AW
open PySem PySem.Spec PyProof.Rows L2 LamX
section
variable {c : Cw} {kn : Hp} {n : Nat} {σ : L2.St} {Q : V → Hp → Nat → Prop} {K : PySem.W.Frag} {D : AE}
theorem r_anyT {a : Addr} {bs : List Bool} (h : kn a = some (.tup (bs.map V.bl))) (q : Q (.bl (bs.any id)) kn n) : W c (rAnyT K [.ref a]) kn n Q := fun H g _ k => ⟨a, bs, rfl, sqt (g.ex _ _ h), k _ kn n H q g⟩
theorem r_sortI {a : Addr} {ns : List Int} (h : kn a = some (.lst (ns.map V.int))) (q : ∀ (ns' : List Int) (p : Addr), ns'.Perm ns → ns'.Pairwise (· ≤ ·) → kn p = none → Q (.ref p) (upd kn p (.lst (ns'.map V.int))) n) : W c (rSortedI K [.ref a]) kn n Q :=
  fun H g Q' k => ⟨a, ns, rfl, sql (g.ex _ _ h), fun ns' p h1 h2 hp => k _ _ _ _ (q ns' p h1 h2 (g.free hp)) (g.new hp)⟩
theorem w_clear {i : Nat} {l : Addr} {xs : List V} (hv : σ[i]? = some (some (.ref l))) (h0 : kn l = some (.lst xs)) (q : Q .non (upd kn l (.lst [])) n) : W c (tBM0 K "list" rClear (tVar i) σ) kn n Q :=
  fun H g Q' k => ⟨.ref l, hv, .inl ⟨rfl, _, sql (g.ex _ _ h0)⟩, l, xs, rfl, rfl, g.ex _ _ h0, k _ _ _ _ q (g.put h0 rfl)⟩
/-- while: Pv what holds at each turn, its measure -/
theorem s_while {t : TT} {tb : TS} (Pv : Nat → L2.St → Hp → Nat → Prop) (m0 : Nat) (h0 : Pv m0 σ kn n)
    (h : ∀ m σ1 kn1 n1, Pv m σ1 kn1 n1 → W c (t σ1) kn1 n1 fun b kn2 n2 => if b = true then WS c tb { D with nx := fun σ3 kn3 n3 => ∃ m', m' < m ∧ Pv m' σ3 kn3 n3, ct := fun σ3 kn3 n3 => ∃ m', m' < m ∧ Pv m' σ3 kn3 n3, bk := D.nx } σ1 kn2 n2 else D.nx σ1 kn2 n2) :
    WS c (tWhile t tb) D σ kn n := fun H g D' f => by
  refine ⟨fun m σ1 H1 => ∃ kn1 n1, Pv m σ1 kn1 n1 ∧ Good c kn1 n1 H1, ⟨m0, kn, n, h0, g⟩, ?_⟩
  rintro m σ1 H1 ⟨kn1, n1, hp, g1⟩
  refine h m σ1 kn1 n1 hp H1 g1 _ fun b kn2 n2 H2 hb g2 => ?_
  cases b with
  | false => exact f.nx _ _ _ _ hb g2
  | true =>
    rw [if_pos rfl] at hb ⊢
    refine ⟨fun σ3 H3 => ∃ kn3 n3, (∃ m', m' < m ∧ Pv m' σ3 kn3 n3) ∧ Good c kn3 n3 H3, ?_, ?_⟩
    · rintro σ' H' ⟨kn3, n3, ⟨m', l, hp'⟩, g3⟩
      exact ⟨m', l, kn3, n3, hp', g3⟩
    · exact hb H2 g2 _ ⟨fun σ3 k3 n3 H3 z g3 => ⟨k3, n3, z, g3⟩, fun v k3 n3 H3 z g3 => f.rt _ _ _ _ z g3, fun σ3 k3 n3 H3 z g3 => f.nx _ _ _ _ z g3, fun σ3 k3 n3 H3 z g3 => ⟨k3, n3, z, g3⟩⟩
/-- an object laid where nothing stood, behind what changed nothing -/
theorem Good.lay {kn1 kn' H2 H' : Hp} {n1 m : Nat} {a : Addr} {o : HO} (g2 : AW.Good c kn1 n1 H2) (ha : H2 a = none) (e : Ext kn1 kn') (g' : AW.Good (pureC kn1 H2) kn' m H') : AW.Good c kn1 n1 (upd H' a o) := by
  refine ⟨fun x u hx => ?_, c.step n1 kn1 H2 (upd H' a o) g2.inv g2.res fun x u hx hk => ?_, g2.res, g2.nt⟩
  · rw [upd_ne (fun z => by have := g2.ex _ _ hx; rw [z, ha] at this; cases this)]
    exact g'.ex _ _ (e _ _ hx)
  · rw [upd_ne (fun z => by rw [z, ha] at hx; cases hx)]
    exact g'.inv x u hx hk
/-- try: a statement that may raise; the clause takes all its errors and its suite returns -/
theorem s_keep {cV : Value} {i m : Nat} {ts : Addr → Value → Option Addr → TS} {te : XK → TE} (EA : EAK)
    (h : ∀ E, ErrOk c EA E → W c (te E σ) kn n fun _ kn1 n1 => D.nx σ kn1 n1)
    (hx : ∀ cls d kn' n', EA cls d kn' n' → PySem.W.exmOne K cls cV = some true ∧ ∀ (σ' : L2.St) (a : Addr) (H' : Hp), σ'.length = m → kn' a = none →
      WS (pureC kn' H') (ts a cls d) { nx := fun _ _ _ => False, rt := fun v k _ => Ext kn' k ∧ D.rt v kn' n' } (σ'.set i (some (.ref a))) kn' 0) :
    WS c (fun De σ H => tDrop (te (fun cls d H' => ∀ σ' : L2.St, List.length σ' = m → wKeep K cV i ts De cls d σ' H')) De σ H) D σ kn n := fun H g D' f => by
  refine h _ (fun cls d kn' n' H' he g' => ?_) H g _ fun v kn1 n1 H1 h1 g1 => f.nx σ kn1 n1 H1 h1 g1
  intro σ' hl
  obtain ⟨h1, h2⟩ := hx cls d kn' n' he
  refine ⟨h1, fun a ha => ?_⟩
  refine h2 σ' a H' hl (g'.free ha) H' (pure_start g'.ex g'.nt) _ ⟨fun _ _ _ _ z _ => z.elim, fun v k m' H'' hr g'' => ?_, fun _ _ _ _ z _ => z.elim, fun _ _ _ _ z _ => z.elim⟩
  exact f.rt v kn' n' _ hr.2 (Good.lay g' ha hr.1 g'')
end
end AW

/-! sets of ints: a & b, len(a). -/
namespace L2
open PySem PySem.Spec PyProof.Rows
section
variable {P : Program} {w : World} {A : Around} {E : Value → Shared → Prop} {s : Shared} {a : Addr} {es : Array (Int × Value)} {ep : Nat} {t : SetTable} {o : Obj}
theorem setWalk_at {Q : Array (Int × Value) → Shared → Prop} (ho : s.heap.get? a = some o) (hd : o.data = .set es ep t) (hf : t.fits es.size = true) (hl : w.params.followText "set-order" = true ∨ t.led = true)
    (h : ∀ es' d, es'.toList.Perm es.toList → Q es' { s with drawn := d }) : wpAny (model P w) A (setWalk a) Q E s := by
  unfold setWalk
  refine wpAny_bind (wpAny_setState_of ho hd hf ?_)
  dsimp only
  refine wpAny_bind (wpAny_byText ?_)
  cases hb : w.params.followText "set-order" with
  | true =>
    refine wp_if_pos rfl ?_
    exact wpAny_bind (wpAny_askSetting (wpAny_pure (h _ s.drawn (pick_perm _ _))))
  | false =>
    have led : t.led = true := hl.elim (fun z => by rw [hb] at z; cases z) id
    refine wp_if_neg Bool.false_ne_true ?_
    try refine wpAny_bind (wpAny_pure ?_)
    by_cases hc : (!t.plain && decide (es.size > 1)) = true
    · refine wp_if_pos hc ?_
      refine wpAny_bind (drawOrder_at _ _ _ _ (by rw [Array.length_toList]; exact Nat.le_refl _) fun ys d p => wpAny_pure (h _ d (by simpa using p)))
    · refine wp_if_neg hc ?_
      try refine wpAny_bind (wpAny_pure ?_)
      refine wpAny_bind (wpAny_of_eq (a := ()) ?_ (wpAny_pure (h es s.drawn (List.Perm.refl _))))
      show (if (!t.led && decide (es.size > 1)) = true then unsupported "set:maker-not-led" else pure ()) = pure ()
      rw [led]
      rfl
theorem quiet_inner {es : Array (Int × Value)} (g : ∀ e ∈ es.toList, GoodE e) {f : (Int × Value) → Option Bool × PUnit → Sem (ForInStep (Option Bool × PUnit))} (hf : ∀ h k tk b, f (h, .int k tk) b = pure (.yield (none, PUnit.unit))) {Q : Option Bool × PUnit → Shared → Prop}
    (h : Q (none, PUnit.unit) s) : wpAny (model P w) A (forIn es (none, PUnit.unit) f) Q E s := by
  refine MeetsSeq2.wpAny_forIn_array f (fun rest b s' => b = (none, PUnit.unit) ∧ s' = s ∧ ∀ e ∈ rest, GoodE e) Q ?_ ?_ es _ ⟨rfl, rfl, g⟩
  · rintro ⟨hh, x⟩ rest b s' ⟨rfl, rfl, hg⟩
    obtain ⟨k, tk, e, _⟩ := hg _ (.head _)
    obtain rfl : x = .int k tk := e
    rw [hf]
    exact wpAny_pure ⟨rfl, rfl, fun e he => hg e (.tail _ he)⟩
  · rintro b s' ⟨rfl, rfl, _⟩
    exact h
/-- nobody sees the walk of sets of ints -/
theorem setsQuiet_at {l : List Addr} (hl : ∀ b ∈ l, ∃ o es ep t, s.heap.get? b = some o ∧ o.data = .set es ep t ∧ t.fits es.size = true ∧ ∀ e ∈ es.toList, GoodE e) {Q : Bool → Shared → Prop} (h : Q true s) : wpAny (model P w) A (setsQuiet l) Q E s := by
  unfold setsQuiet
  refine wpAny_bind ?_
  refine wpAny_forIn_list _ (fun rest b s' => b = (none, PUnit.unit) ∧ s' = s ∧ ∀ b ∈ rest, ∃ o es ep t, s.heap.get? b = some o ∧ o.data = .set es ep t ∧ t.fits es.size = true ∧ ∀ e ∈ es.toList, GoodE e) _ ?_ ?_ l _ ⟨rfl, rfl, hl⟩
  · rintro x rest b s' ⟨rfl, rfl, hg⟩
    obtain ⟨o, es, ep, t, ho, hd, hf, g⟩ := hg x (.head _)
    refine wpAny_bind ?_
    unfold setEntries
    refine wpAny_bind (wpAny_setState_of ho hd hf ?_)
    refine wpAny_pure ?_
    dsimp only
    refine wpAny_bind (quiet_inner g (fun h k tk b => rfl) ?_)
    exact wpAny_pure ⟨rfl, rfl, fun b hb => hg b (.tail _ hb)⟩
  · rintro b s' ⟨rfl, rfl, _⟩
    exact wpAny_pure h
/-- the walk of a set while another is filled -/
theorem walkUnseen_at {r : Addr} {others : List Addr} {S : Int → Bool} {n : Nat} {Q : Array (Int × Value) → Shared → Prop} (ho : s.heap.get? a = some o) (hd : o.data = .set es ep t) (hf : t.fits es.size = true) (g : ∀ e ∈ es.toList, GoodE e) (hl : w.params.followText "set-order" = true ∨ t.led = true)
    (R : SetR w s.heap r S n) (hot : ∀ b ∈ others, ∃ o es ep t, s.heap.get? b = some o ∧ o.data = .set es ep t ∧ t.fits es.size = true ∧ ∀ e ∈ es.toList, GoodE e)
    (h : ∀ es' d h', es'.toList.Perm es.toList → Heap.SameBut r s.heap h' → SetR w h' r S n → Q es' { s with heap := h', drawn := d }) : wpAny (model P w) A (setWalkUnseen a others (some r)) Q E s := by
  have same : ∀ es' d, es'.toList.Perm es.toList → Q es' { s with drawn := d } := fun es' d p => h es' d s.heap p (Heap.SameBut.refl r s.heap) R
  unfold setWalkUnseen
  refine wpAny_bind (wpAny_setState_of ho hd hf ?_)
  dsimp only
  refine wpAny_bind (wpAny_byText ?_)
  by_cases hc : (w.params.followText "set-order" || (t.led && t.plain) || decide (es.size ≤ 1)) = true
  · refine wp_if_pos hc ?_
    exact setWalk_at ho hd hf hl same
  · have hb : w.params.followText "set-order" = false := by
      cases q : w.params.followText "set-order" with
      | false => rfl
      | true => rw [q] at hc; exact absurd rfl hc
    have led : t.led = true := hl.elim (fun z => by rw [hb] at z; cases z) id
    refine wp_if_neg hc ?_
    try refine wpAny_bind (wpAny_pure ?_)
    refine wpAny_bind (setsQuiet_at (fun b hb => ?_) ?_)
    · rcases List.mem_cons.1 hb with rfl | hb
      · exact ⟨o, es, ep, t, ho, hd, hf, g⟩
      · exact hot b hb
    refine wp_if_neg Bool.false_ne_true ?_
    try refine wpAny_bind (wpAny_pure ?_)
    refine wpAny_bind (wpAny_rule ?_)
    obtain ⟨o2, es2, ep2, t2, ho2, hex2, hd2, g2, nd2, hm2, hb2, hf2, hn2, hr2, hl2⟩ := id R
    have led2 : t2.led = true := hl2.elim (fun z => by rw [hb] at z; cases z) id
    refine wpAny_bind (wpAny_setState_of ho2 hd2 hf2 ?_)
    dsimp only
    split
    · refine wpAny_bind (wpAny_storeSet_of ho2 hd2 ?_ (fits_of_scanBound hb2))
      exact wpAny_pure (h es s.drawn _ (List.Perm.refl _) (Heap.SameBut.update s.heap r _) ⟨_, es2, _, _, store_at ho2 hd2, hex2, rfl, g2, nd2, hm2, hb2, hf2, hn2, hr2, .inr (by
        show (t2.led && t.led) = true
        rw [led2, led]
        rfl)⟩)
    · exact wpAny_pure (same es s.drawn (List.Perm.refl _))
/-- members of one that the other has too -/
theorem meet_loop {l : List (Int × Value)} {wa wb r : Addr} {T U : Int → Bool} {m c : Nat} {id : String} {Q : PUnit → Shared → Prop} {f : (Int × Value) → PUnit → Sem (ForInStep PUnit)}
    (hF : ∀ k tk u, f (hashInt k, .int k tk) u = (holding [.int k tk] (setFind wb (.int k tk) (hashInt k) >>= fun q => if q.isSome = true then (setAddHashed r (.int k tk) (hashInt k) >>= fun _ => pure PUnit.unit) else pure PUnit.unit) >>= fun _ => Builtin.Frozenset.unchanged id wa ep >>= fun _ => pure (.yield ⟨⟩)))
    (hg : ∀ e ∈ l, GoodE e) (Rb : SetR w s.heap wb T m) (hwa : s.heap.get? wa = some o) (hd : o.data = .set es ep t) (hf : t.fits es.size = true) (Rr : SetR w s.heap r U c) (hc : c + l.length < scanBound) (h1 : wa ≠ r) (h2 : wb ≠ r)
    (h : ∀ h' c', Heap.SameBut r s.heap h' → SetR w h' r (fun k => U k || (T k && decide (k ∈ l.map keyOf))) c' → Q ⟨⟩ { s with heap := h' }) :
    wpAny (model P w) A (forIn l PUnit.unit f) Q E s := by
  induction l generalizing s U c with
  | nil =>
    rw [List.forIn_nil]
    exact wpAny_pure (h s.heap c (Heap.SameBut.refl r s.heap) (Rr.congr fun k => by simp))
  | cons e l ih =>
    rw [List.forIn_cons]
    obtain ⟨hh, x⟩ := e
    obtain ⟨k, tk, e1, e2⟩ := hg _ (.head _)
    obtain rfl : x = .int k tk := e1
    obtain rfl : hh = hashInt k := e2
    rw [hF]
    have hl : c + (l.length + 1) < scanBound := hc
    have key : keyOf (hashInt k, Value.int k tk) = k := rfl
    -- the turn's end
    have fin1 : ∀ (h' : Heap) (Qr : ForInStep PUnit → Shared → Prop), Heap.SameBut r s.heap h' → Qr (.yield ⟨⟩) { s with heap := h' } → wpAny (model P w) A (Builtin.Frozenset.unchanged id wa ep >>= fun _ => pure (ForInStep.yield PUnit.unit)) Qr E { s with heap := h' } := fun h' Qr sb hQ => by
      have hwa' : h'.get? wa = some o := (sb.2 wa h1).trans hwa
      unfold Builtin.Frozenset.unchanged
      refine wpAny_bind ?_
      refine wpAny_bind ?_
      unfold setEpoch
      refine wpAny_bind (wpAny_setState_of hwa' hd hf (wpAny_pure ?_))
      refine wp_if_neg (by simp) (wpAny_pure ?_)
      exact wpAny_pure hQ
    have nx : ∀ (h' : Heap) (U' : Int → Bool) (c' : Nat), c' ≤ c + 1 → Heap.SameBut r s.heap h' → SetR w h' r U' c' → (∀ j, (U' j || (T j && decide (j ∈ l.map keyOf))) = (U j || (T j && decide (j ∈ ((hashInt k, Value.int k tk) :: l).map keyOf)))) →
        wpAny (model P w) A (forIn l PUnit.unit f) Q E { s with heap := h' } := fun h' U' c' hc' sb R' hU => by
      have hwa' : h'.get? wa = some o := (sb.2 wa h1).trans hwa
      refine ih (s := { s with heap := h' }) (fun e he => hg e (.tail _ he)) (Rb.at fun o' e' => (sb.2 wb h2).trans e') hwa' R' (by omega) fun h2' c2 sb2 R2 => ?_
      exact h h2' c2 (sb.trans sb2) (R2.congr fun j => (hU j).symm)
    refine wpAny_bind ?_
    refine wpAny_bind (wpAny_holding (wpAny_bind (wpAny_setFind_of (knd := intKind P w) (intKind_is P w k tk) rfl Rb.setOf fun q hq => ?_)))
    cases hT : T k with
    | true =>
      rw [hT] at hq
      refine wp_if_pos hq (wpAny_bind (setR_add_hashed Rr (by omega) fun h' sb new => wpAny_pure ?_))
      refine fin1 h' _ sb ?_
      refine nx h' _ _ (by split <;> omega) sb new fun j => ?_
      rw [List.map_cons, key]
      generalize l.map keyOf = M
      by_cases e : j = k
      · subst e
        simp [hT]
      · simp [e]
    | false =>
      rw [hT] at hq
      refine wp_if_neg (by rw [hq]; exact Bool.false_ne_true) (wpAny_pure ?_)
      refine fin1 s.heap _ (Heap.SameBut.refl r s.heap) ?_
      refine nx s.heap U c (Nat.le_succ _) (Heap.SameBut.refl r s.heap) Rr fun j => ?_
      rw [List.map_cons, key]
      generalize l.map keyOf = M
      by_cases e : j = k
      · subst e
        simp [hT]
      · simp [e]
theorem isAny_set {v : Value} {Q : Bool → Shared → Prop} (hT : s.TypeIs v "set") (h : Q true s) : wpAny (model P w) A (Builtin.Frozenset.isAnySet v) Q E s := by
  unfold Builtin.Frozenset.isAnySet
  refine wpAny_bind (wpAny_isInstance (b := true) hT sub_set_self ?_)
  exact wpAny_pure h
theorem base_set {Q : Value → Shared → Prop} (hT : s.TypeIs (.ref a) "set") (h : Q (.type "set") s) : wpAny (model P w) A (Builtin.Frozenset.baseOf a) Q E s := by
  unfold Builtin.Frozenset.baseOf
  refine wpAny_bind (wpAny_isInstance (b := true) hT sub_set_self ?_)
  exact wpAny_pure h
theorem size_set {Q : Nat → Shared → Prop} (ho : s.heap.get? a = some o) (hd : o.data = .set es ep t) (hf : t.fits es.size = true) (h : Q es.size s) : wpAny (model P w) A (Builtin.Frozenset.sizeOf a) Q E s := by
  unfold Builtin.Frozenset.sizeOf
  refine wpAny_bind ?_
  unfold setEntries
  exact wpAny_bind (wpAny_setState_of ho hd hf (wpAny_pure (wpAny_pure h)))
theorem entry_set_and : entryFor table "set.__and__" = some Builtin.«frozenset.__and__» :=
  entryFor_alias (id' := "frozenset.__and__") (by kernel_rfl) rfl (by decide +kernel) (by kernel_rfl)
/-- a & b -/
theorem set_and {b : Addr} {S T : Int → Bool} {n m : Nat} {Q : Value → Shared → Prop} (Ra : SetR w s.heap a S n) (Rb : SetR w s.heap b T m) (hne : b ≠ a)
    (hQ : ∀ (h' : Heap) (d : Drawn) (c : Nat) (q : Addr), (∀ x o, s.heap.get? x = some o → h'.get? x = some o) → s.heap.objs.size ≤ q → SetR w h' q (fun k => S k && T k) c → Q (.ref q) { s with heap := h', drawn := d }) :
    wpAny (model P w) A (binaryOp .BitAnd (.ref a) (.ref b)) Q E s := by
  obtain ⟨o, es, ep, t, ho, hex, hd, g, nd, hm, hb, hf, hn, hr, hl⟩ := id Ra
  obtain ⟨o2, es2, ep2, t2, ho2, hex2, hd2, g2, nd2, hm2, hb2, hf2, hn2, hr2, hl2⟩ := id Rb
  have Ta : s.TypeIs (.ref a) "set" := ⟨o, ho, hex.1⟩
  have Tb : s.TypeIs (.ref b) "set" := ⟨o2, ho2, hex2.1⟩
  refine wpAny_binaryOp_same Ta Tb F.fills_set_and F.slot_set_and ?_
  refine wpAny_call_entry F.slot_set_and Ta entry_set_and ?_ (F.args_set_and_2 _ _)
  unfold Builtin.«frozenset.__and__»
  wp_delta
  refine wpAny_bind (wpAny_of_eq (a := (Value.ref a, Value.ref b)) rfl ?_)
  simp only [Bool.false_eq_true, if_false]
  refine wpAny_bind ?_
  refine wpAny_bind (isAny_set Ta ?_)
  refine isAny_set Tb ?_
  refine wp_if_neg Bool.false_ne_true ?_
  refine wpAny_bind (wpAny_of_eq (a := a) rfl ?_)
  refine wpAny_bind ?_
  unfold Builtin.Frozenset.intersection
  have hbn : (Value.ref b == Value.ref a) = false := by simp [hne]
  refine wp_if_neg (by rw [hbn]; exact Bool.false_ne_true) ?_
  refine wpAny_bind (base_set Ta ?_)
  refine wpAny_bind (PpSet.newSet_ok ?_)
  refine wpAny_bind (wpAny_of_eq (a := s.heap.objs.size) rfl ?_)
  refine wpAny_bind (wpAny_holding ?_)
  generalize hs1 : ({ s with heap := s.heap.push { cls := .type "set", dict := none, data := .set #[] 0 (.fresh 0 0 (!w.params.followText "set-order")) } } : Shared) = s1
  have Rr : SetR w s1.heap s.heap.objs.size (fun _ => false) 0 := by rw [← hs1]; exact setR_fresh w
  have kp : ∀ x u, s.heap.get? x = some u → s1.heap.get? x = some u := fun x u e => by rw [← hs1]; exact Heap.get?_push_of_some _ e
  have ho1 := kp _ _ ho
  have ho21 := kp _ _ ho2
  have na : a ≠ s.heap.objs.size := Nat.ne_of_lt (Heap.lt_size ho)
  have nb : b ≠ s.heap.objs.size := Nat.ne_of_lt (Heap.lt_size ho2)
  have Tb1 : s1.TypeIs (.ref b) "set" := ⟨o2, ho21, hex2.1⟩
  refine wpAny_bind (isAny_set Tb1 ?_)
  refine wp_if_pos rfl ?_
  refine wpAny_bind (wpAny_of_eq (a := b) rfl ?_)
  refine wpAny_bind (size_set ho21 hd2 hf2 ?_)
  refine wpAny_bind (size_set ho1 hd hf ?_)
  -- walked, asked
  have main : ∀ {wa wb : Addr} {ow : Obj} {esw : Array (Int × Value)} {epw : Nat} {tw : SetTable} {oa : Obj} {esa : Array (Int × Value)} {epa : Nat} {ta : SetTable} {U V : Int → Bool} {nv : Nat} {Qr : PUnit → Shared → Prop}, s1.heap.get? wa = some ow → ow.data = .set esw epw tw → tw.fits esw.size = true → (∀ e ∈ esw.toList, GoodE e) → (w.params.followText "set-order" = true ∨ tw.led = true) → (∀ k, U k = true ↔ k ∈ esw.toList.map keyOf) → esw.size < scanBound →
      s1.heap.get? wb = some oa → oa.data = .set esa epa ta → ta.fits esa.size = true → (∀ e ∈ esa.toList, GoodE e) → SetR w s1.heap wb V nv → wa ≠ s.heap.objs.size → wb ≠ s.heap.objs.size →
      (∀ h' d c, Heap.SameBut s.heap.objs.size s1.heap h' → SetR w h' s.heap.objs.size (fun k => U k && V k) c → Qr ⟨⟩ { s1 with heap := h', drawn := d }) →
      wpAny (model P w) A.in1 (setEpoch wa >>= fun was => setWalkUnseen wa [wb, s.heap.objs.size] (some s.heap.objs.size) >>= fun l => forIn l PUnit.unit (fun x _ => match x with
        | (h, x) => (holding [x] (setFind wb x h >>= fun q => if q.isSome = true then (setAddHashed s.heap.objs.size x h >>= fun _ => pure PUnit.unit) else pure PUnit.unit)) >>= fun _ => Builtin.Frozenset.unchanged (toString "frozenset." ++ toString "__and__") wa was >>= fun _ => pure (ForInStep.yield PUnit.unit)) >>= fun _ => pure PUnit.unit) Qr E s1 := by
    intro wa wb ow esw epw tw oa esa epa ta U V nv Qr hw1 hw2 hw3 hw4 hw5 hw6 hw7 ha1 ha2 ha3 ha4 RV nwa nwb fin
    refine wpAny_bind ?_
    unfold setEpoch
    refine wpAny_bind (wpAny_setState_of hw1 hw2 hw3 (wpAny_pure ?_))
    refine wpAny_bind (walkUnseen_at hw1 hw2 hw3 hw4 hw5 Rr (fun x hx => ?_) fun es' d h' pm sb R' => ?_)
    · rcases List.mem_cons.1 hx with rfl | hx
      · exact ⟨oa, esa, epa, ta, ha1, ha2, ha3, ha4⟩
      · obtain rfl := List.mem_singleton.1 hx
        obtain ⟨o3, es3, ep3, t3, y1, _, y2, y3, _, _, _, y4, _⟩ := id Rr
        exact ⟨o3, es3, ep3, t3, y1, y2, y4, y3⟩
    refine wpAny_bind ?_
    rw [← Array.forIn_toList]
    refine meet_loop (s := { s1 with heap := h', drawn := d }) (wa := wa) (o := ow) (ep := epw) (fun k tk u => rfl) (fun e he => hw4 e (pm.mem_iff.1 he)) (RV.at fun o' e' => (sb.2 wb nwb).trans e') ((sb.2 wa nwa).trans hw1) hw2 hw3 R' (by rw [Nat.zero_add, pm.length_eq, Array.length_toList]; exact hw7) nwa nwb fun h2 c2 sb2 R2 => ?_
    refine wpAny_pure (fin h2 d c2 (sb.trans sb2) (R2.congr fun k => ?_))
    have e1 : decide (k ∈ es'.toList.map keyOf) = U k := by
      have := (pm.map keyOf).mem_iff (a := k)
      rw [Bool.eq_iff_iff, decide_eq_true_eq, this]
      exact (hw6 k).symm
    rw [e1, Bool.false_or, Bool.and_comm]
  have done : ∀ (h' : Heap) (d : Drawn) (c : Nat), Heap.SameBut s.heap.objs.size s1.heap h' → SetR w h' s.heap.objs.size (fun k => S k && T k) c → wpAny (model P w) A.in1 (pure (Value.ref s.heap.objs.size)) (fun v s' => wpAny (model P w) A.in1 (ret v) (fun fin s' => ∃ v, fin = Fin.done (Flow.ret v) ∧ v ≠ Value.notImplemented ∧ Q v s') E s') E { s1 with heap := h', drawn := d } := fun h' d c sb R => by
    refine wpAny_pure (wpAny_pure ⟨_, rfl, by simp, ?_⟩)
    have q := hQ h' d c s.heap.objs.size (fun x u e => (sb.2 x (Nat.ne_of_lt (Heap.lt_size e))).trans (kp x u e)) (Nat.le_refl _) R
    rw [← hs1]
    exact q
  by_cases hc : es2.size > es.size
  · rw [if_pos hc]
    exact main ho1 hd hf g hl hm hb ho21 hd2 hf2 g2 (Rb.at fun u e => kp _ _ e) na nb fun h' d c sb R => done h' d c sb R
  · rw [if_neg hc]
    exact main ho21 hd2 hf2 g2 hl2 hm2 hb2 ho1 hd hf g (Ra.at fun u e => kp _ _ e) nb na fun h' d c sb R => done h' d c sb (R.congr fun k => Bool.and_comm _ _)
end
section
variable {X : Cx}
/-- a & b of two sets of ints -/
def rSAnd (w : World) : V → V → Hp → VK → Prop := fun x y H Q => ∃ a b S T n m, x = V.ref a ∧ y = V.ref b ∧ b ≠ a ∧ H a = some (SetO w a S n) ∧ H b = some (SetO w b T m) ∧ ∀ p c, H p = none → Q (.ref p) (upd H p (SetO w p (fun k => S k && T k) c))
theorem op_sand : OpR X (binaryOp .BitAnd) (rSAnd X.w) := by
  intro pins s σ H x y v u Q I rx ry h
  obtain ⟨a, b, S, T, n, m, rfl, rfl, hne, ha, hb, q⟩ := h
  cases rx
  cases ry
  refine set_and (setO_get I ha) (setO_get I hb) hne fun h' d c p k hp R => ?_
  have hn : H p = none := I.hok.fresh hp
  have J : Inv X pins σ (upd H p (SetO X.w p (fun k => S k && T k) c)) { s with heap := h', drawn := d } := I.call (ch := []) (Un.laid k hp hn) (I.hok.laid k hp (setO_new R)) I.bare (fun _ z => nomatch z)
  exact ⟨.ref p, _, J, rfl, q p c hn⟩
/-- len of a set of ints -/
def rLenZ (w : World) : List V → Hp → VK → Prop := fun vs H Q => ∃ (a : Addr) (S : Int → Bool) (n : Nat), vs = [V.ref a] ∧ H a = some (SetO w a S n) ∧ ∀ m : Nat, (0 < m ↔ ∃ k, S k = true) → Q (.int m) H
theorem c_lenZ : CallR X (.builtin "len") (rLenZ X.w) := by
  intro pins s σ H vs us Q I r h
  obtain ⟨a, S, n, rfl, ha, q⟩ := h
  rw [Vals.ref1 r]
  obtain ⟨o, es, ep, t, ho, hex, hd, g, nd, hm, hb, hf, hn, hr, hl⟩ := setO_get I ha
  refine call_len_set ho hex hd hf (by have : es.size < 4096 := hb; omega) ⟨.int es.size, H, I.tok _, ⟨_, rfl⟩, q _ ?_⟩
  constructor
  · intro z
    have hl : 0 < es.toList.length := by rw [Array.length_toList]; exact z
    exact ⟨keyOf es.toList[0], (hm _).2 (List.mem_map.2 ⟨_, List.getElem_mem hl, rfl⟩)⟩
  · rintro ⟨k, hk⟩
    obtain ⟨e, he, _⟩ := List.mem_map.1 ((hm k).1 hk)
    have := List.length_pos_of_mem he
    rw [Array.length_toList] at this
    exact this
end
end L2

/-! {elt for target in iter if ..} of ints. -/
namespace L2
open PySem PySem.Spec PyProof.Rows PpSet
section
variable {X : Cx}
/-- set.add of an int -/
theorem addI_ok {pins : List (Addr × Obj)} {σ : L2.St} {H : Hp} {s : Shared} {E : Value → Shared → Prop} {D : Addr} {S : Int → Bool} {n : Nat} {k : Int} {tk : Tok} {Q : Value → Shared → Prop} (I : Inv X pins σ H s) (hD : H D = some (SetO X.w D S n)) (room : n + 1 < scanBound)
    (h : ∀ s', Inv X pins σ (upd H D (SetO X.w D (fun j => S j || decide (j = k)) (if S k = true then n else n + 1))) s' → Q .none s') : wpAny (model X.prog X.w) X.A (call (.builtin "set.add") [.ref D, .int k tk]) Q E s :=
  setR_add (setO_get I hD) room fun h' sb new => by
    have he : ∃ u, h'.get? D = some u := by
      have ⟨o, _, _, _, ho, _⟩ := new
      exact ⟨o, ho⟩
    exact h _ (I.write (e := D) (t' := s.toks + 1) (by rw [hD]; trivial) (.inl rfl) (fun b u hb hu => (sb.2 b hb).trans hu) he (setO_new new))
/-- {elt for target in iter if ..}, elt an int: D the new set -/
def tSi (w : World) (wi : TI) (g : TG) (tt : TT) (te : TE) (vs : List Nat) : TE := fun σ H Q => wi σ H fun J H1 => ∀ D, H1 D = none → ∃ W : Nat → Nat → Hp → Prop, (∃ m, W 0 m (upd H1 D (SetO w D (fun _ => false) 0))) ∧ ∀ i m H, W i m H →
  (J.stop i H ∧ Q (.ref D) H) ∨ (J.go i H ∧ ∃ Nx : Hp → Prop, (∀ H', Nx H' → ∃ m', m' < m ∧ W (i + 1) m' H') ∧ ∀ x H', J.yld i H x H' → g x (wipe σ vs) H' fun σ2 H2 => wipe σ2 vs = wipe σ vs ∧ tt σ2 H2 fun b H3 =>
    if b = true then te σ2 H3 fun y H4 => ∃ (c : Int) (S : Int → Bool) (n : Nat), y = .int c ∧ H4 D = some (SetO w D S n) ∧ n + 1 < scanBound ∧ Nx (upd H4 D (SetO w D (fun j => S j || decide (j = c)) (if S c = true then n else n + 1))) else Nx H3)
/-- as a value -/
theorem pe_si {elt tg iter : Expr} {ifs : List Expr} {scope : Scope} {own : List (PySem.Str × Nat)} {pos : Pos} {wi : TI} {g : TG} {tt : TT} {te : TE} (hc : X.calm = true) (hN : X.N.Nodup) (hi : PI X tg iter wi) (ok : BlkOk X.N X.env.scope scope own)
    (hg : ∀ (s : Shared) (H : Hp) (C : Addr) (cl : List (PySem.Str × Addr)) (fp : List Addr), PG (X.blk s H scope (compEnvC scope cl C X.env) fp) tg g) (ht : ∀ (s : Shared) (H : Hp) (C : Addr) (cl : List (PySem.Str × Addr)) (fp : List Addr), PTs (X.blk s H scope (compEnvC scope cl C X.env) fp) ifs tt)
    (he : ∀ (s : Shared) (H : Hp) (C : Addr) (cl : List (PySem.Str × Addr)) (fp : List Addr), PE (X.blk s H scope (compEnvC scope cl C X.env) fp) elt te) (hs : ∀ x, foldedSetIterable iter X.env x = pure x := by intro _; rfl) :
    PE X (.SetComp elt [⟨tg, iter, ifs, 0⟩] scope pos) (tSi X.w wi g tt te (own.map (·.2))) := by
  refine ⟨fun pins s σ H Q I h => ?_⟩
  rw [eval_SetComp]
  have hfree : ∀ y ∈ scope.names, y.2 = .free → ∃ c, X.env.cells.lookup y.1 = some c := fun y hy e => (ok.free y hy e).elim (fun k => I.ok.has _ (.inl k)) fun k => I.ok.has _ (.inr k)
  refine wpAny_comprehension_free (use := none) rfl hs (closure_ok hfree) ok.kind (fun y hy e => by rw [ok.uniq y hy, e]) (thn (hi.run pins s σ H _ I h) fun xv s1 hx => thn hx fun itv s2 h2 => ?_)
  obtain ⟨it, fp, tn, J, H2, rfl, I2, T, st2, f2, q⟩ := h2
  refine newSet_ok (newEnv_comp ?_)
  have hDn : H2 s2.heap.objs.size = none := I2.hok.fresh (Nat.le_refl _)
  obtain ⟨W, ⟨m0, w0⟩, turn⟩ := q _ hDn
  -- the set, empty
  obtain ⟨D, hD⟩ : ∃ D, D = s2.heap.objs.size := ⟨_, rfl⟩
  obtain ⟨s3, hs3⟩ : ∃ s3 : Shared, s3 = { s2 with heap := s2.heap.push { cls := .type "set", dict := none, data := .set #[] 0 (.fresh 0 0 (!X.w.params.followText "set-order")) } } := ⟨_, rfl⟩
  rw [← hD] at w0 turn hDn ⊢
  have h3 : s3.heap = s2.heap.push { cls := .type "set", dict := none, data := .set #[] 0 (.fresh 0 0 (!X.w.params.followText "set-order")) } := by rw [hs3]
  have old3 : ∀ b o, s2.heap.get? b = some o → s3.heap.get? b = some o := fun b o e => by rw [h3]; exact Heap.get?_push_of_some _ e
  have I3 : Inv X pins σ (upd H2 D (SetO X.w D (fun _ => false) 0)) s3 := by
    rw [hs3]
    refine I2.laid (t' := s2.toks) (fun b o e => Heap.get?_push_of_some _ e) (Nat.le_of_eq hD.symm) ?_
    rw [hD]
    exact setO_new (setR_fresh X.w)
  have f3 : ∀ b ∈ fp, FpOk X pins (upd H2 D (SetO X.w D (fun _ => false) 0)) b ∧ b < s3.heap.objs.size := fun b hb => by
    obtain ⟨o, e, _⟩ := T.obj _ _ st2 b hb
    have lt := Heap.lt_size e
    refine ⟨⟨?_, (f2 b hb).2⟩, Heap.lt_size (old3 b o e)⟩
    rw [upd_ne (by rw [hD]; exact Nat.ne_of_lt lt)]
    exact (f2 b hb).1
  have st3 : tn 0 s3.heap := T.keep _ _ _ st2 fun b _ o e => old3 b o e
  have I4 := block_start I3 ok hN f3
  have pg := hg s3 (upd H2 D (SetO X.w D (fun _ => false) 0)) s3.heap.objs.size (cellsFrom (s3.heap.objs.size + 1) scope.names (cloFrom X.env.cells scope.names [])) fp
  have pt := ht s3 (upd H2 D (SetO X.w D (fun _ => false) 0)) s3.heap.objs.size (cellsFrom (s3.heap.objs.size + 1) scope.names (cloFrom X.env.cells scope.names [])) fp
  have pe := he s3 (upd H2 D (SetO X.w D (fun _ => false) 0)) s3.heap.objs.size (cellsFrom (s3.heap.objs.size + 1) scope.names (cloFrom X.env.cells scope.names [])) fp
  rw [← hs3]
  show codeAny _ _ (.compStart (.SetComp elt [⟨tg, iter, ifs, 0⟩] scope pos) 0 (.ref it) (.ref D) (compEnvC scope (cellsFrom (s3.heap.objs.size + 1) scope.names (cloFrom X.env.cells scope.names [])) s3.heap.objs.size X.env)) (compPost (model X.prog X.w) X.A X.xe none _ (.ref D) s3.heap.objs.size) { s3 with heap := pushCells (s3.heap.push { cls := .type "dict", data := .dict #[] }) scope.names }
  generalize hce : compEnvC scope (cellsFrom (s3.heap.objs.size + 1) scope.names (cloFrom X.env.cells scope.names [])) s3.heap.objs.size X.env = ce at I4 pg pt pe ⊢
  have cL : ce.locals = s3.heap.objs.size := by rw [← hce]; rfl
  generalize upd H2 D (SetO X.w D (fun _ => false) 0) = H3 at I3 I4 pg pt pe w0 f3
  obtain ⟨s4, hs4⟩ : ∃ s4 : Shared, s4 = { s3 with heap := pushCells (s3.heap.push { cls := .type "dict", data := .dict #[] }) scope.names } := ⟨_, rfl⟩
  rw [← hs4] at I4 ⊢
  have st4 : tn 0 s4.heap := T.keep _ _ _ st3 fun b _ o e => by rw [hs4]; exact pushCells_keeps _ _ _ _ (Heap.get?_push_of_some _ e)
  have stat : ∀ {σ' : L2.St} {H' : Hp} {s' : Shared}, Inv (X.blk s3 H3 scope ce fp) [] σ' H' s' → (∀ b ∈ fp, H' b = none) → ∀ b ∈ fp, FpOk (X.blk s3 H3 scope ce fp) [] H' b := fun {σ' H' s'} I' n b hb =>
    ⟨n b hb, (I'.ok.exf b hb).1, I'.ok.exfs b hb, .inl hb, fun x c e => (I'.ok.exf b hb).2 x c e, fun p hp => absurd (show p ∈ ([] : List (Addr × Obj)) ++ [] from hp) (by simp)⟩
  -- the end, back in the def
  have close : ∀ {s' : Shared} {H' : Hp}, Inv (X.blk s3 H3 scope ce fp) [] (wipe σ (own.map (·.2))) H' s' → Q (.ref D) H' → compPost (model X.prog X.w) X.A X.xe none (EP X pins σ Q) (.ref D) s3.heap.objs.size (.ok .next) s' := fun {s' H'} I' qq => by
    have I7 : Inv X pins σ H' s' := I3.call' (ch := fp) I'.os I'.base I'.hok I'.bare fun b hb => ⟨(f3 b hb).1.2.2.2.1, (f3 b hb).1.2.1, (f3 b hb).1.2.2.2.2.1, (f3 b hb).1.2.2.2.2.2⟩
    have nC : H' s3.heap.objs.size = none := by
      have z : H' ce.locals = none := I'.free
      rw [cL] at z
      exact z
    obtain ⟨m, hn, _⟩ := I'.loc
    have hn : s'.heap.Ns ce.locals m := hn
    rw [cL] at hn
    refine ⟨m, hn, fun h'' sb => ?_⟩
    obtain ⟨p0, p1, p2, p3, p4, p5⟩ := I3.fpOk (Nat.le_refl _) nC
    exact ⟨.ref D, H', I7.turned (t' := s'.toks) (fun b o hb e => (sb.2 b hb).trans e) p0 p1 p3 p4 p5, rfl, qq⟩
  have loop : codeAny (model X.prog X.w) X.A (.compLoop (.SetComp elt [⟨tg, iter, ifs, 0⟩] scope pos) 0 (.ref it) (.ref D) ce) (compPost (model X.prog X.w) X.A X.xe none (EP X pins σ Q) (.ref D) s3.heap.objs.size) s4 := by
    refine compLoopS_any (fun n s' => ∃ i H', Inv (X.blk s3 H3 scope ce fp) [] (wipe σ (own.map (·.2))) H' s' ∧ tn i s'.heap ∧ (∀ b ∈ fp, H' b = none) ∧ W i n H') ?_ m0 ⟨0, H3, I4, st4, fun b hb => (f3 b hb).1.1, w0⟩
    rintro n s5 ⟨i, H5, I5, st5, n5, w5⟩
    rcases turn i n H5 w5 with ⟨stop, qq⟩ | ⟨go, Nx, hNx, step⟩
    · refine thnF (T.done (X.blk s3 H3 scope ce fp) rfl rfl rfl hc i [] s5 _ H5 (fun _ _ => False) I5 (stat I5 n5) st5 stop) fun r s6 ⟨hr, I6⟩ => ?_
      subst hr
      exact close I6 qq
    · refine thnF (T.item (X.blk s3 H3 scope ce fp) rfl rfl rfl hc i [] s5 _ H5 (fun _ _ => False) I5 (stat I5 n5) st5 go) fun r s6 ⟨u, hr, h6⟩ => ?_
      subst hr
      refine thnF h6 fun _ s7 ⟨x, H7, I7, r7, y7, st7, n7⟩ => ?_
      refine thnF (pg.run _ s7 _ H7 x u _ (I7.pinned (stat I7 n7) (T.obj _ _ st7)) r7 (step x H7 y7)) fun _ s8 ⟨σ8, H8, I8, hw8, q8⟩ => ?_
      refine thnF (pt.run _ s8 σ8 H8 _ I8 q8) fun b s9 ⟨H9, I9, q9⟩ => ?_
      have next : ∀ {s' : Shared} {H' : Hp}, Inv (X.blk s3 H3 scope ce fp) ([] ++ pinsAt fp s7.heap) σ8 H' s' → Nx H' → ∃ m, m < n ∧ ∃ i H', Inv (X.blk s3 H3 scope ce fp) [] (wipe σ (own.map (·.2))) H' s' ∧ tn i s'.heap ∧ (∀ b ∈ fp, H' b = none) ∧ W i m H' := fun {s' H'} I' nx => by
        obtain ⟨m', hm, w'⟩ := hNx H' nx
        have pin' : ∀ b ∈ fp, ∀ o, s7.heap.get? b = some o → s'.heap.get? b = some o ∧ H' b = none := fun b hb o e =>
          let z := I'.pin (b, o) (List.mem_append_right _ (List.mem_append_right _ (mem_pinsAt hb e)))
          ⟨z.1, z.2.1⟩
        refine ⟨m', hm, i + 1, H', (I'.unpinned (pins := [])).weak (by rw [← hw8, wipe_length]) (fun j v e => ?_), T.keep _ _ _ st7 fun b hb o e => (pin' b hb o e).1, fun b hb => ?_, w'⟩
        · rw [← hw8] at e
          exact (wipe_some e).1
        · obtain ⟨o, e, _⟩ := T.obj _ _ st7 b hb
          exact (pin' b hb o e).2
      cases b with
      | false =>
        simp only [Bool.false_eq_true, if_false] at q9 ⊢
        exact next I9 q9
      | true =>
        simp only [if_true] at q9 ⊢
        refine thnF (pe.run _ s9 σ8 H9 _ I9 q9) fun z s10 ⟨yv, H10, I10, r10, k, S0, n0, ey, hD10, hz10, nx⟩ => ?_
        subst ey
        obtain ⟨tk, rfl⟩ := r10
        exact addI_ok (X := X.blk s3 H3 scope ce fp) I10 hD10 hz10 fun s11 I11 => next I11 nx
  exact codeAny_compStart_set loop (T.self X.A 0 _ _ _ st4 loop)
end
end L2
namespace AW
open PySem PySem.Spec PyProof.Rows L2
section
variable {c : Cw} {kn : Hp} {n : Nat} {σ : L2.St} {Q : V → Hp → Nat → Prop} {w : World}
/-- the set of f of some numbers -/
theorem w_si {wi : TI} {te : TE} {j : Nat} {vs : List Nat} {f : Nat → Int}
    (h : WI c (wi σ) kn n fun J kn1 n1 => ∃ (ys : List Nat) (ka : Hp → Prop), Gives J (ys.map fun (y : Nat) => V.int y) ka ∧ ys.length ≤ 1000 ∧ ka kn1 ∧
      (∀ y ∈ ys, wipe ((wipe σ vs).set j (some (V.int (y : Nat)))) vs = wipe σ vs ∧ ∀ (H : Hp) (R : V → Hp → Prop), R (.int (f y)) H → te ((wipe σ vs).set j (some (V.int (y : Nat)))) H R) ∧
      ∀ D m, kn1 D = none → Q (.ref D) (upd kn1 D (SetO w D (fun k => decide (k ∈ ys.map f)) m)) n1) : W c (tSi w wi (gName j) tYes te vs σ) kn n Q := by
  intro H g Q' q
  refine h H g _ fun J kn1 n1 H1 hJ g1 => ?_
  obtain ⟨ys, ka, hG, hz, hk, hs, hd⟩ := hJ
  intro D hD
  have ex : ∀ {o : HO}, Ext kn1 (upd H1 D o) := fun {o} x u e => by
    rw [upd_ne (fun z => by rw [z, g1.free hD] at e; cases e)]
    exact g1.ex x u e
  refine ⟨fun i m H' => m = ys.length - i ∧ i ≤ ys.length ∧ ∃ cn, cn ≤ i ∧ H' = upd H1 D (SetO w D (fun k => decide (k ∈ (ys.take i).map f)) cn), ⟨_, rfl, Nat.zero_le _, 0, Nat.le_refl _, ?_⟩, ?_⟩
  · congr 2
  · rintro i m H' ⟨rfl, hi, cn, hcn, rfl⟩
    obtain ⟨q1, q2, q3⟩ := hG kn1 _ ex hk
    rw [List.length_map] at q1 q2 q3
    by_cases hlt : i < ys.length
    · refine .inr ⟨q1 i hlt, fun H2 => ∃ cn, cn ≤ i + 1 ∧ H2 = upd H1 D (SetO w D (fun k => decide (k ∈ (ys.take (i + 1)).map f)) cn), fun H2 ⟨cn, h1, h2⟩ => ⟨ys.length - (i + 1), by omega, rfl, hlt, cn, h1, h2⟩, fun x H2 y => ?_⟩
      obtain ⟨e, hx⟩ := q3 i x H2 y
      subst e
      have hx := hx hlt
      rw [List.getElem?_map, List.getElem?_eq_getElem hlt] at hx
      obtain rfl := (Option.some.inj hx).symm
      obtain ⟨w1, w2⟩ := hs _ (List.getElem_mem hlt)
      refine ⟨w1, ?_⟩
      unfold tYes
      dsimp only
      rw [if_pos rfl]
      refine w2 _ _ ?_
      have key : ∀ cn', upd (upd H1 D (SetO w D (fun k => decide (k ∈ (ys.take i).map f)) cn)) D (SetO w D (fun k => decide (k ∈ (ys.take i).map f) || decide (k = f ys[i])) cn') = upd H1 D (SetO w D (fun k => decide (k ∈ (ys.take (i + 1)).map f)) cn') := fun cn' => by
        have e : (fun k => decide (k ∈ (ys.take i).map f) || decide (k = f ys[i])) = fun k => decide (k ∈ (ys.take (i + 1)).map f) := funext fun k => by
          rw [List.take_add_one, List.getElem?_eq_getElem hlt, List.map_append, Bool.eq_iff_iff, Bool.or_eq_true, decide_eq_true_eq, decide_eq_true_eq, decide_eq_true_eq, List.mem_append]
          simp
        rw [e]
        funext z
        by_cases hz : z = D
        · rw [hz, upd_same, upd_same]
        · rw [upd_ne hz, upd_ne hz, upd_ne hz]
      exact ⟨f ys[i], _, cn, rfl, upd_same, by have : scanBound = 4096 := rfl; omega, _, by split <;> omega, key _⟩
    · have e : i = ys.length := Nat.le_antisymm hi (Nat.le_of_not_lt hlt)
      subst e
      refine .inl ⟨q2 _ (Nat.le_refl _), ?_⟩
      rw [List.take_length]
      exact q _ _ _ _ (hd D cn (g1.free hD)) (g1.new hD)
theorem r_sand {a b : Addr} {S T : Int → Bool} {m1 m2 : Nat} (ha : kn a = some (SetO w a S m1)) (hb : kn b = some (SetO w b T m2)) (hne : b ≠ a) (q : ∀ p k, kn p = none → Q (.ref p) (upd kn p (SetO w p (fun k => S k && T k) k)) n) : W c (rSAnd w (.ref a) (.ref b)) kn n Q :=
  fun H g Q' k => ⟨a, b, S, T, m1, m2, rfl, rfl, hne, g.ex _ _ ha, g.ex _ _ hb, fun p j hp => k _ _ _ _ (q p j (g.free hp)) (g.new hp)⟩
theorem r_lenZ {a : Addr} {S : Int → Bool} {m : Nat} (ha : kn a = some (SetO w a S m)) (q : ∀ m : Nat, (0 < m ↔ ∃ k, S k = true) → Q (.int m) kn n) : W c (rLenZ w [.ref a]) kn n Q :=
  fun H g Q' k => ⟨a, S, m, rfl, g.ex _ _ ha, fun j hj => k _ _ _ _ (q j hj) g⟩
theorem r_gcd {x y : Int} (q : Q (.int ((Nat.gcd x.natAbs y.natAbs : Nat) : Int)) kn n) : W c (rGcd [.int x, .int y]) kn n Q :=
  fun H g Q' k => ⟨x, y, rfl, k _ _ _ _ q g⟩
end
end AW

/-! A classmethod called with keywords. -/
namespace L2
open PySem PySem.Spec PyProof.Rows ClX
def tCMethKW (C : Addr) (n : Nat) (sp : Sp) (gV : List V → List V → List V) (E : XK) (ta : TE) (tk : TA) : TE := fun σ H Q => ta σ H fun x H1 => x = .ref C ∧ tk σ H1 fun zs H2 => zs.length = n ∧ sp (gV [.ref C] zs) H2 Q E
section
variable {X : Cx} {CX : CXT} {k : Nat} {g C p : Addr} {mc : Value} {m : Str} {fd : FuncData} {ps ks : List Str} {sp : Sp} {E : XK} {o : Expr} {kws : List Keyword} {pos apos : Pos} {ta : TE} {tk : TA} {pl : Sem Bool} {pins : List (Addr × Obj)} {σ : St} {H : Hp} {s : Shared} {gq : List Value → List Value → List Value} {gV : List V → List V → List V}
theorem getcm_ok {A : Around} {E : Value → Shared → Prop} {Q : Value × List Value → Shared → Prop} (I : Inv X pins σ H s) (r : CRead X.K C mc) (c : CMet X.K C mc m p g) (h : ∀ q s', Inv X ((q, PySem.W.methodObj (.ref g) (.ref C)) :: pins) σ H s' → X.base.get? q = none → Q (.ref q, []) s') : wpAny (model X.prog X.w) A (getMethod (.ref C) m pl) Q E s := by
  obtain ⟨rest, hp⟩ := c.rc
  exact PySem.W.method_cls I.kIn r.ga (PySem.W.cls_bind I.kIn r.rd c.at_ (wpAny_call (PySem.W.cm_get (s := { s with toks := s.toks + 1 }) I.kIn hp (PySem.W.handed_on rfl (h _ _ (met_new I) (base_none I (Nat.le_refl _)))))))
theorem pe_cmethKW (he : PE X o ta) (r : CRead X.K C mc) (c : CMet X.K C mc m p g) (F : FnOk X.prog X.w X.K X.mg X.base CX k g fd ps sp) (hr : Room k X.A) (hb : KBn X.K fd ps 1 ks gq gV) (hx : Passes CX X E) (hkw : PK X kws tk)
    (hall : (backToKw pos (keywordEach kws X.env)).all (·.1.isSome) = true := by rfl) (hks : (backToKw pos (keywordEach kws X.env)).filterMap (·.1) = ks := by rfl)
    (hpl : ((backTo pos (starEach [] X.env)).any (·.1) || (backToKw pos (keywordEach kws X.env)).any (·.1.isNone)) = false := by rfl)
    (ht : eval (.Call (.Attribute o m apos) [] kws pos) X.env = (do
      let ov ← eval o X.env
      standAt apos.atName
      let (fn, first) ← holding [ov] (getMethod ov m pl)
      callWith pos fn first (backTo pos (starEach [] X.env)) (backToKw pos (keywordEach kws X.env))) := by rfl) :
    PE X (.Call (.Attribute o m apos) [] kws pos) (tCMethKW C ks.length sp gV E ta tk) := by
  refine ⟨fun pins s σ H Q I h => ?_⟩
  refine PySem.W.methodCall_KW (pl := pl) (thn (he.run pins s σ H _ I h) fun u s1 ⟨x, H1, I1, rx, ex, q⟩ => ?_) ht
  subst ex
  obtain rfl : u = Value.ref C := rx
  refine getcm_ok I1 r c fun qa s2 I2 hbase => ?_
  refine PySem.W.callWith_of (P := fun h => PySem.W.MethP X.K qa g (.ref C) h) hpl (PySem.W.keeps_M c.fi) ?_
  refine evalArgs_kw_nil hall (thn (hkw.run pos _ s2 σ H1 _ I2 q) fun ws s3 ⟨zs, H2, I3, rz, lz, q2⟩ => ⟨⟨pin_at I3, I3.kIn⟩, ?_⟩)
  rw [hks]
  have r1 : Vals [V.ref C] [Value.ref C] := .cons rfl .nil
  have lw : ws.length = ks.length := rz.length.symm.trans lz
  refine wpAny_mono (Q := EP X ((qa, PySem.W.methodObj (.ref g) (.ref C)) :: pins) σ Q) (wpAny_call (PySem.W.method_call (pin_at I3) (codeAny_mono (F.run X.A X.stack s3 H2 ⟨[.ref C], ks.zip ws⟩ (gq [.ref C] ws) (gV [.ref C] zs) Q E hr I3.env0 (hb.to s3 [.ref C] ws I3.kIn rfl lw) (hb.rel r1 rz) q2) fun r s' hq => ?_))) (fun v s' hv => unpinE hv) (fun _ _ z => z)
  cases r with
  | error e => exact hx _ σ H2 s3 e s' I3 hq
  | ok fl =>
    cases fl with
    | ret u => exact I3.after hq
    | next => exact False.elim hq
    | brk => exact False.elim hq
    | cont => exact False.elim hq
end
end L2
namespace AW
open PySem PySem.Spec L2 ClX
theorem w_cmethKW {c : Cw} {kn : Hp} {n m : Nat} {σ : L2.St} {Q : V → Hp → Nat → Prop} {E : XK} {EA : EAK} {B : List V → Hp → AK → AXK → Prop} {C : Addr} {gV : List V → List V → List V} {ta : TE} {tk : TA} (hm : MonoX B) (hE : ErrOk c EA E)
    (h : W c (ta σ) kn n fun x kn1 n1 => x = .ref C ∧ W c (tk σ) kn1 n1 fun zs kn2 n2 => zs.length = m ∧ B (gV [.ref C] zs) kn2 (fun v k => Q v k n2) (fun cls d k => EA cls d k n2)) : W c (tCMethKW C m (liftX B) gV E ta tk σ) kn n Q :=
  fun H g Q' q => h H g _ fun x kn1 n1 H1 ⟨e, h1⟩ g1 => ⟨e, h1 H1 g1 _ fun vs kn2 n2 H2 ⟨l, h2⟩ g2 => ⟨l, sp_call hm hE h2 H2 g2 Q' q⟩⟩
end AW

/-! t.count(b) of a tuple of truth values; divmod as the library has it (L2.call_divmod). -/
namespace L2
open PySem PySem.Spec PyProof.Rows
section
variable {X : Cx}
/-- t.count(b) -/
def rCntT (K : PySem.W.Frag) : V → List V → Hp → VK → Prop := fun x xs H Q => ∃ (p : Addr) (bs : List Bool) (b : Bool), x = .ref p ∧ xs = [.bl b] ∧ SqT K H p (bs.map V.bl) ∧ Q (.int (bs.count b : Nat)) H
theorem cnt_bools {b : Bool} : ∀ {bs : List Bool} {us : List Value}, Vals (bs.map V.bl) us → us.countP (PpSet.isB b) = bs.count b ∧ ∀ y ∈ us, ∃ c, y = .bool c
  | [], _, r => by cases r; exact ⟨rfl, fun y hy => by cases hy⟩
  | c :: bs, _, r => by
    cases r with
    | cons r1 r2 =>
      cases (show _ = Value.bool c from r1)
      obtain ⟨h1, h2⟩ := cnt_bools (b := b) r2
      refine ⟨?_, fun y hy => ?_⟩
      · rw [List.countP_cons, List.count_cons, h1]
        rfl
      · rcases List.mem_cons.1 hy with rfl | hy
        · exact ⟨c, rfl⟩
        · exact h2 y hy
theorem mt_tcnt : MtR X "tuple.count" (rCntT X.K) := by
  intro pins s σ H x xs v us Q I rx rxs h
  obtain ⟨p, bs, b, rfl, rfl, hs, q⟩ := h
  cases rx
  obtain ⟨u, rfl, ru⟩ := rxs.one
  cases (show u = Value.bool b from ru)
  obtain ⟨its, rv, ⟨⟨cls, dd, data, sl⟩, ho, hc, n, hd⟩, hlen⟩ := I.tuple hs
  simp only at hc hd
  subst hc hd
  obtain ⟨hcnt, hb⟩ := cnt_bools (b := b) rv
  refine call_meets PySem.F.slot_tuple_count ⟨_, ho, rfl⟩ PySem.F.entry_tuple_count (PySem.F.args_tuple_count_2 _ _)
    (SeqAt.tuple_countAt p its.toArray n dd sl (.bool b) (PpSet.isB b)) ⟨ho, fun y hy => ?_, ?_⟩
  · obtain ⟨c, rfl⟩ := hb y (by simpa using hy)
    exact SeqAt.EqAt.bool_bool c b
  · refine ⟨.int (bs.count b : Nat), H, I.tok _, ⟨s.toks, ?_⟩, q⟩
    show Value.int ((its.toArray.toList.countP (PpSet.isB b) : Nat) : Int) s.toks = _
    rw [show its.toArray.toList = its from rfl, hcnt]
end
/-- t[lo:hi], not the whole of it; what is made is known to the object -/
def rSlF (K : PySem.W.Frag) : V → Option Int → Option Int → Hp → VK → Prop := fun x lo hi H Q => ∃ a xs, x = .ref a ∧ SqT K H a xs ∧
  ¬ (HT.sIx xs.length 0 lo = 0 ∧ HT.sIx xs.length xs.length hi = xs.length) ∧ ∀ p (o : Obj), o.cls = .type "tuple" → o.dict = none → H p = none → Q (.ref p) (upd H p (.frz o (.tup (cutV xs lo hi))))
theorem sl_tupF : SlR X (rSlF X.K) := by
  intro pins s σ H x v vl vu lo hi sl Q I rx hs pl pu h
  obtain ⟨a, xs, rfl, hx, hw, q⟩ := h
  cases rx
  obtain ⟨its, r, ht, hz⟩ := I.tuple hx
  have hlen : its.toArray.size = xs.length := by rw [List.size_toArray]; exact r.length.symm
  refine ⟨"tuple", _, PyProof.Rows.slot_tuple_getitem.lookup, ht.typeIs, ?_⟩
  refine HT.getItem_tuple_cut ht hs pl pu (by rw [hlen]; exact hw) ?_ (by rw [hlen]; exact hz)
  rw [hlen]
  refine ⟨.ref s.heap.objs.size, _, I.laid (t' := s.toks) (o := .frz _ (.tup (cutV xs lo hi))) (fun b ob q => Heap.get?_push_of_some _ q) (Nat.le_refl _) ⟨Heap.get?_push_size _ rfl, ?_⟩, rfl, q _ _ rfl rfl (I.hok.fresh (Nat.le_refl _))⟩
  exact ⟨Nat.le_trans (cutV_length xs lo hi) hz, _, (r.drop (HT.sIx xs.length 0 lo)).take (HT.sIx xs.length xs.length hi - HT.sIx xs.length 0 lo), IsTup.new _ _⟩
/-- a method of a tuple that is known to the object -/
def tBMF (K : PySem.W.Frag) (r : V → List V → Hp → VK → Prop) (to : TE) (t : TA) : TE := fun σ H Q => to σ H fun x H1 => (∃ p o u, x = .ref p ∧ H1 p = some (.frz o u) ∧ o.cls = .type "tuple" ∧ o.dict = none) ∧ t σ H1 fun xs H2 => r x xs H2 Q
theorem pe_bmF {o e : Expr} {es : List Expr} {to : TE} {t : TA} {name : Str} {apos cpos : Pos} {id : String} {r : V → List V → Hp → VK → Prop} (pa : PlainAttrs "tuple") (slot : Slot "tuple" name id) (hty : typeOf (.builtin id) = pure (.type "method_descriptor")) (hm : MtR X id r) (ho : PE X o to) (ha : PA X (e :: es) t)
    (hbase : attributeBase o name X.env (eval o X.env) = eval o X.env := by rfl)
    (hfew : ((backTo cpos (starEach (e :: es) X.env)).all (fun x => !x.1) && (backToKw cpos (keywordEach [] X.env)).all (fun x => x.1.isSome)
      && decide ((e :: es).length + ([] : List Keyword).length + (if ([] : List Keyword).isEmpty then 0 else 1) < 30)) = true := by rfl)
    (hline : (apos.endLine == cpos.line) = true := by rfl) (hs : starEach (e :: es) X.env = (false, eval e X.env) :: starEach es X.env := by rfl) (hplain : (backTo cpos (starEach es X.env)).any (·.1) = false := by rfl) :
    PE X (.Call (.Attribute o name apos) (e :: es) [] cpos) (tBMF X.K r to t) := by
  refine ⟨fun pins s σ H Q I h => ?_⟩
  refine wpAny_Call_method_late hbase hfew hline rfl (thn (ho.run pins s σ H _ I h) fun v s1 ⟨x, H1, I1, r1, ⟨p, ob, u, ex, hp, hc, hd⟩, q1⟩ => ?_)
  subst ex
  cases r1
  have hg : s1.heap.get? p = some ob := (show ObjOk X.prog X.w H1 s1.heap p (.frz ob u) from I1.hok p _ hp).1
  refine ⟨"tuple", id, pa, slot, hty, ⟨ob, hg, hc⟩, (fun a e => by cases e; exact ⟨ob, hg, hd⟩), ?_⟩
  have hA := ha.run cpos pins s1 σ H1 _ I1 q1
  rw [hs] at hA ⊢
  refine Calls.callWith_builtin (by show (false || (backTo cpos (starEach es X.env)).any (·.1)) = false; rw [hplain] <;> rfl) (Calls.evalArgs_plain ?_)
  exact thn hA fun us s2 ⟨vs, H2, I2, r2, q2⟩ => hm pins s2 σ H2 (.ref p) vs (.ref p) us Q I2 rfl r2 q2
end L2
namespace AW
open PySem PySem.Spec PyProof.Rows L2
section
variable {c : Cw} {kn : Hp} {n : Nat} {σ : L2.St} {Q : V → Hp → Nat → Prop} {K : PySem.W.Frag}
theorem r_tcnt {p : Addr} {bs : List Bool} {b : Bool} (h : kn p = some (.tup (bs.map V.bl))) (q : Q (.int (bs.count b : Nat)) kn n) : W c (rCntT K (.ref p) [.bl b]) kn n Q :=
  fun H g _ k => ⟨p, bs, b, rfl, rfl, sqt (g.ex _ _ h), k _ kn n H q g⟩
theorem r_slF {p : Addr} {xs : List V} {lo hi : Option Int} (h : kn p = some (.tup xs)) (hw : ¬ (HT.sIx xs.length 0 lo = 0 ∧ HT.sIx xs.length xs.length hi = xs.length)) (q : ∀ l (o : Obj), o.cls = .type "tuple" → o.dict = none → kn l = none → Q (.ref l) (upd kn l (.frz o (.tup (cutV xs lo hi)))) n) : W c (rSlF K (.ref p) lo hi) kn n Q :=
  fun H g _ k => ⟨p, xs, rfl, sqt (g.ex _ _ h), hw, fun l o h1 h2 hl => k _ _ _ _ (q l o h1 h2 (g.free hl)) (g.new hl)⟩
/-- t.count(b) of a tuple that was just cut -/
theorem w_tcnt {to : TE} {t : TA} (h : W c (to σ) kn n fun x kn1 n1 => ∃ (p : Addr) (o : Obj) (bs : List Bool), x = .ref p ∧ kn1 p = some (.frz o (.tup (bs.map V.bl))) ∧ o.cls = .type "tuple" ∧ o.dict = none ∧ W c (t σ) kn1 n1 fun xs kn2 n2 => ∃ b, xs = [.bl b] ∧ kn2 p = some (.frz o (.tup (bs.map V.bl))) ∧ Q (.int (bs.count b : Nat)) kn2 n2) : W c (tBMF K (rCntT K) to t σ) kn n Q :=
  fun H g Q' k => h H g _ fun x kn1 n1 H1 ⟨p, o, bs, ex, hp, hc, hd, h1⟩ g1 => ⟨⟨p, o, _, ex, g1.ex _ _ hp, hc, hd⟩, h1 H1 g1 _ fun xs kn2 n2 H2 ⟨b, e2, hp2, h2⟩ g2 => ⟨p, bs, b, ex, e2, .inl (.inr ⟨o, g2.ex _ _ hp2⟩), k _ _ _ _ h2 g2⟩⟩
/-- divmod -/
theorem r_divmod {i j : Int} (h : CDiv i j) (q : ∀ p, kn p = none → Q (.ref p) (upd kn p (.tup [.int (i / j), .int (i % j)])) n) : W c ((fun xs H Q => ∃ i j, xs = [V.int i, .int j] ∧ CDiv i j ∧ ∀ p, H p = none → Q (.ref p) (upd H p (.tup [.int (i / j), .int (i % j)])) : List V → Hp → VK → Prop) [.int i, .int j]) kn n Q :=
  fun H g _ k => ⟨i, j, rfl, h, fun p hp => k _ _ _ _ (q p (g.free hp)) (g.new hp)⟩
end
end AW

namespace NN
open PySem PySem.Spec PyProof.Rows L2 LamX AW ClX
def codeTab : Obj → Option Addr
  | ⟨.type "code", _, .fields vs, _⟩ => match (vs[11]? : Option Value) with | some (.ref P) => some P | _ => none
  | _ => none
def codeB (o : Obj) (c P : Addr) : Bool := PySem.W.codeHdIn [(c, o)] c P
theorem codeB_in {K : PySem.W.Frag} {o : Obj} {c P : Addr} (h : K.lookup c = some o) (e : codeB o c P = true) : PySem.W.codeHdIn K c P = true := by
  have q : ([(c, o)] : PySem.W.Frag).lookup c = some o := by simp [List.lookup]
  unfold codeB PySem.W.codeHdIn at e
  rw [q] at e
  unfold PySem.W.codeHdIn
  rw [h]
  exact e
theorem mem_look {β : Type} : ∀ {l : List (Addr × β)} {a : Addr} {b : β}, l.lookup a = some b → (a, b) ∈ l
  | [], _, _, e => by cases e
  | (c, x) :: r, a, b, e => by
    rw [List.lookup_cons] at e
    cases hb : a == c with
    | true => rw [hb] at e; cases e; rw [eq_of_beq hb]; exact .head _
    | false => rw [hb] at e; exact .tail _ (mem_look e)
theorem none_of {K : Params → PySem.W.Frag} {as : List Addr} {e : ∀ P, as = (K P).map (·.1)} {ts : List Addr} {w : World} {h : Heap} (_ : (PySem.W.kmHook K as e ts).says w h) {a : Addr} (ha : decide (a ∈ as) = false) : (K w.params).lookup a = none := by
  cases q : (K w.params).lookup a with
  | none => rfl
  | some o =>
    have m : a ∈ as := by rw [e w.params]; exact List.mem_map.mpr ⟨(a, o), mem_look q, rfl⟩
    exact absurd m (of_decide_eq_false ha)
def top (i : Nat) : Stmt := PySem.Challenge.pw_nodeadnight_k10_whole_sets_that_come_rou.main.body.getD i (.Pass ⟨0, 0, 0, 0⟩)
abbrev s_is_whole : Stmt := top 3
theorem sc_is_whole : FnScope ["value"] ["value"] (defScope s_is_whole) :=
  ⟨rfl, rfl, rfl, by decide +kernel, rfl, by decide +kernel, by decide +kernel⟩
abbrev s_is_from : Stmt := top 4
theorem sc_is_from : FnScope ["value", "least", "most"] ["value", "least", "most"] (defScope s_is_from) :=
  ⟨rfl, rfl, rfl, by decide +kernel, rfl, by decide +kernel, by decide +kernel⟩
abbrev s_are_from : Stmt := top 5
theorem sc_are_from : FnScope ["values", "least", "most", "value"] ["values", "least", "most"] (defScope s_are_from) :=
  ⟨rfl, rfl, rfl, by decide +kernel, rfl, by decide +kernel, by decide +kernel⟩
abbrev s_read_number : Stmt := top 6
theorem sc_read_number : FnScope ["word", "digits", "number"] ["word"] (defScope s_read_number) :=
  ⟨rfl, rfl, rfl, by decide +kernel, rfl, by decide +kernel, by decide +kernel⟩
abbrev s_marked : Stmt := top 7
theorem sc_marked : FnScope ["size", "numbers", "marks", "n"] ["size", "numbers"] (defScope s_marked) :=
  ⟨rfl, rfl, rfl, by decide +kernel, rfl, by decide +kernel, by decide +kernel⟩
abbrev s_least_period : Stmt := top 8
theorem sc_least_period : FnScope ["turn", "size", "period"] ["turn"] (defScope s_least_period) :=
  ⟨rfl, rfl, rfl, by decide +kernel, rfl, by decide +kernel, by decide +kernel⟩
abbrev s_Lengths___init__ : Stmt := inClass (top 18) 1
theorem sc_Lengths___init__ : FnScope ["self", "start", "low", "period", "rests", "near", "turn", "step", "astray", "n", "begin"] ["self", "start", "low", "period", "rests"] (defScope s_Lengths___init__) :=
  ⟨rfl, rfl, rfl, by decide +kernel, rfl, by decide +kernel, by decide +kernel⟩
abbrev s_Lengths_start : Stmt := inClass (top 18) 2
theorem sc_Lengths_start : FnScope ["self"] ["self"] (defScope s_Lengths_start) :=
  ⟨rfl, rfl, rfl, by decide +kernel, rfl, by decide +kernel, by decide +kernel⟩
abbrev s_Lengths_period : Stmt := inClass (top 18) 3
theorem sc_Lengths_period : FnScope ["self"] ["self"] (defScope s_Lengths_period) :=
  ⟨rfl, rfl, rfl, by decide +kernel, rfl, by decide +kernel, by decide +kernel⟩
abbrev s_Lengths_low : Stmt := inClass (top 18) 4
theorem sc_Lengths_low : FnScope ["self"] ["self"] (defScope s_Lengths_low) :=
  ⟨rfl, rfl, rfl, by decide +kernel, rfl, by decide +kernel, by decide +kernel⟩
abbrev s_Lengths_rests : Stmt := inClass (top 18) 5
theorem sc_Lengths_rests : FnScope ["self"] ["self"] (defScope s_Lengths_rests) :=
  ⟨rfl, rfl, rfl, by decide +kernel, rfl, by decide +kernel, by decide +kernel⟩
abbrev s_Lengths_is_finite : Stmt := inClass (top 18) 6
theorem sc_Lengths_is_finite : FnScope ["self"] ["self"] (defScope s_Lengths_is_finite) :=
  ⟨rfl, rfl, rfl, by decide +kernel, rfl, by decide +kernel, by decide +kernel⟩
abbrev s_Lengths_last_gap : Stmt := inClass (top 18) 8
theorem sc_Lengths_last_gap : FnScope ["self"] ["self"] (defScope s_Lengths_last_gap) :=
  ⟨rfl, rfl, rfl, by decide +kernel, rfl, by decide +kernel, by decide +kernel⟩
abbrev s_Lengths_of : Stmt := inClass (top 18) 9
theorem sc_Lengths_of : FnScope ["numbers", "number"] ["numbers"] (defScope s_Lengths_of) :=
  ⟨rfl, rfl, rfl, by decide +kernel, rfl, by decide +kernel, by decide +kernel⟩
abbrev s_Lengths_since : Stmt := inClass (top 18) 10
theorem sc_Lengths_since : FnScope ["least"] ["least"] (defScope s_Lengths_since) :=
  ⟨rfl, rfl, rfl, by decide +kernel, rfl, by decide +kernel, by decide +kernel⟩
abbrev s_Lengths_steps : Stmt := inClass (top 18) 11
theorem sc_Lengths_steps : FnScope ["first", "by"] ["first", "by"] (defScope s_Lengths_steps) :=
  ⟨rfl, rfl, rfl, by decide +kernel, rfl, by decide +kernel, by decide +kernel⟩
abbrev s_Lengths_every : Stmt := inClass (top 18) 12
theorem sc_Lengths_every : FnScope [] [] (defScope s_Lengths_every) :=
  ⟨rfl, rfl, rfl, by decide +kernel, rfl, by decide +kernel, by decide +kernel⟩
abbrev s_Lengths_none : Stmt := inClass (top 18) 13
theorem sc_Lengths_none : FnScope [] [] (defScope s_Lengths_none) :=
  ⟨rfl, rfl, rfl, by decide +kernel, rfl, by decide +kernel, by decide +kernel⟩
abbrev s_Lengths_read : Stmt := inClass (top 18) 14
theorem sc_Lengths_read : FnScope ["cls", "text", "lengths"] ["cls", "text"] (defScope s_Lengths_read) :=
  ⟨rfl, rfl, rfl, by decide +kernel, rfl, by decide +kernel, by decide +kernel⟩
abbrev s_Lengths___contains__ : Stmt := inClass (top 18) 15
theorem sc_Lengths___contains__ : FnScope ["self", "x"] ["self", "x"] (defScope s_Lengths___contains__) :=
  ⟨rfl, rfl, rfl, by decide +kernel, rfl, by decide +kernel, by decide +kernel⟩
abbrev s_Lengths_at_least : Stmt := inClass (top 18) 16
theorem sc_Lengths_at_least : FnScope ["self", "n", "k"] ["self", "n"] (defScope s_Lengths_at_least) :=
  ⟨rfl, rfl, rfl, by decide +kernel, rfl, by decide +kernel, by decide +kernel⟩
abbrev s_Lengths_below : Stmt := inClass (top 18) 17
theorem sc_Lengths_below : FnScope ["self", "n", "turns", "rest", "last"] ["self", "n"] (defScope s_Lengths_below) :=
  ⟨rfl, rfl, rfl, by decide +kernel, rfl, by decide +kernel, by decide +kernel⟩
abbrev s_Lengths___and__ : Stmt := inClass (top 18) 19
theorem sc_Lengths___and__ : FnScope ["self", "other", "start", "period", "n"] ["self", "other"] (defScope s_Lengths___and__) :=
  ⟨rfl, rfl, rfl, by decide +kernel, rfl, by decide +kernel, by decide +kernel⟩
abbrev s_Lengths___or__ : Stmt := inClass (top 18) 20
theorem sc_Lengths___or__ : FnScope ["self", "other", "start", "period", "n"] ["self", "other"] (defScope s_Lengths___or__) :=
  ⟨rfl, rfl, rfl, by decide +kernel, rfl, by decide +kernel, by decide +kernel⟩
abbrev s_Lengths___sub__ : Stmt := inClass (top 18) 21
theorem sc_Lengths___sub__ : FnScope ["self", "other", "start", "period", "n"] ["self", "other"] (defScope s_Lengths___sub__) :=
  ⟨rfl, rfl, rfl, by decide +kernel, rfl, by decide +kernel, by decide +kernel⟩
abbrev s_Lengths___invert__ : Stmt := inClass (top 18) 22
theorem sc_Lengths___invert__ : FnScope ["self", "start", "period", "n"] ["self"] (defScope s_Lengths___invert__) :=
  ⟨rfl, rfl, rfl, by decide +kernel, rfl, by decide +kernel, by decide +kernel⟩
abbrev s_Lengths___le__ : Stmt := inClass (top 18) 23
theorem sc_Lengths___le__ : FnScope ["self", "other"] ["self", "other"] (defScope s_Lengths___le__) :=
  ⟨rfl, rfl, rfl, by decide +kernel, rfl, by decide +kernel, by decide +kernel⟩
abbrev s_Lengths___lt__ : Stmt := inClass (top 18) 24
theorem sc_Lengths___lt__ : FnScope ["self", "other"] ["self", "other"] (defScope s_Lengths___lt__) :=
  ⟨rfl, rfl, rfl, by decide +kernel, rfl, by decide +kernel, by decide +kernel⟩
abbrev s_Lengths___ge__ : Stmt := inClass (top 18) 25
theorem sc_Lengths___ge__ : FnScope ["self", "other"] ["self", "other"] (defScope s_Lengths___ge__) :=
  ⟨rfl, rfl, rfl, by decide +kernel, rfl, by decide +kernel, by decide +kernel⟩
abbrev s_Lengths___gt__ : Stmt := inClass (top 18) 26
theorem sc_Lengths___gt__ : FnScope ["self", "other"] ["self", "other"] (defScope s_Lengths___gt__) :=
  ⟨rfl, rfl, rfl, by decide +kernel, rfl, by decide +kernel, by decide +kernel⟩
abbrev s_Lengths___eq__ : Stmt := inClass (top 18) 27
theorem sc_Lengths___eq__ : FnScope ["self", "other"] ["self", "other"] (defScope s_Lengths___eq__) :=
  ⟨rfl, rfl, rfl, by decide +kernel, rfl, by decide +kernel, by decide +kernel⟩
abbrev s_Lengths___bool__ : Stmt := inClass (top 18) 28
theorem sc_Lengths___bool__ : FnScope ["self"] ["self"] (defScope s_Lengths___bool__) :=
  ⟨rfl, rfl, rfl, by decide +kernel, rfl, by decide +kernel, by decide +kernel⟩
abbrev s_Lengths___str__ : Stmt := inClass (top 18) 29
theorem sc_Lengths___str__ : FnScope ["self", "words", "n", "rests"] ["self"] (defScope s_Lengths___str__) :=
  ⟨rfl, rfl, rfl, by decide +kernel, rfl, by decide +kernel, by decide +kernel⟩
abbrev s_check_parts : Stmt := top 19
theorem sc_check_parts : FnScope ["start", "low", "period", "rests"] ["start", "low", "period", "rests"] (defScope s_check_parts) :=
  ⟨rfl, rfl, rfl, by decide +kernel, rfl, by decide +kernel, by decide +kernel⟩
abbrev s_check_size : Stmt := top 20
theorem sc_check_size : FnScope ["start", "period"] ["start", "period"] (defScope s_check_size) :=
  ⟨rfl, rfl, rfl, by decide +kernel, rfl, by decide +kernel, by decide +kernel⟩
abbrev s_check_argument : Stmt := top 21
theorem sc_check_argument : FnScope ["value", "least", "most"] ["value", "least", "most"] (defScope s_check_argument) :=
  ⟨rfl, rfl, rfl, by decide +kernel, rfl, by decide +kernel, by decide +kernel⟩
abbrev s_check_number : Stmt := top 22
theorem sc_check_number : FnScope ["value"] ["value"] (defScope s_check_number) :=
  ⟨rfl, rfl, rfl, by decide +kernel, rfl, by decide +kernel, by decide +kernel⟩
abbrev s_common_form : Stmt := top 23
theorem sc_common_form : FnScope ["one", "other", "start", "period"] ["one", "other"] (defScope s_common_form) :=
  ⟨rfl, rfl, rfl, by decide +kernel, rfl, by decide +kernel, by decide +kernel⟩
abbrev s_gathered : Stmt := top 24
theorem sc_gathered : FnScope ["start", "period", "numbers", "low", "n"] ["start", "period", "numbers"] (defScope s_gathered) :=
  ⟨rfl, rfl, rfl, by decide +kernel, rfl, by decide +kernel, by decide +kernel⟩
abbrev s_have_common : Stmt := top 25
theorem sc_have_common : FnScope ["one", "other", "n", "step"] ["one", "other"] (defScope s_have_common) :=
  ⟨rfl, rfl, rfl, by decide +kernel, rfl, by decide +kernel, by decide +kernel⟩
abbrev s_read_parts : Stmt := top 26
theorem sc_read_parts : FnScope ["text", "words", "word", "at", "low", "form", "start", "period", "rests"] ["text"] (defScope s_read_parts) :=
  ⟨rfl, rfl, rfl, by decide +kernel, rfl, by decide +kernel, by decide +kernel⟩
abbrev s__law_pen : Stmt := top 28
theorem sc__law_pen : FnScope ["script"] ["script"] (defScope s__law_pen) :=
  ⟨rfl, rfl, rfl, by decide +kernel, rfl, by decide +kernel, by decide +kernel⟩
abbrev s__law_draw : Stmt := top 29
theorem sc__law_draw : FnScope ["pen", "many", "digit", "at", "cell", "great", "mixed"] ["pen", "many"] (defScope s__law_draw) :=
  ⟨rfl, rfl, rfl, by decide +kernel, rfl, by decide +kernel, by decide +kernel⟩
abbrev s__law_pick : Stmt := top 30
theorem sc__law_pick : FnScope ["pen", "some"] ["pen", "some"] (defScope s__law_pick) :=
  ⟨rfl, rfl, rfl, by decide +kernel, rfl, by decide +kernel, by decide +kernel⟩
abbrev s__law_set : Stmt := top 31
theorem sc__law_set : FnScope ["pen", "way", "head", "size", "few", "n", "rest"] ["pen"] (defScope s__law_set) :=
  ⟨rfl, rfl, rfl, by decide +kernel, rfl, by decide +kernel, by decide +kernel⟩
abbrev s__law_far : Stmt := top 32
theorem sc__law_far : FnScope ["pen"] ["pen"] (defScope s__law_far) :=
  ⟨rfl, rfl, rfl, by decide +kernel, rfl, by decide +kernel, by decide +kernel⟩
abbrev s__law_sets_right : Stmt := top 33
theorem sc__law_sets_right : FnScope ["one", "other", "third"] ["one", "other", "third"] (defScope s__law_sets_right) :=
  ⟨rfl, rfl, rfl, by decide +kernel, rfl, by decide +kernel, by decide +kernel⟩
abbrev s__law_numbers_right : Stmt := top 34
theorem sc__law_numbers_right : FnScope ["pen", "one", "other", "n", "here", "there", "both", "later"] ["pen", "one", "other"] (defScope s__law_numbers_right) :=
  ⟨rfl, rfl, rfl, by decide +kernel, rfl, by decide +kernel, by decide +kernel⟩
abbrev s__law_parts_right : Stmt := top 35
theorem sc__law_parts_right : FnScope ["one", "made", "n", "rest", "begin"] ["one"] (defScope s__law_parts_right) :=
  ⟨rfl, rfl, rfl, by decide +kernel, rfl, by decide +kernel, by decide +kernel⟩
abbrev s_law : Stmt := top 36
theorem sc_law : FnScope ["script", "pen", "turn", "one", "other", "third"] ["script"] (defScope s_law) :=
  ⟨rfl, rfl, rfl, by decide +kernel, rfl, by decide +kernel, by decide +kernel⟩
structure Tx (K : PySem.W.Frag) (mg : Str → Option Value) where
  f_is_whole : Addr
  d_is_whole : FuncData
  f_is_from : Addr
  d_is_from : FuncData
  f_are_from : Addr
  d_are_from : FuncData
  f_read_number : Addr
  d_read_number : FuncData
  f_marked : Addr
  d_marked : FuncData
  f_least_period : Addr
  d_least_period : FuncData
  f_check_parts : Addr
  d_check_parts : FuncData
  f_check_size : Addr
  d_check_size : FuncData
  f_check_argument : Addr
  d_check_argument : FuncData
  f_check_number : Addr
  d_check_number : FuncData
  f_common_form : Addr
  d_common_form : FuncData
  f_gathered : Addr
  d_gathered : FuncData
  f_have_common : Addr
  d_have_common : FuncData
  f_read_parts : Addr
  d_read_parts : FuncData
  c_Lengths : Addr
  f_Lengths___init__ : Addr
  d_Lengths___init__ : FuncData
  dl_Lengths___init__ : Addr
  dr_Lengths___init__ : Addr
  f_Lengths___eq__ : Addr
  d_Lengths___eq__ : FuncData
  f_Lengths___contains__ : Addr
  d_Lengths___contains__ : FuncData
  f_Lengths___and__ : Addr
  d_Lengths___and__ : FuncData
  f_Lengths___or__ : Addr
  d_Lengths___or__ : FuncData
  f_Lengths___sub__ : Addr
  d_Lengths___sub__ : FuncData
  f_Lengths___invert__ : Addr
  d_Lengths___invert__ : FuncData
  f_Lengths___le__ : Addr
  d_Lengths___le__ : FuncData
  f_Lengths___lt__ : Addr
  d_Lengths___lt__ : FuncData
  f_Lengths___ge__ : Addr
  d_Lengths___ge__ : FuncData
  f_Lengths___gt__ : Addr
  d_Lengths___gt__ : FuncData
  f_Lengths___bool__ : Addr
  d_Lengths___bool__ : FuncData
  f_Lengths___str__ : Addr
  d_Lengths___str__ : FuncData
  f_Lengths_at_least : Addr
  d_Lengths_at_least : FuncData
  f_Lengths_below : Addr
  d_Lengths_below : FuncData
  f_Lengths_read : Addr
  p_Lengths_read : Addr
  d_Lengths_read : FuncData
  f_Lengths_none : Addr
  p_Lengths_none : Addr
  d_Lengths_none : FuncData
  f_Lengths_every : Addr
  p_Lengths_every : Addr
  d_Lengths_every : FuncData
  f_Lengths_of : Addr
  p_Lengths_of : Addr
  d_Lengths_of : FuncData
  f_Lengths_since : Addr
  p_Lengths_since : Addr
  d_Lengths_since : FuncData
  f_Lengths_steps : Addr
  p_Lengths_steps : Addr
  d_Lengths_steps : FuncData
  f_Lengths_start : Addr
  p_Lengths_start : Addr
  d_Lengths_start : FuncData
  f_Lengths_period : Addr
  p_Lengths_period : Addr
  d_Lengths_period : FuncData
  f_Lengths_low : Addr
  p_Lengths_low : Addr
  d_Lengths_low : FuncData
  f_Lengths_rests : Addr
  p_Lengths_rests : Addr
  d_Lengths_rests : FuncData
  f_Lengths_is_finite : Addr
  p_Lengths_is_finite : Addr
  d_Lengths_is_finite : FuncData
  f_Lengths_last_gap : Addr
  p_Lengths_last_gap : Addr
  d_Lengths_last_gap : FuncData
  f__law_pen : Addr
  d__law_pen : FuncData
  f__law_draw : Addr
  d__law_draw : FuncData
  f__law_pick : Addr
  d__law_pick : FuncData
  f__law_set : Addr
  d__law_set : FuncData
  f__law_far : Addr
  d__law_far : FuncData
  f__law_sets_right : Addr
  d__law_sets_right : FuncData
  f__law_numbers_right : Addr
  d__law_numbers_right : FuncData
  f__law_parts_right : Addr
  d__law_parts_right : FuncData
  f_law : Addr
  d_law : FuncData
  g_is_whole : mg "is_whole" = some (.ref f_is_whole)
  F_is_whole : Fun K "is_whole" "is_whole" s_is_whole f_is_whole d_is_whole
  bd_is_whole : Binds K d_is_whole ["value"] []
  g_is_from : mg "is_from" = some (.ref f_is_from)
  F_is_from : Fun K "is_from" "is_from" s_is_from f_is_from d_is_from
  bd_is_from : Binds K d_is_from ["value", "least", "most"] []
  g_are_from : mg "are_from" = some (.ref f_are_from)
  F_are_from : Fun K "are_from" "are_from" s_are_from f_are_from d_are_from
  bd_are_from : Binds K d_are_from ["values", "least", "most"] []
  g_read_number : mg "read_number" = some (.ref f_read_number)
  F_read_number : Fun K "read_number" "read_number" s_read_number f_read_number d_read_number
  bd_read_number : Binds K d_read_number ["word"] []
  g_marked : mg "marked" = some (.ref f_marked)
  F_marked : Fun K "marked" "marked" s_marked f_marked d_marked
  bd_marked : Binds K d_marked ["size", "numbers"] []
  g_least_period : mg "least_period" = some (.ref f_least_period)
  F_least_period : Fun K "least_period" "least_period" s_least_period f_least_period d_least_period
  bd_least_period : Binds K d_least_period ["turn"] []
  g_check_parts : mg "check_parts" = some (.ref f_check_parts)
  F_check_parts : Fun K "check_parts" "check_parts" s_check_parts f_check_parts d_check_parts
  bd_check_parts : Binds K d_check_parts ["start", "low", "period", "rests"] []
  g_check_size : mg "check_size" = some (.ref f_check_size)
  F_check_size : Fun K "check_size" "check_size" s_check_size f_check_size d_check_size
  bd_check_size : Binds K d_check_size ["start", "period"] []
  g_check_argument : mg "check_argument" = some (.ref f_check_argument)
  F_check_argument : Fun K "check_argument" "check_argument" s_check_argument f_check_argument d_check_argument
  bd_check_argument : Binds K d_check_argument ["value", "least", "most"] []
  g_check_number : mg "check_number" = some (.ref f_check_number)
  F_check_number : Fun K "check_number" "check_number" s_check_number f_check_number d_check_number
  bd_check_number : Binds K d_check_number ["value"] []
  g_common_form : mg "common_form" = some (.ref f_common_form)
  F_common_form : Fun K "common_form" "common_form" s_common_form f_common_form d_common_form
  bd_common_form : Binds K d_common_form ["one", "other"] []
  g_gathered : mg "gathered" = some (.ref f_gathered)
  F_gathered : Fun K "gathered" "gathered" s_gathered f_gathered d_gathered
  bd_gathered : Binds K d_gathered ["start", "period", "numbers"] []
  g_have_common : mg "have_common" = some (.ref f_have_common)
  F_have_common : Fun K "have_common" "have_common" s_have_common f_have_common d_have_common
  bd_have_common : Binds K d_have_common ["one", "other"] []
  g_read_parts : mg "read_parts" = some (.ref f_read_parts)
  F_read_parts : Fun K "read_parts" "read_parts" s_read_parts f_read_parts d_read_parts
  bd_read_parts : Binds K d_read_parts ["text"] []
  g_Lengths : mg "Lengths" = some (.ref c_Lengths)
  cl_Lengths : Cls K c_Lengths
  own_Lengths : OwnC K c_Lengths
  na_Lengths__start : NoAttr K c_Lengths "_start"
  na_Lengths__period : NoAttr K c_Lengths "_period"
  na_Lengths__low : NoAttr K c_Lengths "_low"
  na_Lengths__rests : NoAttr K c_Lengths "_rests"
  na_Lengths__marks : NoAttr K c_Lengths "_marks"
  fi_Lengths___init__ : PySem.W.findIn K (.ref c_Lengths) "__init__" = some (some (.ref f_Lengths___init__))
  kt_dl_Lengths___init__ : KTup K dl_Lengths___init__ []
  kt_dr_Lengths___init__ : KTup K dr_Lengths___init__ []
  F_Lengths___init__ : FunD K "__init__" "Lengths.__init__" (defArgs s_Lengths___init__) (defBody s_Lengths___init__) (defScope s_Lengths___init__) [.ref dl_Lengths___init__, .int 1, .ref dr_Lengths___init__] [] f_Lengths___init__ d_Lengths___init__
  bd1_Lengths : ∃ ds, Vals ([V.ref dl_Lengths___init__, .int 1, .ref dr_Lengths___init__].drop 0) ds ∧ Binds K d_Lengths___init__ ["self", "start", "low", "period", "rests"] ds
  bd2_Lengths : ∃ ds, Vals ([V.ref dl_Lengths___init__, .int 1, .ref dr_Lengths___init__].drop 1) ds ∧ Binds K d_Lengths___init__ ["self", "start", "low", "period", "rests"] ds
  bd4_Lengths : ∃ ds, Vals ([V.ref dl_Lengths___init__, .int 1, .ref dr_Lengths___init__].drop 3) ds ∧ Binds K d_Lengths___init__ ["self", "start", "low", "period", "rests"] ds
  fi_Lengths___eq__ : PySem.W.findIn K (.ref c_Lengths) "__eq__" = some (some (.ref f_Lengths___eq__))
  isf_Lengths___eq__ : PySem.W.isFn K (.ref f_Lengths___eq__) = true
  F_Lengths___eq__ : Fun K "__eq__" "Lengths.__eq__" s_Lengths___eq__ f_Lengths___eq__ d_Lengths___eq__
  bd_Lengths___eq__ : Binds K d_Lengths___eq__ ["self", "other"] []
  fi_Lengths___contains__ : PySem.W.findIn K (.ref c_Lengths) "__contains__" = some (some (.ref f_Lengths___contains__))
  isf_Lengths___contains__ : PySem.W.isFn K (.ref f_Lengths___contains__) = true
  F_Lengths___contains__ : Fun K "__contains__" "Lengths.__contains__" s_Lengths___contains__ f_Lengths___contains__ d_Lengths___contains__
  bd_Lengths___contains__ : Binds K d_Lengths___contains__ ["self", "x"] []
  fi_Lengths___and__ : PySem.W.findIn K (.ref c_Lengths) "__and__" = some (some (.ref f_Lengths___and__))
  isf_Lengths___and__ : PySem.W.isFn K (.ref f_Lengths___and__) = true
  F_Lengths___and__ : Fun K "__and__" "Lengths.__and__" s_Lengths___and__ f_Lengths___and__ d_Lengths___and__
  bd_Lengths___and__ : Binds K d_Lengths___and__ ["self", "other"] []
  fi_Lengths___or__ : PySem.W.findIn K (.ref c_Lengths) "__or__" = some (some (.ref f_Lengths___or__))
  isf_Lengths___or__ : PySem.W.isFn K (.ref f_Lengths___or__) = true
  F_Lengths___or__ : Fun K "__or__" "Lengths.__or__" s_Lengths___or__ f_Lengths___or__ d_Lengths___or__
  bd_Lengths___or__ : Binds K d_Lengths___or__ ["self", "other"] []
  fi_Lengths___sub__ : PySem.W.findIn K (.ref c_Lengths) "__sub__" = some (some (.ref f_Lengths___sub__))
  isf_Lengths___sub__ : PySem.W.isFn K (.ref f_Lengths___sub__) = true
  F_Lengths___sub__ : Fun K "__sub__" "Lengths.__sub__" s_Lengths___sub__ f_Lengths___sub__ d_Lengths___sub__
  bd_Lengths___sub__ : Binds K d_Lengths___sub__ ["self", "other"] []
  fi_Lengths___invert__ : PySem.W.findIn K (.ref c_Lengths) "__invert__" = some (some (.ref f_Lengths___invert__))
  isf_Lengths___invert__ : PySem.W.isFn K (.ref f_Lengths___invert__) = true
  F_Lengths___invert__ : Fun K "__invert__" "Lengths.__invert__" s_Lengths___invert__ f_Lengths___invert__ d_Lengths___invert__
  bd_Lengths___invert__ : Binds K d_Lengths___invert__ ["self"] []
  fi_Lengths___le__ : PySem.W.findIn K (.ref c_Lengths) "__le__" = some (some (.ref f_Lengths___le__))
  isf_Lengths___le__ : PySem.W.isFn K (.ref f_Lengths___le__) = true
  F_Lengths___le__ : Fun K "__le__" "Lengths.__le__" s_Lengths___le__ f_Lengths___le__ d_Lengths___le__
  bd_Lengths___le__ : Binds K d_Lengths___le__ ["self", "other"] []
  fi_Lengths___lt__ : PySem.W.findIn K (.ref c_Lengths) "__lt__" = some (some (.ref f_Lengths___lt__))
  isf_Lengths___lt__ : PySem.W.isFn K (.ref f_Lengths___lt__) = true
  F_Lengths___lt__ : Fun K "__lt__" "Lengths.__lt__" s_Lengths___lt__ f_Lengths___lt__ d_Lengths___lt__
  bd_Lengths___lt__ : Binds K d_Lengths___lt__ ["self", "other"] []
  fi_Lengths___ge__ : PySem.W.findIn K (.ref c_Lengths) "__ge__" = some (some (.ref f_Lengths___ge__))
  isf_Lengths___ge__ : PySem.W.isFn K (.ref f_Lengths___ge__) = true
  F_Lengths___ge__ : Fun K "__ge__" "Lengths.__ge__" s_Lengths___ge__ f_Lengths___ge__ d_Lengths___ge__
  bd_Lengths___ge__ : Binds K d_Lengths___ge__ ["self", "other"] []
  fi_Lengths___gt__ : PySem.W.findIn K (.ref c_Lengths) "__gt__" = some (some (.ref f_Lengths___gt__))
  isf_Lengths___gt__ : PySem.W.isFn K (.ref f_Lengths___gt__) = true
  F_Lengths___gt__ : Fun K "__gt__" "Lengths.__gt__" s_Lengths___gt__ f_Lengths___gt__ d_Lengths___gt__
  bd_Lengths___gt__ : Binds K d_Lengths___gt__ ["self", "other"] []
  fi_Lengths___bool__ : PySem.W.findIn K (.ref c_Lengths) "__bool__" = some (some (.ref f_Lengths___bool__))
  isf_Lengths___bool__ : PySem.W.isFn K (.ref f_Lengths___bool__) = true
  F_Lengths___bool__ : Fun K "__bool__" "Lengths.__bool__" s_Lengths___bool__ f_Lengths___bool__ d_Lengths___bool__
  bd_Lengths___bool__ : Binds K d_Lengths___bool__ ["self"] []
  fi_Lengths___str__ : PySem.W.findIn K (.ref c_Lengths) "__str__" = some (some (.ref f_Lengths___str__))
  isf_Lengths___str__ : PySem.W.isFn K (.ref f_Lengths___str__) = true
  F_Lengths___str__ : Fun K "__str__" "Lengths.__str__" s_Lengths___str__ f_Lengths___str__ d_Lengths___str__
  bd_Lengths___str__ : Binds K d_Lengths___str__ ["self"] []
  fi_Lengths_at_least : PySem.W.findIn K (.ref c_Lengths) "at_least" = some (some (.ref f_Lengths_at_least))
  isf_Lengths_at_least : PySem.W.isFn K (.ref f_Lengths_at_least) = true
  F_Lengths_at_least : Fun K "at_least" "Lengths.at_least" s_Lengths_at_least f_Lengths_at_least d_Lengths_at_least
  bd_Lengths_at_least : Binds K d_Lengths_at_least ["self", "n"] []
  fi_Lengths_below : PySem.W.findIn K (.ref c_Lengths) "below" = some (some (.ref f_Lengths_below))
  isf_Lengths_below : PySem.W.isFn K (.ref f_Lengths_below) = true
  F_Lengths_below : Fun K "below" "Lengths.below" s_Lengths_below f_Lengths_below d_Lengths_below
  bd_Lengths_below : Binds K d_Lengths_below ["self", "n"] []
  cr_Lengths : CRead K c_Lengths (.type "type")
  F_Lengths_read : Fun K "read" "Lengths.read" s_Lengths_read f_Lengths_read d_Lengths_read
  bd_Lengths_read : Binds K d_Lengths_read ["cls", "text"] []
  cm_Lengths_read : CMet K c_Lengths (.type "type") "read" p_Lengths_read f_Lengths_read
  F_Lengths_none : Fun K "none" "Lengths.none" s_Lengths_none f_Lengths_none d_Lengths_none
  bd_Lengths_none : Binds K d_Lengths_none [] []
  sme_Lengths_none : SMet K c_Lengths (.type "type") "none" p_Lengths_none f_Lengths_none
  F_Lengths_every : Fun K "every" "Lengths.every" s_Lengths_every f_Lengths_every d_Lengths_every
  bd_Lengths_every : Binds K d_Lengths_every [] []
  sme_Lengths_every : SMet K c_Lengths (.type "type") "every" p_Lengths_every f_Lengths_every
  F_Lengths_of : Fun K "of" "Lengths.of" s_Lengths_of f_Lengths_of d_Lengths_of
  sme_Lengths_of : SMet K c_Lengths (.type "type") "of" p_Lengths_of f_Lengths_of
  F_Lengths_since : Fun K "since" "Lengths.since" s_Lengths_since f_Lengths_since d_Lengths_since
  bd_Lengths_since : Binds K d_Lengths_since ["least"] []
  sme_Lengths_since : SMet K c_Lengths (.type "type") "since" p_Lengths_since f_Lengths_since
  F_Lengths_steps : Fun K "steps" "Lengths.steps" s_Lengths_steps f_Lengths_steps d_Lengths_steps
  bd_Lengths_steps : Binds K d_Lengths_steps ["first", "by"] []
  sme_Lengths_steps : SMet K c_Lengths (.type "type") "steps" p_Lengths_steps f_Lengths_steps
  F_Lengths_start : Fun K "start" "Lengths.start" s_Lengths_start f_Lengths_start d_Lengths_start
  bd_Lengths_start : Binds K d_Lengths_start ["self"] []
  pp_Lengths_start : PropOf K c_Lengths "start" p_Lengths_start f_Lengths_start
  F_Lengths_period : Fun K "period" "Lengths.period" s_Lengths_period f_Lengths_period d_Lengths_period
  bd_Lengths_period : Binds K d_Lengths_period ["self"] []
  pp_Lengths_period : PropOf K c_Lengths "period" p_Lengths_period f_Lengths_period
  F_Lengths_low : Fun K "low" "Lengths.low" s_Lengths_low f_Lengths_low d_Lengths_low
  bd_Lengths_low : Binds K d_Lengths_low ["self"] []
  pp_Lengths_low : PropOf K c_Lengths "low" p_Lengths_low f_Lengths_low
  F_Lengths_rests : Fun K "rests" "Lengths.rests" s_Lengths_rests f_Lengths_rests d_Lengths_rests
  bd_Lengths_rests : Binds K d_Lengths_rests ["self"] []
  pp_Lengths_rests : PropOf K c_Lengths "rests" p_Lengths_rests f_Lengths_rests
  F_Lengths_is_finite : Fun K "is_finite" "Lengths.is_finite" s_Lengths_is_finite f_Lengths_is_finite d_Lengths_is_finite
  bd_Lengths_is_finite : Binds K d_Lengths_is_finite ["self"] []
  pp_Lengths_is_finite : PropOf K c_Lengths "is_finite" p_Lengths_is_finite f_Lengths_is_finite
  F_Lengths_last_gap : Fun K "last_gap" "Lengths.last_gap" s_Lengths_last_gap f_Lengths_last_gap d_Lengths_last_gap
  bd_Lengths_last_gap : Binds K d_Lengths_last_gap ["self"] []
  pp_Lengths_last_gap : PropOf K c_Lengths "last_gap" p_Lengths_last_gap f_Lengths_last_gap
  kit_Lengths : PySem.W.kitOne K (.ref c_Lengths) (.ref c_Lengths) = some true
  kit_NoneType_Lengths : PySem.W.kitOne K (.type "NoneType") (.ref c_Lengths) = some false
  kit_int_Lengths : PySem.W.kitOne K (.type "int") (.ref c_Lengths) = some false
  g_gcd : mg "gcd" = some (.builtin "math.gcd")
  g_lcm : mg "lcm" = some (.builtin "math.lcm")
  g__law_pen : mg "_law_pen" = some (.ref f__law_pen)
  F__law_pen : Fun K "_law_pen" "_law_pen" s__law_pen f__law_pen d__law_pen
  bd__law_pen : Binds K d__law_pen ["script"] []
  g__law_draw : mg "_law_draw" = some (.ref f__law_draw)
  F__law_draw : Fun K "_law_draw" "_law_draw" s__law_draw f__law_draw d__law_draw
  bd__law_draw : Binds K d__law_draw ["pen", "many"] []
  g__law_pick : mg "_law_pick" = some (.ref f__law_pick)
  F__law_pick : Fun K "_law_pick" "_law_pick" s__law_pick f__law_pick d__law_pick
  bd__law_pick : Binds K d__law_pick ["pen", "some"] []
  g__law_set : mg "_law_set" = some (.ref f__law_set)
  F__law_set : Fun K "_law_set" "_law_set" s__law_set f__law_set d__law_set
  bd__law_set : Binds K d__law_set ["pen"] []
  g__law_far : mg "_law_far" = some (.ref f__law_far)
  F__law_far : Fun K "_law_far" "_law_far" s__law_far f__law_far d__law_far
  bd__law_far : Binds K d__law_far ["pen"] []
  g__law_sets_right : mg "_law_sets_right" = some (.ref f__law_sets_right)
  F__law_sets_right : Fun K "_law_sets_right" "_law_sets_right" s__law_sets_right f__law_sets_right d__law_sets_right
  bd__law_sets_right : Binds K d__law_sets_right ["one", "other", "third"] []
  g__law_numbers_right : mg "_law_numbers_right" = some (.ref f__law_numbers_right)
  F__law_numbers_right : Fun K "_law_numbers_right" "_law_numbers_right" s__law_numbers_right f__law_numbers_right d__law_numbers_right
  bd__law_numbers_right : Binds K d__law_numbers_right ["pen", "one", "other"] []
  g__law_parts_right : mg "_law_parts_right" = some (.ref f__law_parts_right)
  F__law_parts_right : Fun K "_law_parts_right" "_law_parts_right" s__law_parts_right f__law_parts_right d__law_parts_right
  bd__law_parts_right : Binds K d__law_parts_right ["one"] []
  g_law : mg "law" = some (.ref f_law)
  F_law : Fun K "law" "law" s_law f_law d_law
  bd_law : Binds K d_law ["script"] []
  b_isinstance : mg "isinstance" = none
  b_int : mg "int" = none
  b_bool : mg "bool" = none
  b_len : mg "len" = none
  b_tuple : mg "tuple" = none
  b_range : mg "range" = none
  b_list : mg "list" = none
  b_abs : mg "abs" = none
  b_str : mg "str" = none
  b_all : mg "all" = none
  b_any : mg "any" = none
  b_max : mg "max" = none
  b_divmod : mg "divmod" = none
  g_DIGITS : ∃ t, mg "DIGITS" = some (.int 12 t)
  cv_Lengths_MOST : ∃ u, CVal K c_Lengths (.type "type") "MOST" (.int 400) u
  mk_Lengths : Mk K c_Lengths f_Lengths___init__
  me_Lengths_at_least : Meth K c_Lengths "at_least" f_Lengths_at_least
  me_Lengths_below : Meth K c_Lengths "below" f_Lengths_below
  eq_Lengths : EqM K c_Lengths f_Lengths___eq__
  sm_Lengths___contains__ : SpM K c_Lengths f_Lengths___contains__ "__contains__"
  sm_Lengths___str__ : SpM K c_Lengths f_Lengths___str__ "__str__"
  sm_Lengths___bool__ : SpM K c_Lengths f_Lengths___bool__ "__bool__"
  op_Lengths_and : OpM K .BitAnd c_Lengths f_Lengths___and__
  ip_Lengths_and : NoIp K .BitAnd c_Lengths
  op_Lengths_or : OpM K .BitOr c_Lengths f_Lengths___or__
  ip_Lengths_or : NoIp K .BitOr c_Lengths
  op_Lengths_sub : OpM K .Sub c_Lengths f_Lengths___sub__
  ip_Lengths_sub : NoIp K .Sub c_Lengths
  cm_Lengths_lt : CmpM K .Lt c_Lengths f_Lengths___lt__
  cm_Lengths_le : CmpM K .LtE c_Lengths f_Lengths___le__
  cm_Lengths_gt : CmpM K .Gt c_Lengths f_Lengths___gt__
  cm_Lengths_ge : CmpM K .GtE c_Lengths f_Lengths___ge__
end NN

open AW L2
-- what is known at an address
local macro_rules | `(tactic| walk_at "kn") => `(tactic| first
  | assumption
  | exact upd_same
  | ((with_reducible refine' keep2 ?h1 ?h2); (case h1 => first | assumption | (exact Ne.symm (by assumption))); (case h2 => walk_at "kn"))
  | ((with_reducible refine' know ?h1 ?h2); (case h1 => assumption); (case h2 => walk_at "kn"))
  | ((with_reducible refine' Ext.know ?h1 ?h2); (case h1 => assumption); (case h2 => walk_at "kn")))
-- one step
local macro_rules | `(tactic| walk_at "w1") => `(tactic| first
  | ((with_reducible refine' w_var ?hv ?_); (case hv => rfl))
  | with_reducible refine' w_c ?_
  | with_reducible refine' w_op ?_
  | with_reducible refine' r_I0 ?_
  | with_reducible refine' w_nil ?_
  | with_reducible refine' w_cons ?_
  | with_reducible refine' w_cb ?_
  | with_reducible refine' r_int1 ?_
  | with_reducible refine' r_int1b ?_
  | with_reducible refine' r_abs ?_
  | ((with_reducible refine' r_lenL ?h1 ?_); (case h1 => walk_at "kn"))
  | ((with_reducible refine' r_lenT ?h1 ?_); (case h1 => walk_at "kn"))
  | ((with_reducible refine' r_neV ?h1 ?_); (case h1 => rfl))
  | ((with_reducible refine' r_eqV ?h1 ?_); (case h1 => rfl))
  | ((with_reducible refine' r_eq ?h1 ?_); (case h1 => rfl))
  | ((with_reducible refine' r_ne ?h1 ?_); (case h1 => rfl))
  | ((with_reducible refine' r_ixL ?h1 ?h2 ?_); (case h1 => walk_at "kn"); (case h2 => rfl))
  | ((with_reducible refine' r_ixT ?h1 ?h2 ?_); (case h1 => walk_at "kn"); (case h2 => rfl))
  | with_reducible refine' w_test ?_
  | with_reducible refine' w_B ?_
  | with_reducible refine' w_un ?_
  | with_reducible refine' r_U ?_
  | with_reducible refine' w_and ?_
  | with_reducible refine' w_or ?_
  | with_reducible refine' w_not ?_
  | with_reducible refine' w_andV ?_
  | with_reducible refine' w_orV ?_
  | with_reducible refine' w_notV ?_
  | with_reducible refine' w_ifE ?_
  | with_reducible refine' r_isNt ?_
  | with_reducible refine' r_isNr ?_
  | with_reducible refine' w_chain ?_
  | with_reducible refine' w_tupRg ?_
  | with_reducible refine' w_joined ?_
  | with_reducible refine' w_js0 ?_
  | with_reducible refine' w_js ?_
  | with_reducible refine' w_cval ?_
  | with_reducible refine' s_fld ?_
  | with_reducible refine' w_tup ?_
  | with_reducible refine' w_lst ?_
  | with_reducible refine' w_sl ?_
  | with_reducible refine' w_part ?_
  | with_reducible refine' w_noPart ?_
  | with_reducible refine' s_seq ?_
  | with_reducible refine' s_next ?_
  | with_reducible refine' s_ret ?_
  | with_reducible refine' s_retN ?_
  | with_reducible refine' s_drop ?_
  | with_reducible refine' s_brk ?_
  | with_reducible refine' s_cont ?_
  | with_reducible refine' s_set ?_
  | with_reducible refine' s_asg ?_
  | with_reducible refine' s_par ?_
  | ((with_reducible refine' s_aug ?h1 ?_); (case h1 => rfl))
  | with_reducible refine' g_name ?_
  | with_reducible refine' g_cons ?_
  | with_reducible refine' g_nil ?_
  | with_reducible refine' g_set ?_
  | with_reducible refine' both_t ?_
  | with_reducible refine' both_f ?_
  | with_reducible refine' both_nt ?_
  | with_reducible refine' both_nf ?_
  | with_reducible refine' bor_t ?_
  | with_reducible refine' bor_f ?_
  | with_reducible refine' bor_nt ?_
  | with_reducible refine' bor_nf ?_
  | with_reducible refine' ⟨_, rfl, ?_⟩)
local macro_rules | `(tactic| walk_at "w") => `(tactic| repeat (first | walk_at "w1" | dsimp only))
local macro_rules | `(tactic| walk_at "if") => `(tactic| ((with_reducible refine' s_if ?_); walk_at "w"; refine ⟨fun hb => ?_, fun hb => ?_⟩))
local macro_rules | `(tactic| walk_at "wi") => `(tactic| repeat (first | walk_at "w1" | with_reducible refine' s_if ?_ | dsimp only))

namespace NN
open PySem PySem.Spec PyProof.Rows L2 LamX AW ClX
/-! ### promises -/
/-- a value that is no whole number -/
def Odd (K : PySem.W.Frag) (kn : Hp) (x : V) : Prop := ∃ t bi, TyX K kn x t ∧ PySem.W.kitOne K t (.type "int") = some bi ∧ (bi = true → PySem.W.kitOne K t (.type "bool") = some true)
def bWhole (K : PySem.W.Frag) : List V → Hp → AK → AXK → Prop := fun vs kn Q _ => ∃ x, vs = [x] ∧ ((∃ i, x = .int i ∧ Q (.bl true) kn) ∨ (Odd K kn x ∧ Q (.bl false) kn))
def bFrom (K : PySem.W.Frag) : List V → Hp → AK → AXK → Prop := fun vs kn Q _ => ∃ x lo hi, vs = [x, .int lo, .int hi] ∧ ((∃ i, x = .int i ∧ Q (.bl (decide (lo ≤ i) && decide (i ≤ hi))) kn) ∨ (Odd K kn x ∧ Q (.bl false) kn))
abbrev lastDay : Int := 999999999999
def bDay (K : PySem.W.Frag) : List V → Hp → AK → AXK → Prop := fun vs kn Q _ => ∃ x, vs = [x] ∧ ((∃ i, x = .int i ∧ Q (.bl (decide (-lastDay ≤ i) && decide (i ≤ lastDay))) kn) ∨ (Odd K kn x ∧ Q (.bl false) kn))
section
variable {K : PySem.W.Frag}
theorem mo_whole : MonoX (bWhole K) := by
  rintro vs kn Q R E F h1 h2 ⟨x, e, ⟨i, e2, h⟩ | ⟨o, h⟩⟩
  · exact ⟨x, e, .inl ⟨i, e2, h1 _ _ h⟩⟩
  · exact ⟨x, e, .inr ⟨o, h1 _ _ h⟩⟩
theorem mo_from : MonoX (bFrom K) := by
  rintro vs kn Q R E F h1 h2 ⟨x, lo, hi, e, ⟨i, e2, h⟩ | ⟨o, h⟩⟩
  · exact ⟨x, lo, hi, e, .inl ⟨i, e2, h1 _ _ h⟩⟩
  · exact ⟨x, lo, hi, e, .inr ⟨o, h1 _ _ h⟩⟩
theorem mo_day : MonoX (bDay K) := by
  rintro vs kn Q R E F h1 h2 ⟨x, e, ⟨i, e2, h⟩ | ⟨o, h⟩⟩
  · exact ⟨x, e, .inl ⟨i, e2, h1 _ _ h⟩⟩
  · exact ⟨x, e, .inr ⟨o, h1 _ _ h⟩⟩
theorem odd_ext {kn kn' : Hp} {x : V} (e : Ext kn kn') (h : Odd K kn x) : Odd K kn' x := by
  obtain ⟨t, bi, a, b, d⟩ := h
  exact ⟨t, bi, tyx_ext e a, b, d⟩
end
section
variable {P : Program} {w : World} {K : PySem.W.Frag} {mg : Str → Option Value} {base : Heap}
theorem ok_is_whole (T : Tx K mg) : FnOk P w K mg base CX0 1 T.f_is_whole T.d_is_whole ["value"] (liftX (bWhole K)) := by
  refine T.F_is_whole.ok sc_is_whole (fun vs H Q E h => ?_) (fun cdv A outer s H vs Q E hr h => ?_)
  · obtain ⟨kn, _, _, x, rfl, _⟩ := h
    rfl
  · obtain ⟨kn, e, nt, x, rfl, h⟩ := h
    refine ⟨_, (pss_one (ps_ret (pe_and (pe_callB call_isi (by rfl) T.b_isinstance (by decide +kernel) (pa_cons (pv 0) (pa_cons (pe_bltn (v := .ty "int") (u := .type "int") (by rfl) T.b_int (by decide +kernel) rfl) pa_nil))) (pe_one (pe_not (pe_callB call_isi (by rfl) T.b_isinstance (by decide +kernel) (pa_cons (pv 0) (pa_cons (pe_bltn (v := .ty "bool") (u := .type "bool") (by rfl) T.b_bool (by decide +kernel) rfl) pa_nil)))))))), ?_⟩
    refine body_of (pure_start e nt) ?_
    walk_at "wi"
    rcases h with ⟨i, rfl, h⟩ | ⟨⟨t, bi, ty, e1, e2⟩, h⟩
    · refine r_isi (.ty _) (.base (.int i)) (kit_ty rfl) ?_
      walk_at "wi"
      refine r_isi (.ty _) (.base (.int i)) (kit_ty rfl) ?_
      walk_at "wi"
      exact h 0
    · refine r_isi (.ty _) ty e1 ?_
      walk_at "wi"
      refine ⟨fun hb => ?_, fun hb => h 0⟩
      walk_at "wi"
      refine r_isi (.ty _) ty (e2 hb) ?_
      walk_at "wi"
      exact h 0
theorem ok_is_from (T : Tx K mg) : FnOk P w K mg base CX0 2 T.f_is_from T.d_is_from ["value", "least", "most"] (liftX (bFrom K)) := by
  refine T.F_is_from.ok sc_is_from (fun vs H Q E h => ?_) (fun cdv A outer s H vs Q E hr h => ?_)
  · obtain ⟨kn, _, _, x, lo, hi, rfl, _⟩ := h
    rfl
  · obtain ⟨kn, e, nt, x, lo, hi, rfl, h⟩ := h
    refine ⟨_, (pss_one (ps_ret (pe_and (pe_call (ok_is_whole T) (hr.mono (by decide)) (by rfl) T.g_is_whole T.F_is_whole.kp T.bd_is_whole .nil pass0 (pa_cons (pv 0) pa_nil)) (pe_one (pe_chain op_le op_le (pv 1) (pv 0) (pv 2)))))), ?_⟩
    refine body_of (pure_start e nt) ?_
    walk_at "wi"
    refine w_call mo_whole err_no ?_
    walk_at "wi"
    refine ⟨_, rfl, ?_⟩
    rcases h with ⟨i, rfl, h⟩ | ⟨o, h⟩
    · refine .inl ⟨i, rfl, ?_⟩
      walk_at "wi"
      refine ⟨fun hb => ?_, fun hb => ?_⟩
      · walk_at "wi"
        rw [hb] at h
        exact h 0
      · rw [hb] at h
        exact h 0
    · refine .inr ⟨o, ?_⟩
      walk_at "wi"
      exact h 0
end

end NN

namespace NN
open PySem PySem.Spec PyProof.Rows L2 LamX AW ClX
open Tx1 Ln
theorem ext_new {kn : Hp} {q : Addr} {o : HO} (h : kn q = none) : Ext kn (upd kn q o) := fun x u e => know h e
theorem ext_tr {a b c : Hp} (h : Ext a b) (k : Ext b c) : Ext a c := fun x o e => k x o (h x o e)
theorem ext_rf {a : Hp} : Ext a a := fun _ _ h => h
theorem free_ext {kn kn' : Hp} {q : Addr} (x : Ext kn kn') (h : kn' q = none) : kn q = none := by
  cases z : kn q with
  | none => rfl
  | some o => rw [x _ _ z] at h; cases h
abbrev natV (xs : List Nat) : List V := xs.map fun (n : Nat) => V.int n
abbrev blV (t : List Bool) : List V := t.map V.bl
def bAre (K : PySem.W.Frag) : List V → Hp → AK → AXK → Prop := fun vs kn Q _ => ∃ v xs lo hi, vs = [v, .int lo, .int hi] ∧ SeqV K kn v (natV xs) ∧ xs.length ≤ 1000 ∧ (∀ n ∈ xs, lo ≤ (n : Int) ∧ (n : Int) ≤ hi) ∧ ∀ k', Ext kn k' → Q (.bl true) k'
theorem mo_are {K : PySem.W.Frag} : MonoX (bAre K) := by
  rintro vs kn Q R E F h1 h2 ⟨v, xs, lo, hi, a, b, c, d, h⟩
  exact ⟨v, xs, lo, hi, a, b, c, d, fun k e => h1 _ _ (h k e)⟩
def bSize : List V → Hp → AK → AXK → Prop := fun vs kn Q _ => ∃ b s : Int, vs = [.int b, .int s] ∧ b + s ≤ 400 ∧ Q .non kn
theorem mo_size : MonoX bSize := by
  rintro vs kn Q R E F h1 h2 ⟨b, s, a, c, h⟩
  exact ⟨b, s, a, c, h1 _ _ h⟩
def bArg : List V → Hp → AK → AXK → Prop := fun vs kn Q _ => ∃ v lo hi : Int, vs = [.int v, .int lo, .int hi] ∧ lo ≤ v ∧ v ≤ hi ∧ Q .non kn
theorem mo_arg : MonoX bArg := by
  rintro vs kn Q R E F h1 h2 ⟨v, lo, hi, a, b, c, h⟩
  exact ⟨v, lo, hi, a, b, c, h1 _ _ h⟩
/-- right arguments -/
structure Args4 (K : PySem.W.Frag) (kn : Hp) (lo re : V) (st p : Nat) (xs ys : List Nat) : Prop where
  s1 : st ≤ 400
  p1 : 1 ≤ p
  p2 : p ≤ 400
  lx : xs.length ≤ 1000
  ly : ys.length ≤ 1000
  mx : ∀ n ∈ xs, n < st
  my : ∀ n ∈ ys, n < p
  vx : SeqV K kn lo (natV xs)
  vy : SeqV K kn re (natV ys)
def bParts (K : PySem.W.Frag) : List V → Hp → AK → AXK → Prop := fun vs kn Q _ => ∃ (lo re : V) (st p : Nat) (xs ys : List Nat), vs = [.int st, lo, .int p, re] ∧ Args4 K kn lo re st p xs ys ∧ ∀ k', Ext kn k' → Q .non k'
theorem mo_parts {K : PySem.W.Frag} : MonoX (bParts K) := by
  rintro vs kn Q R E F h1 h2 ⟨lo, re, st, p, xs, ys, a, b, h⟩
  exact ⟨lo, re, st, p, xs, ys, a, b, fun k e => h1 _ _ (h k e)⟩
section
variable {P : Program} {w : World} {K : PySem.W.Frag} {mg : Str → Option Value} {base : Heap}
theorem ok_are_from (T : Tx K mg) : FnOk P w K mg base CX0 3 T.f_are_from T.d_are_from ["values", "least", "most"] (liftX (bAre K)) := by
  refine T.F_are_from.ok sc_are_from (fun vs H Q E h => ?_) (fun cdv A outer s H vs Q E hr h => ?_)
  · obtain ⟨kn, _, _, v, xs, lo, hi, rfl, _⟩ := h
    rfl
  · obtain ⟨kn, ex, nt, v, xs, lo, hi, rfl, sv, lx, hx, h⟩ := h
    refine ⟨_, (pss_one (ps_ret (pe_and (pe_callB call_isiT (by rfl) T.b_isinstance (by decide +kernel) (pa_cons (pv 0) (pa_cons (pe_tup (pa_cons (pe_bltn (v := .ty "list") (u := .type "list") (by rfl) T.b_list (by decide +kernel) rfl) (pa_cons (pe_bltn (v := .ty "tuple") (u := .type "tuple") (by rfl) T.b_tuple (by decide +kernel) rfl) pa_nil))) pa_nil))) (pe_one (pe_callB (c_allQ rfl) (by rfl) T.b_all (by decide +kernel) (pa_cons (pe_lc (own := [("value", 3)]) (g := gName 3) (by rfl) sc_are_from.nd (pi_seq (pv 0)) (blkOk_by (own := [("value", 3)]) (N := ["values", "least", "most", "value"]) (sc := defScope s_are_from) (by decide +kernel)) (fun _ _ _ _ _ => pg_name (i := 3) sc_are_from.nd rfl (Or.inl rfl)) (fun _ _ _ _ _ => pts_nil) (fun _ _ _ _ _ => (pe_call (ok_is_from T) (hr.mono (by decide)) (by rfl) T.g_is_from T.F_is_from.kp T.bd_is_from .nil pass0 (pa_cons (pv 3) (pa_cons (pv 1) (pa_cons (pv 2) pa_nil)))))) pa_nil)))))), ?_⟩
    refine body_of (pure_start ex nt) ?_
    walk_at "wi"
    refine ⟨show 2 ≤ 1000 by decide, fun tp htp => ?_⟩
    have e1 : Ext kn (upd kn tp (.tup [.ty "list", .ty "tuple"])) := ext_new htp
    have t1 : (upd kn tp (.tup [.ty "list", .ty "tuple"])) tp = some (.tup [.ty "list", .ty "tuple"]) := upd_same
    have sv1 := SeqV.ext e1 sv
    generalize upd kn tp (.tup [.ty "list", .ty "tuple"]) = kn1 at e1 t1 sv1 ⊢
    have kt : ∀ {t : Value}, TyX K kn1 v t → (t = .type "list" ∨ t = .type "tuple") → PySem.W.kitAny K t [.type "list", .type "tuple"] = some true := fun {t} _ ht => by
      rcases ht with rfl | rfl
      · unfold PySem.W.kitAny
        rw [kit_ty rfl]
      · unfold PySem.W.kitAny
        rw [show PySem.W.kitOne K (.type "tuple") (.type "list") = some false from kit_ty rfl]
        unfold PySem.W.kitAny
        rw [kit_ty rfl]
    obtain ⟨t, ty, ht⟩ : ∃ t, TyX K kn1 v t ∧ (t = .type "list" ∨ t = .type "tuple") := sv1.ty.elim (fun z => ⟨_, z, .inl rfl⟩) (fun z => ⟨_, z, .inr rfl⟩)
    walk_at "wi"
    refine r_isiT t1 (.cons (.ty _) (.cons (.ty _) .nil)) ty (kt ty ht) ?_
    walk_at "wi"
    refine w_lcP (i_seq3 rfl ext_rf sv1 fun J ka G hka => ?_)
    refine ⟨_, ka, fun _ => .bl true, fun _ => true, G, by rw [List.length_map]; omega, hka, fun x hx2 k ek => ?_, fun D hD => ?_⟩
    · obtain ⟨m, hm, rfl⟩ := List.mem_map.1 hx2
      walk_at "w"
      refine ⟨rfl, w_yesT ?_⟩
      refine ⟨rfl, rfl, rfl, fun _ => ?_⟩
      walk_at "w"
      refine w_call mo_from err_no ?_
      walk_at "w"
      refine ⟨_, _, _, rfl, .inl ⟨_, rfl, ?_⟩⟩
      rw [decide_eq_true (hx m hm).1, decide_eq_true (hx m hm).2]
      exact ⟨rfl, rfl, rfl⟩
    · walk_at "wi"
      have e : (List.map (fun _ => V.bl true) (List.filter (fun _ => true) (natV xs))) = (List.replicate xs.length true).map V.bl := by
        rw [List.filter_eq_self.2 (fun _ _ => rfl), List.map_map, List.map_replicate]
        exact List.map_const'
      rw [e]
      refine r_allQ upd_same ?_
      rw [show (List.replicate xs.length true).all id = true by simp]
      exact h _ (ext_tr e1 (ext_new hD)) 0
theorem ok_check_size (T : Tx K mg) : FnOk P w K mg base CX0 1 T.f_check_size T.d_check_size ["start", "period"] (liftX bSize) := by
  refine T.F_check_size.ok sc_check_size (fun vs H Q E h => ?_) (fun cdv A outer s H vs Q E hr h => ?_)
  · obtain ⟨kn, _, _, b, s, rfl, _⟩ := h
    rfl
  · obtain ⟨kn, ex, nt, b, s, rfl, hl, h⟩ := h
    refine ⟨_, (pss_one (ps_if (pt_cmpR op_gt (pe_op op_add (pv 0) (pv 1)) (pe_cval (pe_glob (v := .ref T.c_Lengths) (by rfl) T.g_Lengths rfl)) (nomark _))
       (pss_one ps_never)
       pss_nil)), ?_⟩
    refine body_of (pure_start ex nt) ?_
    obtain ⟨mu, hmu⟩ := T.cv_Lengths_MOST
    walk_at "wi"
    refine ⟨_, _, _, _, rfl, T.cr_Lengths, hmu, ?_⟩
    walk_at "wi"
    refine ⟨fun hb => s_never ?_, fun _ => ?_⟩
    · have := of_decide_eq_true hb
      omega
    · walk_at "wi"
      exact h 0
theorem ok_check_argument (T : Tx K mg) : FnOk P w K mg base CX0 3 T.f_check_argument T.d_check_argument ["value", "least", "most"] (liftX bArg) := by
  refine T.F_check_argument.ok sc_check_argument (fun vs H Q E h => ?_) (fun cdv A outer s H vs Q E hr h => ?_)
  · obtain ⟨kn, _, _, v, lo, hi, rfl, _⟩ := h
    rfl
  · obtain ⟨kn, ex, nt, v, lo, hi, rfl, h1, h2, h⟩ := h
    refine ⟨_, (pss_one (ps_if (pt_not (pt_val (pe_call (ok_is_from T) (hr.mono (by decide)) (by rfl) T.g_is_from T.F_is_from.kp T.bd_is_from .nil pass0 (pa_cons (pv 0) (pa_cons (pv 1) (pa_cons (pv 2) pa_nil))))))
       (pss_one ps_never)
       pss_nil)), ?_⟩
    refine body_of (pure_start ex nt) ?_
    walk_at "wi"
    refine w_call mo_from err_no ?_
    walk_at "w"
    refine ⟨_, _, _, rfl, .inl ⟨_, rfl, ?_⟩⟩
    rw [decide_eq_true h1, decide_eq_true h2]
    walk_at "wi"
    refine ⟨fun z => absurd z (by decide), fun _ => ?_⟩
    walk_at "wi"
    exact h 0
theorem ok_check_parts (T : Tx K mg) : FnOk P w K mg base CX0 4 T.f_check_parts T.d_check_parts ["start", "low", "period", "rests"] (liftX (bParts K)) := by
  refine T.F_check_parts.ok sc_check_parts (fun vs H Q E h => ?_) (fun cdv A outer s H vs Q E hr h => ?_)
  · obtain ⟨kn, _, _, lo, re, st, p, xs, ys, rfl, _⟩ := h
    rfl
  · obtain ⟨kn, ex, nt, lo, re, st, p, xs, ys, rfl, ⟨s1, p1, p2, lx, ly, mx, my, vx, vy⟩, h⟩ := h
    refine ⟨_, (pss_cons (ps_if (pt_not (pt_val (pe_call (ok_is_from T) (hr.mono (by decide)) (by rfl) T.g_is_from T.F_is_from.kp T.bd_is_from .nil pass0 (pa_cons (pv 0) (pa_cons pe_int (pa_cons (pe_cval (pe_glob (v := .ref T.c_Lengths) (by rfl) T.g_Lengths rfl)) pa_nil))))))
       (pss_one ps_never)
       pss_nil)
       (pss_cons (ps_if (pt_not (pt_val (pe_call (ok_are_from T) (hr.mono (by decide)) (by rfl) T.g_are_from T.F_are_from.kp T.bd_are_from .nil pass0 (pa_cons (pv 1) (pa_cons pe_int (pa_cons (pe_op op_sub (pv 0) pe_int) pa_nil))))))
       (pss_one ps_never)
       pss_nil)
       (pss_cons (ps_if (pt_not (pt_val (pe_call (ok_is_from T) (hr.mono (by decide)) (by rfl) T.g_is_from T.F_is_from.kp T.bd_is_from .nil pass0 (pa_cons (pv 2) (pa_cons pe_int (pa_cons (pe_cval (pe_glob (v := .ref T.c_Lengths) (by rfl) T.g_Lengths rfl)) pa_nil))))))
       (pss_one ps_never)
       pss_nil)
       (pss_one (ps_if (pt_not (pt_val (pe_call (ok_are_from T) (hr.mono (by decide)) (by rfl) T.g_are_from T.F_are_from.kp T.bd_are_from .nil pass0 (pa_cons (pv 3) (pa_cons pe_int (pa_cons (pe_op op_sub (pv 2) pe_int) pa_nil))))))
       (pss_one ps_never)
       pss_nil))))), ?_⟩
    refine body_of (pure_start ex nt) ?_
    obtain ⟨mu, hmu⟩ := T.cv_Lengths_MOST
    walk_at "wi"
    refine w_call mo_from err_no ?_
    walk_at "w"
    refine ⟨_, _, _, _, rfl, T.cr_Lengths, hmu, ?_⟩
    walk_at "w"
    refine ⟨_, _, _, rfl, .inl ⟨_, rfl, ?_⟩⟩
    rw [decide_eq_true (show (0 : Int) ≤ (st : Int) by omega), decide_eq_true (show (st : Int) ≤ 400 by omega)]
    walk_at "wi"
    refine ⟨fun z => absurd z (by decide), fun _ => ?_⟩
    walk_at "wi"
    refine w_call mo_are err_no ?_
    walk_at "w"
    refine ⟨_, xs, _, _, rfl, vx, lx, fun n hn => ?_, fun k1 e1 => ?_⟩
    · have := mx n hn
      omega
    walk_at "wi"
    refine w_call mo_from err_no ?_
    walk_at "w"
    refine ⟨_, _, _, _, rfl, T.cr_Lengths, hmu, ?_⟩
    walk_at "w"
    refine ⟨_, _, _, rfl, .inl ⟨_, rfl, ?_⟩⟩
    rw [decide_eq_true (show (1 : Int) ≤ (p : Int) by omega), decide_eq_true (show (p : Int) ≤ 400 by omega)]
    walk_at "wi"
    refine ⟨fun z => absurd z (by decide), fun _ => ?_⟩
    walk_at "wi"
    refine w_call mo_are err_no ?_
    walk_at "w"
    refine ⟨_, ys, _, _, rfl, SeqV.ext e1 vy, ly, fun n hn => ?_, fun k2 e2 => ?_⟩
    · have := my n hn
      omega
    walk_at "wi"
    exact h _ (ext_tr e1 e2) 0
end

end NN

namespace NN
open PySem PySem.Spec PyProof.Rows L2 LamX AW ClX
open Tx1 Ln
theorem ixN_of {n j : Nat} (hj : j < n) : ixN n (j : Int) = some j := by
  unfold ixN
  rw [if_pos (by omega), if_pos (by omega), Int.toNat_natCast]
theorem cut_lo (xs : List V) (p : Nat) : cutV xs (some (p : Int)) none = xs.drop p := by
  unfold cutV
  rw [HT.sIx_nat, HT.sIx_none]
  apply List.ext_getElem?
  intro i
  rw [List.getElem?_take, List.getElem?_drop, List.getElem?_drop]
  by_cases h : p ≤ xs.length
  · rw [Nat.min_eq_left h]
    by_cases h2 : i < xs.length - p
    · rw [if_pos h2]
    · rw [if_neg h2, List.getElem?_eq_none (by omega)]
  · rw [Nat.min_eq_right (by omega), if_neg (by omega), List.getElem?_eq_none (by omega)]
theorem cut_hi (xs : List V) (p : Nat) : cutV xs none (some (p : Int)) = xs.take p := by
  unfold cutV
  rw [HT.sIx_nat, HT.sIx_none, List.drop_zero, Nat.sub_zero]
  by_cases h : p ≤ xs.length
  · rw [Nat.min_eq_left h]
  · rw [Nat.min_eq_right (by omega), List.take_of_length_le (by omega), List.take_of_length_le (by omega)]
theorem dp_bls {K : PySem.W.Frag} {H : Hp} : ∀ t : List Bool, DpAll K H (blV t) (t.map PyData.bool)
  | [] => .nil
  | b :: t => .cons (.bl b) (dp_bls t)
theorem lay_bls : ∀ t : List Bool, PyData.canLayAll0 (t.map PyData.bool) = true
  | [] => by simp [PyData.canLayAll0]
  | b :: t => by simp only [List.map_cons, PyData.canLayAll0, PyData.canLay0]; rw [lay_bls t]; rfl
theorem deep_bls : ∀ t : List Bool, PyData.depthAll (t.map PyData.bool) = 0
  | [] => by simp [PyData.depthAll]
  | b :: t => by simp only [List.map_cons, PyData.depthAll, PyData.depth]; rw [deep_bls t]; rfl
theorem shaped_bls (t : List Bool) : SeqAt.shaped (.list (t.map PyData.bool)) = true := by
  unfold SeqAt.shaped
  rw [show PyData.canLay0 (.list (t.map PyData.bool)) = true by simp only [PyData.canLay0]; exact lay_bls t, show PyData.depth (.list (t.map PyData.bool)) = 1 by simp only [PyData.depth]; rw [deep_bls t]]
  rfl
theorem shaped_blT (t : List Bool) : SeqAt.shaped (.tuple (t.map PyData.bool)) = true := by
  unfold SeqAt.shaped
  rw [show PyData.canLay0 (.tuple (t.map PyData.bool)) = true by simp only [PyData.canLay0]; exact lay_bls t, show PyData.depth (.tuple (t.map PyData.bool)) = 1 by simp only [PyData.depth]; rw [deep_bls t]]
  rfl
theorem eqv_bls : ∀ a b : List Bool, PyData.eqvAll (a.map PyData.bool) (b.map PyData.bool) = decide (a = b)
  | [], [] => by simp [PyData.eqvAll]
  | [], _ :: _ => by simp [PyData.eqvAll]
  | _ :: _, [] => by simp [PyData.eqvAll]
  | x :: a, y :: b => by
    simp only [List.map_cons, PyData.eqvAll, PyData.eqv, eqv_bls a b]
    cases x <;> cases y <;> simp
theorem eqv_blL (a b : List Bool) : PyData.eqv (.list (a.map PyData.bool)) (.list (b.map PyData.bool)) = decide (a = b) := by
  simp only [PyData.eqv]
  exact eqv_bls a b
theorem eqv_blT (a b : List Bool) : PyData.eqv (.tuple (a.map PyData.bool)) (.tuple (b.map PyData.bool)) = decide (a = b) := by
  simp only [PyData.eqv]
  exact eqv_bls a b
theorem mask_set {size n : Nat} {ys : List Nat} (h : n < size) : (maskOf size ys).set n true = maskOf size (ys ++ [n]) := by
  apply ext_ix (by rw [List.length_set, mask_len, mask_len])
  intro i hi
  rw [List.length_set, mask_len] at hi
  rw [ix_mask hi]
  unfold ix
  rw [List.getD_eq_getElem?_getD, List.getElem?_set, mask_len]
  by_cases e : n = i
  · subst e
    simp [h]
  · rw [if_neg e, ← List.getD_eq_getElem?_getD]
    show ix (maskOf size ys) i = _
    rw [ix_mask hi]
    refine decide_eq_decide.2 ?_
    simp only [List.mem_append, List.mem_singleton]
    constructor
    · exact .inl
    · rintro (h | h)
      · exact h
      · exact absurd h.symm e
theorem mask_nil (size : Nat) : (List.replicate size [V.bl false]).flatten = blV (maskOf size []) := by
  unfold blV maskOf
  rw [List.map_map]
  induction size with
  | zero => rfl
  | succ m ih =>
    rw [List.replicate_succ', List.flatten_append, ih, List.range_succ, List.map_append]
    rfl
theorem int_eq {i j : Int} : decide (V.int i = V.int j) = decide (i = j) := decide_eq_decide.mpr ⟨V.int.inj, congrArg _⟩
def bMarked (K : PySem.W.Frag) : List V → Hp → AK → AXK → Prop := fun vs kn Q _ => ∃ (size : Nat) (v : V) (xs : List Nat), vs = [.int size, v] ∧ SeqV K kn v (natV xs) ∧ xs.length ≤ 1000 ∧ size ≤ 1000 ∧ (∀ n ∈ xs, n < size) ∧
  ∀ q k', Ext kn k' → kn q = none → k' q = some (.lst (blV (maskOf size xs))) → Q (.ref q) k'
theorem mo_marked {K : PySem.W.Frag} : MonoX (bMarked K) := by
  rintro vs kn Q R E F h1 h2 ⟨size, v, xs, a, b, c, d, e, h⟩
  exact ⟨size, v, xs, a, b, c, d, e, fun q k z1 z2 z3 => h1 _ _ (h q k z1 z2 z3)⟩
def bLeast : List V → Hp → AK → AXK → Prop := fun vs kn Q _ => ∃ (a : Addr) (t : List Bool), vs = [.ref a] ∧ kn a = some (.lst (blV t)) ∧ 1 ≤ t.length ∧ t.length ≤ 500 ∧ ∀ k', Ext kn k' → Q (.int (leastP t)) k'
theorem mo_least : MonoX bLeast := by
  rintro vs kn Q R E F h1 h2 ⟨a, t, b, c, d, e, h⟩
  exact ⟨a, t, b, c, d, e, fun k z => h1 _ _ (h k z)⟩
section
variable {P : Program} {w : World} {K : PySem.W.Frag} {mg : Str → Option Value} {base : Heap}
theorem ok_marked (T : Tx K mg) : FnOk P w K mg base CX0 1 T.f_marked T.d_marked ["size", "numbers"] (liftX (bMarked K)) := by
  refine T.F_marked.ok sc_marked (fun vs H Q E h => ?_) (fun cdv A outer s H vs Q E hr h => ?_)
  · obtain ⟨kn, _, _, size, v, xs, rfl, _⟩ := h
    rfl
  · obtain ⟨kn, ex, nt, size, v, xs, rfl, sv, lx, ls, mx, h⟩ := h
    refine ⟨_, (pss_cons (ps_set (i := 2) sc_marked.nd rfl (by first | exact Or.inl rfl | exact Or.inr rfl) (pe_op op_repQ (pe_lst (pa_cons pe_bl pa_nil)) (pv 0)))
       (pss_cons (ps_for PassesOwn.never rfl (pi_seq (pv 1)) (pg_name (i := 3) sc_marked.nd rfl (by first | exact Or.inl rfl | exact Or.inr rfl))
       (pss_one (ps_asg pe_bl (pg_sub (pv 2) (pv 3) set_list))))
       (pss_one (ps_ret (pv 2))))), ?_⟩
    refine body_of (pure_start ex nt) ?_
    walk_at "wi"
    refine ⟨show 1 ≤ 1000 by decide, fun l hl => ?_⟩
    walk_at "wi"
    refine r_repQ upd_same (by omega) (by omega) (by show 1 * _ ≤ _; omega) fun p hp => ?_
    rw [Int.toNat_natCast, mask_nil]
    have e1 : Ext kn (upd (upd kn l (.lst [.bl false])) p (.lst (blV (maskOf size [])))) := ext_tr (ext_new hl) (ext_new hp)
    have hp0 := free_ext (ext_new hl) hp
    have p1 : (upd (upd kn l (.lst [.bl false])) p (.lst (blV (maskOf size [])))) p = some (.lst (blV (maskOf size []))) := upd_same
    generalize upd (upd kn l (.lst [.bl false])) p (.lst (blV (maskOf size []))) = kn1 at e1 p1 ⊢
    walk_at "wi"
    refine s_forJ (i_seq3 rfl e1 sv fun J ka G hka => ?_)
    refine ⟨_, ka, fun j σ' k m => m = 0 ∧ (∃ y3, σ' = [some (.int size), some v, some (.ref p), y3]) ∧ Ext kn k ∧ k p = some (.lst (blV (maskOf size (xs.take j)))), G, ⟨rfl, ⟨_, rfl⟩, e1, p1⟩, fun j σ' k m hh => hka _ hh.2.2.1, ?_, ?_⟩
    · rintro j x σ' k m hx ⟨rfl, ⟨y3, rfl⟩, ek, kp⟩
      rw [List.getElem?_map] at hx
      obtain ⟨n, hn, rfl⟩ := Option.map_eq_some_iff.1 hx
      have hs := mx n (List.mem_of_getElem? hn)
      walk_at "wi"
      refine ⟨p, _, _, n, rfl, rfl, kp, ixN_of (by rw [List.length_map, mask_len]; exact hs), ?_⟩
      walk_at "wi"
      refine ⟨rfl, ⟨_, rfl⟩, fun y o hy => ?_, ?_⟩
      · rw [upd_ne (fun z => by rw [z, hp0] at hy; cases hy)]
        exact ek y o hy
      · rw [upd_same, List.take_add_one, hn, show (some n).toList = [n] from rfl, ← mask_set hs]
        show some (HO.lst ((List.map V.bl (maskOf size (List.take j xs))).set n (V.bl true))) = _
        rw [← List.map_set]
    · rintro σ' k m ⟨rfl, ⟨y3, rfl⟩, ek, kp⟩
      walk_at "wi"
      rw [List.length_map, List.take_length] at kp
      exact h p k ek hp0 kp 0
theorem ok_least_period (T : Tx K mg) : FnOk P w K mg base CX0 1 T.f_least_period T.d_least_period ["turn"] (liftX bLeast) := by
  refine T.F_least_period.ok sc_least_period (fun vs H Q E h => ?_) (fun cdv A outer s H vs Q E hr h => ?_)
  · obtain ⟨kn, _, _, a, t, rfl, _⟩ := h
    rfl
  · obtain ⟨kn, ex, nt, a, t, rfl, ha, l1, l2, h⟩ := h
    refine ⟨_, (pss_cons (ps_set (i := 1) sc_least_period.nd rfl (by first | exact Or.inl rfl | exact Or.inr rfl) (pe_callB c_len (by rfl) T.b_len PySem.boot_len (pa_cons (pv 0) pa_nil)))
       (pss_cons (ps_for PassesOwn.never rfl (pi_range2 (by rfl) T.b_range (pa_cons pe_int (pa_cons (pv 1) pa_nil))) (pg_name (i := 2) sc_least_period.nd rfl (by first | exact Or.inl rfl | exact Or.inr rfl))
       (pss_one (ps_if (PW.pt (pw_and (pt_cmpR op_eq (pe_op op_mod (pv 1) (pv 2)) pe_int (nomark _)) (pw_and1 (pt_cmpR (show OpR _ _ (rEqD K) from op_eqD hr.units) (pe_op op_cat (pe_slice (show SlR _ (rSlL K) from sl_list) (pv 0) (po_some (pv 2)) po_none) (pe_slice (show SlR _ (rSlL K) from sl_list) (pv 0) po_none (po_some (pv 2)))) (pv 0) (nomark _)))))
       (pss_one (ps_ret (pv 2)))
       pss_nil)))
       (pss_one (ps_ret (pv 1))))), ?_⟩
    refine body_of (pure_start ex nt) ?_
    walk_at "wi"
    rw [List.length_map]
    refine s_forJ (i_rng2 ?_)
    walk_at "w"
    refine ⟨1, t.length, rfl, ⟨by decide, by decide, by omega, by omega⟩, ?_⟩
    have hm : ((t.length : Int) - 1).toNat = t.length - 1 := by omega
    rw [hm]
    refine ⟨_, (fun _ => True), fun j σ' k m => m = 0 ∧ (∃ y2, σ' = [some (.ref a), some (.int t.length), y2]) ∧ Ext kn k ∧ ∀ q, q ≤ j → isP t q = false, gives_rng, ⟨rfl, ⟨_, rfl⟩, ext_rf, fun q hq => ?_⟩, fun _ _ _ _ _ => trivial, ?_, ?_⟩
    · have : q = 0 := by omega
      subst this
      simp [isP]
    · rintro j x σ' k m hx ⟨rfl, ⟨y2, rfl⟩, ek, hp⟩
      rw [List.getElem?_map] at hx
      obtain ⟨n, hn, rfl⟩ := Option.map_eq_some_iff.1 hx
      have hj := List.getElem?_eq_some_iff.1 hn
      obtain ⟨hj1, hj2⟩ := hj
      rw [List.length_range] at hj1
      rw [List.getElem_range] at hj2
      subst hj2
      have e0 : (1 : Int) + ((j : Nat) : Int) = ((j + 1 : Nat) : Int) := by omega
      rw [e0]
      have hk := ek _ _ ha
      walk_at "wi"
      refine r_I (by omega) ?_
      walk_at "wi"
      rw [int_eq]
      refine ⟨fun hb => ?_, fun hb => ?_⟩
      · have hb := of_decide_eq_true hb
        have hd : t.length % (j + 1) = 0 := by omega
        walk_at "wi"
        refine r_slL hk fun a1 h1 => ?_
        rw [cut_lo, ← List.map_drop]
        have k1 := know (o := .lst (blV (t.drop (j + 1)))) h1 hk
        have q1 : (upd k a1 (.lst (blV (t.drop (j + 1))))) a1 = some (.lst (blV (t.drop (j + 1)))) := upd_same
        have x1 := ext_tr ek (ext_new (o := .lst (blV (t.drop (j + 1)))) h1)
        generalize upd k a1 (.lst (blV (t.drop (j + 1)))) = kA at k1 q1 x1 ⊢
        walk_at "wi"
        refine r_slL k1 fun a2 h2 => ?_
        rw [cut_hi, ← List.map_take]
        have k2 := know (o := .lst (blV (t.take (j + 1)))) h2 k1
        have q2 : (upd kA a2 (.lst (blV (t.take (j + 1))))) a2 = some (.lst (blV (t.take (j + 1)))) := upd_same
        have q1 := know (o := .lst (blV (t.take (j + 1)))) h2 q1
        have x2 := ext_tr x1 (ext_new (o := .lst (blV (t.take (j + 1)))) h2)
        generalize upd kA a2 (.lst (blV (t.take (j + 1)))) = kB at k2 q1 q2 x2 ⊢
        walk_at "wi"
        refine r_cat q1 q2 (by rw [List.length_map, List.length_map, List.length_drop, List.length_take]; omega) fun a3 h3 => ?_
        rw [← List.map_append]
        have k3 := know (o := .lst (blV (turned t (j + 1)))) h3 k2
        have q3 : (upd kB a3 (.lst (blV (turned t (j + 1))))) a3 = some (.lst (blV (turned t (j + 1)))) := upd_same
        have x3 := ext_tr x2 (ext_new (o := .lst (blV (turned t (j + 1)))) h3)
        show W _ _ (upd kB a3 (.lst (blV (turned t (j + 1))))) _ _
        generalize upd kB a3 (.lst (blV (turned t (j + 1)))) = kC at k3 q3 x3 ⊢
        walk_at "wi"
        refine r_eq_d (.lst (sql q3) (dp_bls _)) (.lst (sql k3) (dp_bls _)) (shaped_bls _) (shaped_bls _) ?_
        rw [eqv_blL]
        walk_at "wi"
        refine ⟨fun hb2 => ?_, fun hb2 => ?_⟩
        · have hb2 := of_decide_eq_true hb2
          have hl : leastP t = j + 1 := by
            have yes : isP t (j + 1) = true := by
              unfold isP
              rw [hb2]
              simp [hd]
            rcases leastP_cases t with ⟨_, f⟩ | ⟨l, q, f⟩
            · rw [f (j + 1) (by omega)] at yes; cases yes
            · rcases Nat.lt_trichotomy (leastP t) (j + 1) with z | z | z
              · rw [hp _ (by omega)] at q; cases q
              · exact z
              · rw [f _ z] at yes; cases yes
          have := h kC x3 0
          rw [hl] at this
          walk_at "wi"
          exact this
        · have hb2 := of_decide_eq_false hb2
          walk_at "wi"
          refine ⟨rfl, ⟨_, rfl⟩, x3, fun q hq => ?_⟩
          rcases Nat.lt_or_ge q (j + 1) with z | z
          · exact hp q (by omega)
          · have : q = j + 1 := by omega
            subst this
            unfold isP
            rw [decide_eq_false hb2]
            simp
      · have hb := of_decide_eq_false hb
        walk_at "wi"
        refine ⟨rfl, ⟨_, rfl⟩, ek, fun q hq => ?_⟩
        rcases Nat.lt_or_ge q (j + 1) with z | z
        · exact hp q (by omega)
        · have : q = j + 1 := by omega
          subst this
          unfold isP
          rw [decide_eq_false (show ¬ t.length % (j + 1) = 0 by omega)]
          simp
    · rintro σ' k m ⟨rfl, ⟨y2, rfl⟩, ek, hp⟩
      rw [List.length_map, List.length_range] at hp
      walk_at "wi"
      have e : leastP t = t.length := by
        rcases leastP_cases t with ⟨e, _⟩ | ⟨l, q, _⟩
        · exact e
        · rw [hp _ (by omega)] at q; cases q
      have := h k ek 0
      rw [e] at this
      exact this
end

end NN

namespace NN
open PySem PySem.Spec PyProof.Rows L2 LamX AW ClX
open Tx1 Ln
/-! ### the class -/
abbrev lenF (b s : Nat) (q1 q2 q3 : Addr) : List (Str × V) := [("_start", .int b), ("_period", .int s), ("_low", .ref q1), ("_rests", .ref q2), ("_marks", .ref q3)]
structure LenAt (C : Addr) (kn : Hp) (a : Addr) (nr tn : List Bool) : Prop where
  at_ : ∃ dx q1 q2 q3, kn a = some (.ins C dx (lenF nr.length tn.length q1 q2 q3)) ∧ kn q1 = some (.tup (natV (idx nr))) ∧ kn q2 = some (.tup (natV (idx tn))) ∧ kn q3 = some (.tup (blV (marks nr tn)))
  form : Form nr tn
theorem LenAt.ext {C : Addr} {kn kn' : Hp} {a : Addr} {nr tn : List Bool} (x : Ext kn kn') (h : LenAt C kn a nr tn) : LenAt C kn' a nr tn := by
  obtain ⟨⟨dx, q1, q2, q3, a1, a2, a3, a4⟩, f⟩ := h
  exact ⟨⟨dx, q1, q2, q3, x _ _ a1, x _ _ a2, x _ _ a3, x _ _ a4⟩, f⟩
/-- known but at a -/
def KE (a : Addr) (kn k : Hp) : Prop := ∀ x o, x ≠ a → kn x = some o → k x = some o
theorem KE.rf {a : Addr} {kn : Hp} : KE a kn kn := fun _ _ _ h => h
theorem KE.ext {a : Addr} {kn k k' : Hp} (h : KE a kn k) (e : Ext k k') : KE a kn k' := fun x o n z => e _ _ (h x o n z)
theorem KE.put {a : Addr} {kn k : Hp} {o : HO} (h : KE a kn k) : KE a kn (upd k a o) := fun x u n z => by
  rw [upd_ne n]
  exact h x u n z
abbrev NewL (C : Addr) (kn : Hp) (nr tn : List Bool) (Q : AK) : Prop := ∀ x k', Ext kn k' → kn x = none → LenAt C k' x nr tn → Q (.ref x) k'
/-- the form that right arguments tell -/
def formN (st p : Nat) (xs ys : List Nat) : List Bool := (maskOf st xs).take (beginOf (maskOf st xs) (maskOf p ys) (leastP (maskOf p ys)))
def formT (p : Nat) (ys : List Nat) : List Bool := (maskOf p ys).take (leastP (maskOf p ys))
def bInit (K : PySem.W.Frag) (C : Addr) : List V → Hp → AK → AXK → Prop := fun vs kn Q _ => ∃ (a dx : Addr) (lo re : V) (st p : Nat) (xs ys : List Nat), vs = [.ref a, .int st, lo, .int p, re] ∧ kn a = some (.ins C dx []) ∧ Args4 K kn lo re st p xs ys ∧
  beginOf (maskOf st xs) (maskOf p ys) (leastP (maskOf p ys)) + leastP (maskOf p ys) ≤ 400 ∧ ∀ k', KE a kn k' → (∃ q1 q2 q3, k' a = some (.ins C dx (lenF (formN st p xs ys).length (formT p ys).length q1 q2 q3)) ∧ k' q1 = some (.tup (natV (idx (formN st p xs ys)))) ∧ k' q2 = some (.tup (natV (idx (formT p ys)))) ∧ k' q3 = some (.tup (blV (marks (formN st p xs ys) (formT p ys))))) → Q .non k'
theorem mo_init {K : PySem.W.Frag} {C : Addr} : MonoX (bInit K C) := by
  rintro vs kn Q R E F h1 h2 ⟨a, dx, lo, re, st, p, xs, ys, e1, e2, e3, e6, h⟩
  exact ⟨a, dx, lo, re, st, p, xs, ys, e1, e2, e3, e6, fun k z y => h1 _ _ (h k z y)⟩
theorem rng_filter {m : Nat} {p : V → Bool} {P : Nat → Bool} (h : ∀ i, i < m → p (.int (0 + ((i : Nat) : Int))) = P i) : ((List.range m).map fun (i : Nat) => V.int (0 + (i : Int))).filter p = natV ((List.range m).filter P) := by
  rw [List.filter_map]
  unfold natV
  have e : (fun (i : Nat) => V.int (0 + (i : Int))) = fun (i : Nat) => V.int (i : Int) := by funext i; rw [Int.zero_add]
  rw [e]
  congr 1
  apply List.filter_congr
  intro i hi
  have := h i (List.mem_range.1 hi)
  rw [Int.zero_add] at this
  exact this
theorem idx_take {t : List Bool} {b : Nat} (h : b ≤ t.length) : (List.range b).filter (ix t) = idx (t.take b) := by
  unfold idx
  rw [List.length_take, Nat.min_eq_left h]
  apply List.filter_congr
  intro i hi
  exact (ix_take (List.mem_range.1 hi)).symm
theorem at_bl {t : List Bool} {i : Nat} (h : i < t.length) : atI (blV t) ((i : Nat) : Int) = some (.bl (ix t i)) := by
  refine atI_nat ?_
  rw [List.getElem?_map, List.getElem?_eq_getElem h, ix_lt h]
  rfl
theorem at_last {ys : List Nat} {m : Nat} : atI (natV (ys ++ [m])) (-1) = some (.int m) := by
  unfold natV
  rw [List.map_append]
  exact atI_last _ _
theorem bl_ne {a b : Bool} : (!decide (V.bl a = V.bl b)) = (a != b) := by cases a <;> cases b <;> rfl
def pAst (near turn : List Bool) (s : Nat) : V → Bool
  | .int i => ix near i.toNat != ix turn (i.toNat % s)
  | _ => false
def pIx (t : List Bool) : V → Bool
  | .int i => ix t i.toNat
  | _ => false
def fIx (t : List Bool) (s : Nat) : V → V
  | .int i => .bl (ix t (i.toNat % s))
  | v => v
theorem begin_last {near turn : List Bool} {s : Nat} : (astray near turn s = [] ∧ beginOf near turn s = 0) ∨ ∃ ys m, astray near turn s = ys ++ [m] ∧ beginOf near turn s = m + 1 := by
  unfold beginOf
  cases h : (astray near turn s).getLast? with
  | none => exact .inl ⟨List.getLast?_eq_none_iff.1 h, rfl⟩
  | some m =>
    obtain ⟨ys, e⟩ := List.getLast?_eq_some_iff.1 h
    exact .inr ⟨ys, m, e, rfl⟩
theorem marks_take {near turn : List Bool} {b s : Nat} (hb : b ≤ near.length) (hs : s ≤ turn.length) (h0 : 0 < s) : near.take b ++ (List.range s).map (fun i => ix turn ((b + i) % s)) = marks (near.take b) (turn.take s) := by
  unfold marks
  rw [List.length_take, List.length_take, Nat.min_eq_left hb, Nat.min_eq_left hs]
  congr 1
  apply List.map_congr_left
  intro i _
  exact (ix_take (Nat.mod_lt _ h0)).symm
section
variable {c : Cw} {kn : Hp} {n : Nat} {σ : L2.St} {Q : V → Hp → Nat → Prop} {K : PySem.W.Frag}
/-- tuple([n for n in range(b) if t[n]]) -/
theorem w_tupIx {i j : Nat} {q : Addr} {b : Nat} {t : List Bool} (hi : σ[i]? = some (some (.int b))) (hj : ∀ v : V, ((wipe σ [9]).set 9 (some v))[j]? = some (some (.ref q))) (h9 : ∀ v : V, ((wipe σ [9]).set 9 (some v))[9]? = some (some v)) (hw : ∀ v : V, wipe ((wipe σ [9]).set 9 (some v)) [9] = wipe σ [9])
    (ht : kn q = some (.lst (blV t))) (hb : b ≤ t.length) (hs : b ≤ 1000) (hq : ∀ l k', Ext kn k' → kn l = none → k' l = some (.tup (natV (idx (t.take b)))) → Q (.ref l) k' n) :
    W c (tCB (rTupQ K) (tCons (tLc (iRng1 (tCons (tVar i) tNil)) (gName 9) (tB (tOp (rIxL K) (tVar j) (tVar 9))) (tVar 9) [9]) tNil) σ) kn n Q := by
  refine w_cb (w_cons (w_lcP (i_rng1 (w_cons (w_var hi (w_nil ⟨b, rfl, by omega, by omega, ?_⟩))))))
  rw [Int.toNat_natCast]
  refine ⟨_, (fun _ => True), (fun v => v), pIx t, gives_rng, by rw [List.length_map, List.length_range]; omega, fun _ _ => trivial, fun x hx k ek => ?_, fun D hD => ?_⟩
  · obtain ⟨m, hm, rfl⟩ := List.mem_map.1 hx
    have hm := List.mem_range.1 hm
    rw [Int.zero_add]
    refine g_name ⟨rfl, rfl, hw _, ?_⟩
    refine w_B (w_op (w_var (hj _) (w_var (h9 _) (r_ixL (ek _ _ ht) (at_bl (by omega)) ⟨_, rfl, rfl, rfl, rfl, fun _ => w_var (h9 _) ⟨rfl, rfl, rfl⟩⟩))))
  · rw [rng_filter (P := ix t) (fun i hi => by rw [Int.zero_add]; rfl), List.map_id', idx_take hb]
    refine w_nil (r_tupL upd_same fun l hl => ?_)
    exact hq l _ (ext_tr (ext_new hD) (ext_new hl)) (free_ext (ext_new hD) hl) upd_same
end
section
variable {P : Program} {w : World} {K : PySem.W.Frag} {mg : Str → Option Value} {base : Heap}
theorem ok_Lengths___init__ (T : Tx K mg) : FnOk P w K mg base CX0 5 T.f_Lengths___init__ T.d_Lengths___init__ ["self", "start", "low", "period", "rests"] (liftX (bInit K T.c_Lengths)) := by
  refine T.F_Lengths___init__.ok sc_Lengths___init__ (fun vs H Q E h => ?_) (fun cdv A outer s H vs Q E hr h => ?_)
  · obtain ⟨kn, _, _, a, dx, lo, re, st, p, xs, ys, rfl, _⟩ := h
    rfl
  · obtain ⟨kn, ex, nt, a, dx, lo, re, st, p, xs, ys, rfl, ha, ar, hsz, h⟩ := h
    obtain ⟨a1, ea1, _⟩ := id ar.vx
    obtain ⟨a2, ea2, _⟩ := id ar.vy
    subst ea1 ea2
    refine ⟨_, (pss_cons (ps_expr (pe_call (ok_check_parts T) (hr.mono (by decide)) (by rfl) T.g_check_parts T.F_check_parts.kp T.bd_check_parts .nil pass0 (pa_cons (pv 1) (pa_cons (pv 2) (pa_cons (pv 3) (pa_cons (pv 4) pa_nil))))))
       (pss_cons (ps_set (i := 5) sc_Lengths___init__.nd rfl (by first | exact Or.inl rfl | exact Or.inr rfl) (pe_call (ok_marked T) (hr.mono (by decide)) (by rfl) T.g_marked T.F_marked.kp T.bd_marked .nil pass0 (pa_cons (pv 1) (pa_cons (pv 2) pa_nil))))
       (pss_cons (ps_set (i := 6) sc_Lengths___init__.nd rfl (by first | exact Or.inl rfl | exact Or.inr rfl) (pe_call (ok_marked T) (hr.mono (by decide)) (by rfl) T.g_marked T.F_marked.kp T.bd_marked .nil pass0 (pa_cons (pv 3) (pa_cons (pv 4) pa_nil))))
       (pss_cons (ps_set (i := 7) sc_Lengths___init__.nd rfl (by first | exact Or.inl rfl | exact Or.inr rfl) (pe_call (ok_least_period T) (hr.mono (by decide)) (by rfl) T.g_least_period T.F_least_period.kp T.bd_least_period .nil pass0 (pa_cons (pv 6) pa_nil)))
       (pss_cons (ps_setLc (i := 8) (own := [("n", 9)]) (g := gName 9) (by rfl) sc_Lengths___init__.nd rfl rfl (sw_true rfl rfl rfl (by decide +kernel)) (pi_range1 (by rfl) T.b_range (pa_cons (pv 1) pa_nil)) (blkOk_by (own := [("n", 9)]) (N := ["self", "start", "low", "period", "rests", "near", "turn", "step", "astray", "n", "begin"]) (sc := defScope s_Lengths___init__) (by decide +kernel)) (fun _ _ _ _ _ => pg_name (i := 9) sc_Lengths___init__.nd rfl (Or.inl rfl)) (fun _ _ _ _ _ => (pts_one (pt_cmpR op_ne (pe_ix (show IxR _ (rIxL K) from ix_list) (pv 5) (pv 9) (fun _ _ => rfl)) (pe_ix (show IxR _ (rIxL K) from ix_list) (pv 6) (pe_op op_mod (pv 9) (pv 7)) (fun _ _ => rfl)) (nomark _)))) (fun _ _ _ _ _ => (pv 9)))
       (pss_cons (ps_set (i := 10) sc_Lengths___init__.nd rfl (by first | exact Or.inl rfl | exact Or.inr rfl) (pe_ifExp (pt_truthQ (pv 8) (by intro _; rfl)) (pe_op op_add (pe_ix (show IxR _ (rIxL K) from ix_list) (pv 8) (pe_un un_neg pe_int) (fun _ _ => rfl)) pe_int) pe_int))
       (pss_cons (ps_expr (pe_call (ok_check_size T) (hr.mono (by decide)) (by rfl) T.g_check_size T.F_check_size.kp T.bd_check_size .nil pass0 (pa_cons (pv 10) (pa_cons (pv 7) pa_nil))))
       (pss_cons (ps_fld (pv 0) (pv 10) rfl)
       (pss_cons (ps_fld (pv 0) (pv 7) rfl)
       (pss_cons (ps_fld (pv 0) (pe_callTy c_tupQ (by rfl) T.b_tuple (by decide +kernel) (pa_cons (pe_lc (own := [("n", 9)]) (g := gName 9) (by rfl) sc_Lengths___init__.nd (pi_range1 (by rfl) T.b_range (pa_cons (pv 10) pa_nil)) (blkOk_by (own := [("n", 9)]) (N := ["self", "start", "low", "period", "rests", "near", "turn", "step", "astray", "n", "begin"]) (sc := defScope s_Lengths___init__) (by decide +kernel)) (fun _ _ _ _ _ => pg_name (i := 9) sc_Lengths___init__.nd rfl (Or.inl rfl)) (fun _ _ _ _ _ => (pts_one (pt_val (pe_ix (show IxR _ (rIxL K) from ix_list) (pv 5) (pv 9) (fun _ _ => rfl))))) (fun _ _ _ _ _ => (pv 9))) pa_nil)) rfl)
       (pss_cons (ps_fld (pv 0) (pe_callTy c_tupQ (by rfl) T.b_tuple (by decide +kernel) (pa_cons (pe_lc (own := [("n", 9)]) (g := gName 9) (by rfl) sc_Lengths___init__.nd (pi_range1 (by rfl) T.b_range (pa_cons (pv 7) pa_nil)) (blkOk_by (own := [("n", 9)]) (N := ["self", "start", "low", "period", "rests", "near", "turn", "step", "astray", "n", "begin"]) (sc := defScope s_Lengths___init__) (by decide +kernel)) (fun _ _ _ _ _ => pg_name (i := 9) sc_Lengths___init__.nd rfl (Or.inl rfl)) (fun _ _ _ _ _ => (pts_one (pt_val (pe_ix (show IxR _ (rIxL K) from ix_list) (pv 6) (pv 9) (fun _ _ => rfl))))) (fun _ _ _ _ _ => (pv 9))) pa_nil)) rfl)
       (pss_one (ps_fld (pv 0) (pe_callTy c_tupQ (by rfl) T.b_tuple (by decide +kernel) (pa_cons (pe_op op_cat (pe_slice (show SlR _ (rSlL K) from sl_list) (pv 5) po_none (po_some (pv 10))) (pe_lc (own := [("n", 9)]) (g := gName 9) (by rfl) sc_Lengths___init__.nd (pi_range2 (by rfl) T.b_range (pa_cons (pv 10) (pa_cons (pe_op op_add (pv 10) (pv 7)) pa_nil))) (blkOk_by (own := [("n", 9)]) (N := ["self", "start", "low", "period", "rests", "near", "turn", "step", "astray", "n", "begin"]) (sc := defScope s_Lengths___init__) (by decide +kernel)) (fun _ _ _ _ _ => pg_name (i := 9) sc_Lengths___init__.nd rfl (Or.inl rfl)) (fun _ _ _ _ _ => pts_nil) (fun _ _ _ _ _ => (pe_ix (show IxR _ (rIxL K) from ix_list) (pv 6) (pe_op op_mod (pv 9) (pv 7)) (fun _ _ => rfl))))) pa_nil)) rfl))))))))))))), ?_⟩
    refine body_of (pure_start ex nt) ?_
    have cL := T.cl_Lengths
    have hturn : (maskOf p ys).length = p := mask_len _ _
    have hnear : (maskOf st xs).length = st := mask_len _ _
    have hpos := leastP_pos (t := maskOf p ys) (by rw [hturn]; exact ar.p1)
    have hle := leastP_le (maskOf p ys)
    have hb1 := (begin_spec (maskOf st xs) (maskOf p ys) (leastP (maskOf p ys))).1
    walk_at "wi"
    refine w_call mo_parts err_no ?_
    walk_at "w"
    refine ⟨_, _, st, p, xs, ys, rfl, ar, fun k1 e1 => ?_⟩
    walk_at "wi"
    refine w_call mo_marked err_no ?_
    walk_at "w"
    refine ⟨st, _, xs, rfl, SeqV.ext e1 ar.vx, ar.lx, (by have := ar.s1; omega), ar.mx, fun qn k2 e2 f2 hn2 => ?_⟩
    walk_at "wi"
    refine w_call mo_marked err_no ?_
    walk_at "w"
    refine ⟨p, _, ys, rfl, SeqV.ext e2 (SeqV.ext e1 ar.vy), ar.ly, (by have := ar.p2; omega), ar.my, fun qt k3 e3 f3 hn3 => ?_⟩
    walk_at "wi"
    refine w_call mo_least err_no ?_
    walk_at "w"
    refine ⟨qt, _, rfl, hn3, (by rw [hturn]; exact ar.p1), (by rw [hturn]; have := ar.p2; omega), fun k4 e4 => ?_⟩
    have hne : qn ≠ a := fun z => by have := e1 _ _ ha; rw [← z, f2] at this; cases this
    have hte : qt ≠ a := fun z => by have := e2 _ _ (e1 _ _ ha); rw [← z, f3] at this; cases this
    have K4 : KE a kn k4 := KE.rf.ext (ext_tr e1 (ext_tr e2 (ext_tr e3 e4)))
    have A4 := e4 _ _ (e3 _ _ (e2 _ _ (e1 _ _ ha)))
    have N4 := e4 _ _ (e3 _ _ hn2)
    have T4 := e4 _ _ hn3
    clear e1 e2 e3 e4 f2 f3 hn2 hn3
    obtain ⟨sP, hsP⟩ : ∃ sP, sP = leastP (maskOf p ys) := ⟨_, rfl⟩
    obtain ⟨near, hN⟩ : ∃ near, near = maskOf st xs := ⟨_, rfl⟩
    obtain ⟨turn, hT⟩ : ∃ turn, turn = maskOf p ys := ⟨_, rfl⟩
    unfold formN formT at h
    rw [← hT] at hturn hpos hle hb1 hsz h hsP T4 ⊢
    rw [← hN] at hnear hb1 hsz h N4
    rw [← hsP] at hpos hle hb1 hsz h ⊢
    have s1 := ar.s1
    have p2 := ar.p2
    clear hsP hN hT ar
    walk_at "wi"
    refine w_lcP (i_rng1 ?_)
    walk_at "w"
    refine ⟨by omega, by omega, ?_⟩
    rw [Int.toNat_natCast]
    refine ⟨_, (fun _ => True), (fun v => v), pAst near turn sP, gives_rng, by rw [List.length_map, List.length_range]; omega, fun _ _ => trivial, fun x hx k ek => ?_, fun D hD => ?_⟩
    · obtain ⟨i, hi, rfl⟩ := List.mem_map.1 hx
      have hi := List.mem_range.1 hi
      rw [Int.zero_add]
      walk_at "w"
      refine ⟨rfl, ?_⟩
      walk_at "w"
      refine r_ixL (ek _ _ N4) (at_bl (by omega)) ?_
      walk_at "w"
      refine r_I (by omega) ?_
      show W _ _ _ _ _
      rw [show ((i : Nat) : Int) % ((sP : Nat) : Int) = ((i % sP : Nat) : Int) from rfl]
      refine r_ixL (ek _ _ T4) (at_bl (by have := Nat.mod_lt i hpos; omega)) ?_
      walk_at "w"
      · exact bl_ne
      · refine ⟨rfl, fun _ => ?_⟩
        walk_at "w"
        all_goals first | exact ⟨rfl, rfl, rfl⟩ | exact ⟨rfl, rfl⟩ | rfl
    · rw [rng_filter (P := fun i => ix near i != ix turn (i % sP)) (fun i hi => by rw [Int.zero_add]; rfl), List.map_id']
      have hA : List.filter (fun i => ix near i != ix turn (i % sP)) (List.range st) = astray near turn sP := by unfold astray; rw [hnear]
      rw [hA]
      have K5 := K4.ext (ext_new (o := .lst (natV (astray near turn sP))) hD)
      have A5 := know (o := .lst (natV (astray near turn sP))) hD A4
      have N5 := know (o := .lst (natV (astray near turn sP))) hD N4
      have T5 := know (o := .lst (natV (astray near turn sP))) hD T4
      have D5 : (upd k4 D (.lst (natV (astray near turn sP)))) D = some (.lst (natV (astray near turn sP))) := upd_same
      generalize upd k4 D (.lst (natV (astray near turn sP))) = k5 at K5 A5 N5 T5 D5 ⊢
      clear hD K4 A4 N4 T4
      obtain ⟨bg, hbg⟩ : ∃ bg, bg = beginOf near turn sP := ⟨_, rfl⟩
      refine s_seq ?_
      refine s_join (fun σ' k' n' => k' = k5 ∧ n' = 0 ∧ σ' = [some (.ref a), some (.int st), some (.ref a1), some (.int p), some (.ref a2), some (.ref qn), some (.ref qt), some (.int sP), some (.ref D), none, some (.int bg)]) ?_ ?_
      · walk_at "wi"
        refine w_tru ?_
        walk_at "w"
        refine ⟨D, _, rfl, .inl D5, ?_⟩
        rcases begin_last (near := near) (turn := turn) (s := sP) with ⟨h0, h1⟩ | ⟨zs, m, h0, h1⟩
        · rw [h0, hbg, h1]
          refine ⟨fun z => absurd z (by decide), fun _ => ?_⟩
          walk_at "wi"
          all_goals first | exact ⟨rfl, rfl, rfl⟩ | exact ⟨rfl, rfl⟩ | rfl
        · rw [h0] at D5
          rw [h0, hbg, h1]
          refine ⟨fun _ => ?_, fun z => ?_⟩
          · walk_at "wi"
            refine r_ixL D5 at_last ?_
            walk_at "wi"
            all_goals first | exact ⟨rfl, rfl, rfl⟩ | exact ⟨rfl, rfl⟩ | rfl
          · simp [natV] at z
      · rintro σ' k' n' ⟨hk', rfl, rfl⟩
        obtain rfl : k5 = k' := hk'.symm
        clear hk'
        rw [← hbg] at hb1 hsz h
        clear D5 hbg
        walk_at "wi"
        refine w_call mo_size err_no ?_
        walk_at "w"
        refine ⟨_, _, rfl, (by omega), ?_⟩
        walk_at "wi"
        refine ⟨_, _, _, _, rfl, A5, cL, T.na_Lengths__start, by decide, ?_⟩
        have A6 : (upd k5 a (.ins T.c_Lengths dx (putF "_start" (.int bg) []))) a = some (.ins T.c_Lengths dx [("_start", .int bg)]) := upd_same
        have K6 := K5.put (o := .ins T.c_Lengths dx (putF "_start" (.int bg) []))
        have N6 : (upd k5 a (.ins T.c_Lengths dx (putF "_start" (.int bg) []))) qn = _ := (upd_ne hne).trans N5
        have T6 : (upd k5 a (.ins T.c_Lengths dx (putF "_start" (.int bg) []))) qt = _ := (upd_ne hte).trans T5
        generalize upd k5 a (.ins T.c_Lengths dx (putF "_start" (.int bg) [])) = k6 at A6 K6 N6 T6 ⊢
        clear A5 K5 N5 T5
        walk_at "wi"
        refine ⟨_, _, _, _, rfl, A6, cL, T.na_Lengths__period, (show 1 < 1000 by decide), ?_⟩
        have A7 : (upd k6 a (.ins T.c_Lengths dx (putF "_period" (.int sP) [("_start", .int bg)]))) a = some (.ins T.c_Lengths dx [("_start", .int bg), ("_period", .int sP)]) := upd_same
        have K7 := K6.put (o := .ins T.c_Lengths dx (putF "_period" (.int sP) [("_start", .int bg)]))
        have N7 : (upd k6 a (.ins T.c_Lengths dx (putF "_period" (.int sP) [("_start", .int bg)]))) qn = _ := (upd_ne hne).trans N6
        have T7 : (upd k6 a (.ins T.c_Lengths dx (putF "_period" (.int sP) [("_start", .int bg)]))) qt = _ := (upd_ne hte).trans T6
        generalize upd k6 a (.ins T.c_Lengths dx (putF "_period" (.int sP) [("_start", .int bg)])) = k7 at A7 K7 N7 T7 ⊢
        clear A6 K6 N6 T6
        refine s_seq (s_fld ?_)
        refine w_tupIx (q := qn) (t := near) rfl (fun _ => rfl) (fun _ => rfl) (fun _ => rfl) N7 (by omega) (by omega) fun l1 k8 e8 f8 h8 => ?_
        walk_at "wi"
        have A8 := e8 _ _ A7
        have d1 : l1 ≠ a := fun z => by rw [z, A7] at f8; cases f8
        refine ⟨_, _, _, _, rfl, A8, cL, T.na_Lengths__low, (show 2 < 1000 by decide), ?_⟩
        have A9 : (upd k8 a (.ins T.c_Lengths dx (putF "_low" (.ref l1) [("_start", .int bg), ("_period", .int sP)]))) a = some (.ins T.c_Lengths dx [("_start", .int bg), ("_period", .int sP), ("_low", .ref l1)]) := upd_same
        have K9 := (K7.ext e8).put (o := .ins T.c_Lengths dx (putF "_low" (.ref l1) [("_start", .int bg), ("_period", .int sP)]))
        have N9 : (upd k8 a (.ins T.c_Lengths dx (putF "_low" (.ref l1) [("_start", .int bg), ("_period", .int sP)]))) qn = _ := (upd_ne hne).trans (e8 _ _ N7)
        have T9 : (upd k8 a (.ins T.c_Lengths dx (putF "_low" (.ref l1) [("_start", .int bg), ("_period", .int sP)]))) qt = _ := (upd_ne hte).trans (e8 _ _ T7)
        have L9 : (upd k8 a (.ins T.c_Lengths dx (putF "_low" (.ref l1) [("_start", .int bg), ("_period", .int sP)]))) l1 = _ := (upd_ne d1).trans h8
        generalize upd k8 a (.ins T.c_Lengths dx (putF "_low" (.ref l1) [("_start", .int bg), ("_period", .int sP)])) = k9 at A9 K9 N9 T9 L9 ⊢
        clear A7 K7 N7 T7 A8 e8 f8 h8
        refine s_seq (s_fld ?_)
        refine w_tupIx (q := qt) (t := turn) rfl (fun _ => rfl) (fun _ => rfl) (fun _ => rfl) T9 (by omega) (by omega) fun l2 k10 e10 f10 h10 => ?_
        walk_at "wi"
        have A10 := e10 _ _ A9
        have d2 : l2 ≠ a := fun z => by rw [z, A9] at f10; cases f10
        refine ⟨_, _, _, _, rfl, A10, cL, T.na_Lengths__rests, (show 3 < 1000 by decide), ?_⟩
        have A11 : (upd k10 a (.ins T.c_Lengths dx (putF "_rests" (.ref l2) [("_start", .int bg), ("_period", .int sP), ("_low", .ref l1)]))) a = some (.ins T.c_Lengths dx [("_start", .int bg), ("_period", .int sP), ("_low", .ref l1), ("_rests", .ref l2)]) := upd_same
        have K11 := (K9.ext e10).put (o := .ins T.c_Lengths dx (putF "_rests" (.ref l2) [("_start", .int bg), ("_period", .int sP), ("_low", .ref l1)]))
        have N11 : (upd k10 a (.ins T.c_Lengths dx (putF "_rests" (.ref l2) [("_start", .int bg), ("_period", .int sP), ("_low", .ref l1)]))) qn = _ := (upd_ne hne).trans (e10 _ _ N9)
        have T11 : (upd k10 a (.ins T.c_Lengths dx (putF "_rests" (.ref l2) [("_start", .int bg), ("_period", .int sP), ("_low", .ref l1)]))) qt = _ := (upd_ne hte).trans (e10 _ _ T9)
        have L11 : (upd k10 a (.ins T.c_Lengths dx (putF "_rests" (.ref l2) [("_start", .int bg), ("_period", .int sP), ("_low", .ref l1)]))) l1 = _ := (upd_ne d1).trans (e10 _ _ L9)
        have M11 : (upd k10 a (.ins T.c_Lengths dx (putF "_rests" (.ref l2) [("_start", .int bg), ("_period", .int sP), ("_low", .ref l1)]))) l2 = _ := (upd_ne d2).trans h10
        generalize upd k10 a (.ins T.c_Lengths dx (putF "_rests" (.ref l2) [("_start", .int bg), ("_period", .int sP), ("_low", .ref l1)])) = k11 at A11 K11 N11 T11 L11 M11 ⊢
        clear A9 K9 N9 T9 L9 A10 e10 f10 h10
        refine s_fld ?_
        walk_at "wi"
        refine r_slL N11 fun b1 hb1 => ?_
        rw [cut_hi, ← List.map_take]
        have S12 : (upd k11 b1 (.lst (blV (near.take bg)))) b1 = some (.lst (blV (near.take bg))) := upd_same
        have e12 : Ext k11 (upd k11 b1 (.lst (blV (near.take bg)))) := ext_new hb1
        generalize upd k11 b1 (.lst (blV (near.take bg))) = k12 at S12 e12 ⊢
        walk_at "wi"
        refine w_lcP (i_rng2 ?_)
        walk_at "w"
        refine ⟨_, _, rfl, ⟨by omega, by omega, by omega, by omega⟩, ?_⟩
        rw [show ((bg : Int) + (sP : Int) - (bg : Int)).toNat = sP by omega]
        refine ⟨_, (fun _ => True), fIx turn sP, (fun _ => true), gives_rng, by rw [List.length_map, List.length_range]; omega, fun _ _ => trivial, fun x hx k ek => ?_, fun D2 hD2 => ?_⟩
        · obtain ⟨i, hi, rfl⟩ := List.mem_map.1 hx
          rw [show (bg : Int) + ((i : Nat) : Int) = ((bg + i : Nat) : Int) by omega]
          walk_at "w"
          refine ⟨rfl, w_yesT ?_⟩
          refine ⟨rfl, rfl, rfl, fun _ => ?_⟩
          walk_at "w"
          refine r_I (by omega) ?_
          rw [show ((bg + i : Nat) : Int) % ((sP : Nat) : Int) = (((bg + i) % sP : Nat) : Int) from rfl]
          refine r_ixL (ek _ _ (e12 _ _ T11)) (at_bl (by have := Nat.mod_lt (bg + i) hpos; omega)) ?_
          exact ⟨rfl, rfl, rfl⟩
        · rw [show List.map (fIx turn sP) (List.filter (fun _ => true) ((List.range sP).map fun (i : Nat) => V.int ((bg : Int) + (i : Int)))) = blV ((List.range sP).map fun i => ix turn ((bg + i) % sP)) by
            rw [List.filter_eq_self.2 (fun _ _ => rfl), List.map_map]
            unfold blV
            rw [List.map_map]
            apply List.map_congr_left
            intro i _
            show fIx turn sP (.int ((bg : Int) + (i : Int))) = _
            rw [show (bg : Int) + ((i : Nat) : Int) = ((bg + i : Nat) : Int) by omega]
            rfl]
          have S13 := know (o := .lst (blV ((List.range sP).map fun i => ix turn ((bg + i) % sP)))) hD2 S12
          have e13 := ext_tr e12 (ext_new (o := .lst (blV ((List.range sP).map fun i => ix turn ((bg + i) % sP)))) hD2)
          have U13 : (upd k12 D2 (.lst (blV ((List.range sP).map fun i => ix turn ((bg + i) % sP))))) D2 = some (.lst (blV ((List.range sP).map fun i => ix turn ((bg + i) % sP)))) := upd_same
          generalize upd k12 D2 (.lst (blV ((List.range sP).map fun i => ix turn ((bg + i) % sP)))) = k13 at S13 e13 U13 ⊢
          walk_at "w"
          refine r_cat S13 U13 (by rw [List.length_map, List.length_map, List.length_map, List.length_range, List.length_take]; omega) fun b3 hb3 => ?_
          rw [← List.map_append, marks_take (by omega) hle hpos]
          walk_at "w"
          refine r_tupL upd_same fun b4 hb4 => ?_
          walk_at "w"
          have e15 := ext_tr e13 (ext_tr (ext_new (o := .lst (blV (marks (near.take bg) (turn.take sP)))) hb3) (ext_new (o := .tup (blV (marks (near.take bg) (turn.take sP)))) hb4))
          have d4 : b4 ≠ a := fun z => by
            have := (ext_tr e13 (ext_new (o := .lst (blV (marks (near.take bg) (turn.take sP)))) hb3)) _ _ A11
            rw [z, this] at hb4
            cases hb4
          have V15 : (upd (upd k13 b3 (.lst (blV (marks (near.take bg) (turn.take sP))))) b4 (.tup (blV (marks (near.take bg) (turn.take sP))))) b4 = some (.tup (blV (marks (near.take bg) (turn.take sP)))) := upd_same
          generalize upd (upd k13 b3 (.lst (blV (marks (near.take bg) (turn.take sP))))) b4 (.tup (blV (marks (near.take bg) (turn.take sP)))) = k15 at e15 V15 ⊢
          refine ⟨_, _, _, _, rfl, e15 _ _ A11, cL, T.na_Lengths__marks, (show 4 < 1000 by decide), ?_⟩
          walk_at "wi"
          refine fun H' g' => h _ ((K11.ext e15).put) ⟨l1, l2, b4, ?_, (upd_ne d1).trans (e15 _ _ L11), (upd_ne d2).trans (e15 _ _ M11), (upd_ne d4).trans V15⟩ 0 H' g'
          rw [upd_same, List.length_take, List.length_take, Nat.min_eq_left (by omega), Nat.min_eq_left hle]
          rfl
end

end NN

namespace NN
open PySem PySem.Spec PyProof.Rows L2 LamX AW ClX
open Tx1 Ln
/-! ### made, compared, written -/
/-- arguments whose form is small enough -/
def Small (st p : Nat) (xs ys : List Nat) : Prop := beginOf (maskOf st xs) (maskOf p ys) (leastP (maskOf p ys)) + leastP (maskOf p ys) ≤ 400
theorem form_small {K : PySem.W.Frag} {kn : Hp} {lo re : V} {st p : Nat} {xs ys : List Nat} (ar : Args4 K kn lo re st p xs ys) (h : Small st p xs ys) : Form (formN st p xs ys) (formT p ys) := form_of (by rw [mask_len]; exact ar.p1) h
theorem Args4.ext {K : PySem.W.Frag} {kn k : Hp} {lo re : V} {st p : Nat} {xs ys : List Nat} (e : Ext kn k) (ar : Args4 K kn lo re st p xs ys) : Args4 K k lo re st p xs ys :=
  ⟨ar.s1, ar.p1, ar.p2, ar.lx, ar.ly, ar.mx, ar.my, SeqV.ext e ar.vx, SeqV.ext e ar.vy⟩
/-- Lengths(..), the values behind it by default -/
theorem w_len {K : PySem.W.Frag} {c : Cw} {kn : Hp} {n : Nat} {σ : L2.St} {Q : V → Hp → Nat → Prop} {E : XK} {C : Addr} {dvs : List V} {t : TA}
    (h : W c (t σ) kn n fun vs kn1 n1 => ∃ (lo re : V) (st p : Nat) (xs ys : List Nat), vs ++ dvs = [.int st, lo, .int p, re] ∧ Args4 K kn1 lo re st p xs ys ∧ Small st p xs ys ∧ NewL C kn1 (formN st p xs ys) (formT p ys) fun v k => Q v k n1) : W c (tMake C (liftX (bInit K C)) dvs E t σ) kn n Q :=
  fun H g Q' q => h H g _ fun vs kn1 n1 H1 ⟨lo, re, st, p, xs, ys, ev, ar, sm, h1⟩ g1 => fun x dx hx hdx hne => by
    have hx2 : upd H1 dx (.own x) x = none := by rw [upd_ne (Ne.symm hne)]; exact hx
    have kx := g1.free hx
    have kdx := g1.free hdx
    have kx2 : upd kn1 dx (.own x) x = none := by rw [upd_ne (Ne.symm hne)]; exact kx
    have e2 : Ext kn1 (upd (upd kn1 dx (.own x)) x (.ins C dx [])) := ext_tr (ext_new kdx) (ext_new kx2)
    rw [ev]
    refine sp_call (EA := fun _ _ _ _ => False) (c := c) (n := n1) (Q := fun v kn2 n2 => v = .non ∧ Q (.ref x) kn2 n2) mo_init (fun _ _ _ _ _ z => z.elim) ⟨x, dx, lo, re, st, p, xs, ys, rfl, upd_same, ar.ext e2, sm, fun k' ke hk => ⟨rfl, h1 x k' (fun y o hy => ?_) kx ?_⟩⟩ _ ((g1.new hdx).new hx2) (fun v H2 => v = .non ∧ Q' (.ref x) H2)
      (fun v kn2 n2 H2 hq g2 => ⟨hq.1, q _ _ _ _ hq.2 g2⟩)
    · exact ke y o (fun z => by rw [z, kx] at hy; cases hy) (e2 y o hy)
    · obtain ⟨q1, q2, q3, z1, z2, z3, z4⟩ := hk
      exact ⟨⟨dx, q1, q2, q3, z1, z2, z3, z4⟩, form_small ar sm⟩
def bField (C : Addr) (f : Nat → Nat → Addr → Addr → V) : List V → Hp → AK → AXK → Prop := fun vs kn Q _ => ∃ a nr tn dx q1 q2 q3, vs = [.ref a] ∧ kn a = some (.ins C dx (lenF nr tn q1 q2 q3)) ∧ Q (f nr tn q1 q2) kn
theorem mo_field {C : Addr} {f : Nat → Nat → Addr → Addr → V} : MonoX (bField C f) := by
  rintro vs kn Q R E F h1 h2 ⟨a, nr, tn, dx, q1, q2, q3, b, c, h⟩
  exact ⟨a, nr, tn, dx, q1, q2, q3, b, c, h1 _ _ h⟩
def bEq (C : Addr) : List V → Hp → AK → AXK → Prop := fun vs kn Q _ => ∃ a b nr tn nr' tn', vs = [.ref a, .ref b] ∧ LenAt C kn a nr tn ∧ LenAt C kn b nr' tn' ∧ Q (.bl (decide (nr = nr' ∧ tn = tn'))) kn
theorem mo_eq {C : Addr} : MonoX (bEq C) := by
  rintro vs kn Q R E F h1 h2 ⟨a, b, nr, tn, nr', tn', x, y, z, h⟩
  exact ⟨a, b, nr, tn, nr', tn', x, y, z, h1 _ _ h⟩
def IsNextL (nr tn : List Bool) (n : Nat) (v : V) : Prop := (∃ k : Nat, n ≤ k ∧ inL nr tn (k : Int) = true ∧ (∀ l : Nat, n ≤ l → l < k → inL nr tn (l : Int) = false) ∧ v = .int k) ∨ ((∀ k : Nat, n ≤ k → inL nr tn (k : Int) = false) ∧ v = .non)
theorem next_all {nr tn : List Bool} {n m : Nat} (tp : 0 < tn.length) (h1 : n ≤ m) (h2 : nr.length ≤ m) (h : ∀ l : Nat, n ≤ l → l < m + tn.length → inL nr tn (l : Int) = false) (k : Nat) (hk : n ≤ k) : inL nr tn (k : Int) = false := by
  rcases Nat.lt_or_ge k (m + tn.length) with z | z
  · exact h k hk z
  · have md := Nat.mod_lt (k - m) tp
    have e : k = (m + (k - m) % tn.length) + (k - m) / tn.length * tn.length := by
      have := Nat.mod_add_div (k - m) tn.length
      rw [Nat.mul_comm] at this
      omega
    rw [e, inL_add (by omega) (Nat.dvd_mul_left _ _)]
    exact h _ (by omega) (by omega)
def bNum : List V → Hp → AK → AXK → Prop := fun vs kn Q _ => ∃ n : Nat, vs = [.int n] ∧ Q .non kn
theorem mo_num : MonoX bNum := by
  rintro vs kn Q R E F h1 h2 ⟨n, a, h⟩
  exact ⟨n, a, h1 _ _ h⟩
def bAtL (C : Addr) : List V → Hp → AK → AXK → Prop := fun vs kn Q _ => ∃ a nr tn, ∃ n : Nat, vs = [.ref a, .int n] ∧ LenAt C kn a nr tn ∧ ∀ v, IsNextL nr tn n v → Q v kn
theorem mo_atL {C : Addr} : MonoX (bAtL C) := by
  rintro vs kn Q R E F h1 h2 ⟨a, nr, tn, n, b, c, h⟩
  exact ⟨a, nr, tn, n, b, c, fun v z => h1 _ _ (h v z)⟩
def bLst (C : Addr) : List V → Hp → AK → AXK → Prop := fun vs kn Q _ => ∃ a nr tn, vs = [.ref a] ∧ LenAt C kn a nr tn ∧ ∀ v, IsNextL nr tn 0 v → Q v kn
theorem mo_lst {C : Addr} : MonoX (bLst C) := by
  rintro vs kn Q R E F h1 h2 ⟨a, nr, tn, b, c, h⟩
  exact ⟨a, nr, tn, b, c, fun v z => h1 _ _ (h v z)⟩
def bFin (C : Addr) : List V → Hp → AK → AXK → Prop := fun vs kn Q _ => ∃ a nr tn, vs = [.ref a] ∧ LenAt C kn a nr tn ∧ Q (.bl (idx tn).isEmpty) kn
theorem mo_fin {C : Addr} : MonoX (bFin C) := by
  rintro vs kn Q R E F h1 h2 ⟨a, nr, tn, b, c, h⟩
  exact ⟨a, nr, tn, b, c, h1 _ _ h⟩
def gapV (nr tn : List Bool) : V := if (idx tn).length < tn.length then .non else .int ((nr.length : Int) - 1)
def bGap (C : Addr) : List V → Hp → AK → AXK → Prop := fun vs kn Q _ => ∃ a nr tn, vs = [.ref a] ∧ LenAt C kn a nr tn ∧ Q (gapV nr tn) kn
theorem mo_gap {C : Addr} : MonoX (bGap C) := by
  rintro vs kn Q R E F h1 h2 ⟨a, nr, tn, b, c, h⟩
  exact ⟨a, nr, tn, b, c, h1 _ _ h⟩
/-! ### which numbers are in -/
def bHas (K : PySem.W.Frag) (C : Addr) : List V → Hp → AK → AXK → Prop := fun vs kn Q _ => ∃ a x nr tn, vs = [.ref a, x] ∧ LenAt C kn a nr tn ∧ ((∃ i, x = .int i ∧ Q (.bl (inL nr tn i)) kn) ∨ (Odd K kn x ∧ Q (.bl false) kn))
theorem mo_has {K : PySem.W.Frag} {C : Addr} : MonoX (bHas K C) := by
  rintro vs kn Q R E F h1 h2 ⟨a, x, nr, tn, b, c, ⟨i, e, h⟩ | ⟨o, h⟩⟩
  · exact ⟨a, x, nr, tn, b, c, .inl ⟨i, e, h1 _ _ h⟩⟩
  · exact ⟨a, x, nr, tn, b, c, .inr ⟨o, h1 _ _ h⟩⟩
theorem w_notT {c : Cw} {kn : Hp} {n : Nat} {σ : L2.St} {Q : V → Hp → Nat → Prop} {K : PySem.W.Frag} {ta : TE} (h : W c (ta σ) kn n fun x kn1 n1 => ∃ a xs, x = .ref a ∧ kn1 a = some (.tup xs) ∧ Q (.bl xs.isEmpty) kn1 n1) : W c (tNotT K ta σ) kn n Q :=
  fun H g Q' q => h H g _ fun x kn1 n1 H1 ⟨a, xs, e, hx, hq⟩ g1 => by
    subst e
    refine ⟨!xs.isEmpty, .inr (.inl ⟨xs, sqt (g1.ex _ _ hx), rfl⟩), ?_⟩
    rw [Bool.not_not]
    exact q _ _ _ _ hq g1
section
variable {P : Program} {w : World} {K : PySem.W.Frag} {mg : Str → Option Value} {base : Heap}
theorem ok_Lengths_start (T : Tx K mg) : FnOk P w K mg base CX0 1 T.f_Lengths_start T.d_Lengths_start ["self"] (liftX (bField T.c_Lengths fun b _ _ _ => .int b)) := by
  refine T.F_Lengths_start.ok sc_Lengths_start (fun vs H Q E h => ?_) (fun cdv A outer s H vs Q E hr h => ?_)
  · obtain ⟨kn, _, _, a, nr, tn, dx, q1, q2, q3, rfl, _⟩ := h
    rfl
  · obtain ⟨kn, ex, nt, a, nr, tn, dx, q1, q2, q3, rfl, ha, h⟩ := h
    refine ⟨_, (pss_one (ps_ret (pe_fld (pv 0) rfl))), ?_⟩
    refine body_of (pure_start ex nt) ?_
    exact s_ret (w_fld (w_var rfl ⟨_, _, _, _, _, rfl, ha, T.cl_Lengths, T.na_Lengths__start, rfl, h 0⟩))
theorem ok_Lengths_period (T : Tx K mg) : FnOk P w K mg base CX0 1 T.f_Lengths_period T.d_Lengths_period ["self"] (liftX (bField T.c_Lengths fun _ s _ _ => .int s)) := by
  refine T.F_Lengths_period.ok sc_Lengths_period (fun vs H Q E h => ?_) (fun cdv A outer s H vs Q E hr h => ?_)
  · obtain ⟨kn, _, _, a, nr, tn, dx, q1, q2, q3, rfl, _⟩ := h
    rfl
  · obtain ⟨kn, ex, nt, a, nr, tn, dx, q1, q2, q3, rfl, ha, h⟩ := h
    refine ⟨_, (pss_one (ps_ret (pe_fld (pv 0) rfl))), ?_⟩
    refine body_of (pure_start ex nt) ?_
    exact s_ret (w_fld (w_var rfl ⟨_, _, _, _, _, rfl, ha, T.cl_Lengths, T.na_Lengths__period, rfl, h 0⟩))
theorem ok_Lengths_low (T : Tx K mg) : FnOk P w K mg base CX0 1 T.f_Lengths_low T.d_Lengths_low ["self"] (liftX (bField T.c_Lengths fun _ _ q1 _ => .ref q1)) := by
  refine T.F_Lengths_low.ok sc_Lengths_low (fun vs H Q E h => ?_) (fun cdv A outer s H vs Q E hr h => ?_)
  · obtain ⟨kn, _, _, a, nr, tn, dx, q1, q2, q3, rfl, _⟩ := h
    rfl
  · obtain ⟨kn, ex, nt, a, nr, tn, dx, q1, q2, q3, rfl, ha, h⟩ := h
    refine ⟨_, (pss_one (ps_ret (pe_fld (pv 0) rfl))), ?_⟩
    refine body_of (pure_start ex nt) ?_
    exact s_ret (w_fld (w_var rfl ⟨_, _, _, _, _, rfl, ha, T.cl_Lengths, T.na_Lengths__low, rfl, h 0⟩))
theorem ok_Lengths_rests (T : Tx K mg) : FnOk P w K mg base CX0 1 T.f_Lengths_rests T.d_Lengths_rests ["self"] (liftX (bField T.c_Lengths fun _ _ _ q2 => .ref q2)) := by
  refine T.F_Lengths_rests.ok sc_Lengths_rests (fun vs H Q E h => ?_) (fun cdv A outer s H vs Q E hr h => ?_)
  · obtain ⟨kn, _, _, a, nr, tn, dx, q1, q2, q3, rfl, _⟩ := h
    rfl
  · obtain ⟨kn, ex, nt, a, nr, tn, dx, q1, q2, q3, rfl, ha, h⟩ := h
    refine ⟨_, (pss_one (ps_ret (pe_fld (pv 0) rfl))), ?_⟩
    refine body_of (pure_start ex nt) ?_
    exact s_ret (w_fld (w_var rfl ⟨_, _, _, _, _, rfl, ha, T.cl_Lengths, T.na_Lengths__rests, rfl, h 0⟩))
theorem ok_Lengths___eq__ (T : Tx K mg) : FnOk P w K mg base CX0 1 T.f_Lengths___eq__ T.d_Lengths___eq__ ["self", "other"] (liftX (bEq T.c_Lengths)) := by
  refine T.F_Lengths___eq__.ok sc_Lengths___eq__ (fun vs H Q E h => ?_) (fun cdv A outer s H vs Q E hr h => ?_)
  · obtain ⟨kn, _, _, a, b, nr, tn, nr', tn', rfl, _⟩ := h
    rfl
  · obtain ⟨kn, ex, nt, a, b, nr, tn, nr', tn', rfl, ⟨⟨dx, q1, q2, q3, z1, z2, z3, z4⟩, F1⟩, ⟨⟨dx', q1', q2', q3', y1, y2, y3, y4⟩, F2⟩, h⟩ := h
    refine ⟨_, (pss_one (ps_ret (pe_and (pe_callB call_isi (by rfl) T.b_isinstance (by decide +kernel) (pa_cons (pv 1) (pa_cons (pe_glob (v := .ref T.c_Lengths) (by rfl) T.g_Lengths rfl) pa_nil))) (pe_and (pe_cmpR op_eq (pe_fld (pv 0) rfl) (pe_fld (pv 1) rfl) (nomark _)) (pe_one (pe_cmpR (op_eqD hr.units) (pe_fld (pv 0) rfl) (pe_fld (pv 1) rfl) (nomark _))))))), ?_⟩
    refine body_of (pure_start ex nt) ?_
    have cL := T.cl_Lengths
    walk_at "wi"
    refine r_isi (.own _) (T.own_Lengths.ty y1) T.kit_Lengths ?_
    walk_at "wi"
    refine w_fld (w_var rfl ⟨_, _, _, _, _, rfl, z1, cL, T.na_Lengths__start, rfl, ?_⟩)
    refine w_fld (w_var rfl ⟨_, _, _, _, _, rfl, y1, cL, T.na_Lengths__start, rfl, ?_⟩)
    walk_at "wi"
    rw [int_eq]
    refine ⟨fun hb => ?_, fun hb => ?_⟩
    · have hb : nr.length = nr'.length := by have := of_decide_eq_true hb; omega
      walk_at "wi"
      refine w_fld (w_var rfl ⟨_, _, _, _, _, rfl, z1, cL, T.na_Lengths__marks, rfl, ?_⟩)
      refine w_fld (w_var rfl ⟨_, _, _, _, _, rfl, y1, cL, T.na_Lengths__marks, rfl, ?_⟩)
      walk_at "wi"
      refine r_eq_d (.tup (sqt z4) (dp_bls _)) (.tup (sqt y4) (dp_bls _)) (shaped_blT _) (shaped_blT _) ?_
      rw [eqv_blT]
      have e : decide (marks nr tn = marks nr' tn') = decide (nr = nr' ∧ tn = tn') := decide_eq_decide.2 ⟨fun e => marks_inj F1.pos hb e, fun e => by rw [e.1, e.2]⟩
      rw [e]
      exact h 0
    · have hb : ¬ nr.length = nr'.length := by have := of_decide_eq_false hb; omega
      have e : decide (nr = nr' ∧ tn = tn') = false := decide_eq_false fun z => hb (by rw [z.1])
      rw [e] at h
      exact h 0
theorem ok_Lengths___contains__ (T : Tx K mg) : FnOk P w K mg base CX0 2 T.f_Lengths___contains__ T.d_Lengths___contains__ ["self", "x"] (liftX (bHas K T.c_Lengths)) := by
  refine T.F_Lengths___contains__.ok sc_Lengths___contains__ (fun vs H Q E h => ?_) (fun cdv A outer s H vs Q E hr h => ?_)
  · obtain ⟨kn, _, _, a, x, nr, tn, rfl, _⟩ := h
    rfl
  · obtain ⟨kn, ex, nt, a, x, nr, tn, rfl, ⟨⟨dx, q1, q2, q3, z1, z2, z3, z4⟩, F⟩, h⟩ := h
    refine ⟨_, (pss_cons (ps_if (PW.pt (pw_or (pt_not (pt_val (pe_call (ok_is_whole T) (hr.mono (by decide)) (by rfl) T.g_is_whole T.F_is_whole.kp T.bd_is_whole .nil pass0 (pa_cons (pv 1) pa_nil)))) (pw_or1 (pt_cmpR op_lt (pv 1) pe_int (nomark _)))))
       (pss_one (ps_ret pe_bl))
       pss_nil)
       (pss_cons (ps_if (pt_cmpR op_lt (pv 1) (pe_fld (pv 0) rfl) (nomark _))
       (pss_one (ps_ret (pe_ix (show IxR _ (rIxT K) from ix_tup) (pe_fld (pv 0) rfl) (pv 1) (fun _ _ => rfl))))
       pss_nil)
       (pss_one (ps_ret (pe_ix (show IxR _ (rIxT K) from ix_tup) (pe_fld (pv 0) rfl) (pe_op op_add (pe_fld (pv 0) rfl) (pe_op op_mod (pe_op op_sub (pv 1) (pe_fld (pv 0) rfl)) (pe_fld (pv 0) rfl))) (fun _ _ => rfl)))))), ?_⟩
    refine body_of (pure_start ex nt) ?_
    have cL := T.cl_Lengths
    have tp := F.pos
    walk_at "wi"
    refine w_call mo_whole err_no ?_
    walk_at "w"
    refine ⟨_, rfl, ?_⟩
    rcases h with ⟨i, rfl, h⟩ | ⟨od, h⟩
    · refine .inl ⟨i, rfl, ?_⟩
      walk_at "wi"
      unfold inL at h
      refine ⟨fun hb => ?_, fun hb => ?_⟩
      · have hb := of_decide_eq_true hb
        rw [if_pos hb] at h
        walk_at "wi"
        exact h 0
      · have hb := of_decide_eq_false hb
        rw [if_neg hb] at h
        walk_at "wi"
        refine w_fld (w_var rfl ⟨_, _, _, _, _, rfl, z1, cL, T.na_Lengths__start, rfl, ?_⟩)
        walk_at "wi"
        refine ⟨fun hc => ?_, fun hc => ?_⟩
        · have hc := of_decide_eq_true hc
          rw [if_pos hc] at h
          walk_at "wi"
          refine w_fld (w_var rfl ⟨_, _, _, _, _, rfl, z1, cL, T.na_Lengths__marks, rfl, ?_⟩)
          obtain ⟨m, rfl⟩ : ∃ m : Nat, i = m := ⟨i.toNat, by omega⟩
          rw [Int.toNat_natCast] at h
          walk_at "wi"
          refine r_ixT z4 (at_bl (by rw [marks_len]; omega)) ?_
          rw [ix_marks_lo (by omega)]
          exact h 0
        · have hc := of_decide_eq_false hc
          rw [if_neg hc] at h
          walk_at "wi"
          refine w_fld (w_var rfl ⟨_, _, _, _, _, rfl, z1, cL, T.na_Lengths__marks, rfl, ?_⟩)
          refine w_op ?_
          refine w_fld (w_var rfl ⟨_, _, _, _, _, rfl, z1, cL, T.na_Lengths__start, rfl, ?_⟩)
          walk_at "wi"
          refine w_fld (w_var rfl ⟨_, _, _, _, _, rfl, z1, cL, T.na_Lengths__start, rfl, ?_⟩)
          walk_at "wi"
          refine w_fld (w_var rfl ⟨_, _, _, _, _, rfl, z1, cL, T.na_Lengths__period, rfl, ?_⟩)
          refine r_I (by omega) ?_
          walk_at "wi"
          obtain ⟨m, hm, hm2⟩ := mod_nat (i - (nr.length : Int)) tp
          rw [hm, ← Int.natCast_add]
          refine r_ixT z4 (at_bl (by rw [marks_len]; omega)) ?_
          rw [ix_marks_hi hm2, hi_eq hm]
          exact h 0
    · refine .inr ⟨od, ?_⟩
      walk_at "wi"
      exact h 0
theorem ok_check_number (T : Tx K mg) : FnOk P w K mg base CX0 2 T.f_check_number T.d_check_number ["value"] (liftX bNum) := by
  refine T.F_check_number.ok sc_check_number (fun vs H Q E h => ?_) (fun cdv A outer s H vs Q E hr h => ?_)
  · obtain ⟨kn, _, _, n, rfl, _⟩ := h
    rfl
  · obtain ⟨kn, ex, nt, n, rfl, h⟩ := h
    refine ⟨_, (pss_one (ps_if (PW.pt (pw_or (pt_not (pt_val (pe_call (ok_is_whole T) (hr.mono (by decide)) (by rfl) T.g_is_whole T.F_is_whole.kp T.bd_is_whole .nil pass0 (pa_cons (pv 0) pa_nil)))) (pw_or1 (pt_cmpR op_lt (pv 0) pe_int (nomark _)))))
       (pss_one ps_never)
       pss_nil)), ?_⟩
    refine body_of (pure_start ex nt) ?_
    walk_at "wi"
    refine w_call mo_whole err_no ?_
    walk_at "w"
    refine ⟨_, rfl, .inl ⟨_, rfl, ?_⟩⟩
    walk_at "wi"
    refine ⟨fun hb => ?_, fun hb => ?_⟩
    · have hb := of_decide_eq_true hb
      omega
    · walk_at "wi"
      exact h 0
theorem ok_Lengths_at_least (T : Tx K mg) : FnOk P w K mg base CX0 4 T.f_Lengths_at_least T.d_Lengths_at_least ["self", "n"] (liftX (bAtL T.c_Lengths)) := by
  refine T.F_Lengths_at_least.ok sc_Lengths_at_least (fun vs H Q E h => ?_) (fun cdv A outer s H vs Q E hr h => ?_)
  · obtain ⟨kn, _, _, a, nr, tn, n, rfl, _⟩ := h
    rfl
  · obtain ⟨kn, ex, nt, a, nr, tn, n, rfl, DA, h⟩ := h
    obtain ⟨dx, q1, q2, q3, z1, z2, z3, z4⟩ := DA.at_
    have F := DA.form
    refine ⟨_, (pss_cons (ps_expr (pe_call (ok_check_number T) (hr.mono (by decide)) (by rfl) T.g_check_number T.F_check_number.kp T.bd_check_number .nil pass0 (pa_cons (pv 1) pa_nil)))
       (pss_cons (ps_for PassesOwn.never rfl (pi_rangeA (prg_2 (by rfl) T.b_range (pv 1) (pe_op op_add (pe_callB (c_max2 rfl) (by rfl) T.b_max (by decide +kernel) (pa_cons (pe_callTy c_int (by rfl) T.b_int boot_int (pa_cons (pv 1) pa_nil)) (pa_cons (pe_fld (pv 0) rfl) pa_nil))) (pe_fld (pv 0) rfl)))) (pg_name (i := 2) sc_Lengths_at_least.nd rfl (by first | exact Or.inl rfl | exact Or.inr rfl))
       (pss_one (ps_if (pt_cmpR (op_inO T.sm_Lengths___contains__ (ok_Lengths___contains__ T) (hr.mono (by decide)) T.bd_Lengths___contains__ pass0) (pv 2) (pv 0) (by rfl))
       (pss_one (ps_ret (pv 2)))
       pss_nil)))
       (pss_one (ps_ret pe_non)))), ?_⟩
    refine body_of (pure_start ex nt) ?_
    have cL := T.cl_Lengths
    have tp := F.pos
    walk_at "wi"
    refine w_call mo_num err_no ?_
    walk_at "w"
    refine ⟨n, rfl, ?_⟩
    walk_at "wi"
    refine s_forJ (i_rgA ?_)
    walk_at "w"
    refine w_fld (w_var rfl ⟨_, _, _, _, _, rfl, z1, cL, T.na_Lengths__start, rfl, ?_⟩)
    walk_at "w"
    refine r_max2 ?_
    obtain ⟨m, hm, hm1, hm2⟩ : ∃ m : Nat, (if (nr.length : Int) > (n : Int) then (nr.length : Int) else (n : Int)) = m ∧ n ≤ m ∧ nr.length ≤ m := by
      by_cases z : (nr.length : Int) > (n : Int)
      · exact ⟨nr.length, by rw [if_pos z], by omega, by omega⟩
      · exact ⟨n, by rw [if_neg z], by omega, by omega⟩
    rw [hm]
    walk_at "w"
    refine w_fld (w_var rfl ⟨_, _, _, _, _, rfl, z1, cL, T.na_Lengths__period, rfl, ?_⟩)
    refine r_I0 ?_
    refine ⟨(n : Int), _, rfl, rfl, ?_⟩
    have hc : ((m : Int) + ((tn.length : Nat) : Int) - (n : Int)).toNat = m + tn.length - n := by omega
    rw [hc]
    refine ⟨_, (fun _ => True), fun j σ' k mm => mm = 0 ∧ k = kn ∧ (∃ y2, σ' = [some (.ref a), some (.int (n : Int)), y2]) ∧ ∀ l : Nat, n ≤ l → l < n + j → inL nr tn (l : Int) = false, gives_rng, ⟨rfl, rfl, ⟨_, rfl⟩, fun l hl hl2 => absurd hl2 (by omega)⟩, fun _ _ _ _ _ => trivial, ?_, ?_⟩
    · rintro j x σ' k mm hx ⟨rfl, rfl, ⟨y2, rfl⟩, hp⟩
      rw [List.getElem?_map] at hx
      obtain ⟨l, hl, rfl⟩ := Option.map_eq_some_iff.1 hx
      obtain ⟨hj1, hj2⟩ := List.getElem?_eq_some_iff.1 hl
      rw [List.length_range] at hj1
      rw [List.getElem_range] at hj2
      subst hj2
      walk_at "wi"
      refine r_inO mo_has z1 ⟨_, _, _, _, rfl, DA, .inl ⟨_, rfl, _, rfl, ?_⟩⟩
      rw [if_neg Bool.false_ne_true, ← Int.natCast_add]
      refine ⟨_, rfl, fun hb => ?_, fun hb => ?_⟩
      · walk_at "wi"
        exact h _ (.inl ⟨n + j, by omega, hb, hp, rfl⟩) 0
      · walk_at "wi"
        refine ⟨⟨_, rfl⟩, fun l hl hl2 => ?_⟩
        rcases Nat.lt_or_ge l (n + j) with z | z
        · exact hp l hl z
        · obtain rfl : l = n + j := by omega
          exact hb
    · rintro σ' k mm ⟨rfl, rfl, ⟨y2, rfl⟩, hp⟩
      rw [List.length_map, List.length_range] at hp
      walk_at "wi"
      exact h _ (.inr ⟨next_all tp hm1 hm2 fun l z1 z2 => hp l z1 (by omega), rfl⟩) 0
theorem ok_Lengths_is_finite (T : Tx K mg) : FnOk P w K mg base CX0 2 T.f_Lengths_is_finite T.d_Lengths_is_finite ["self"] (liftX (bFin T.c_Lengths)) := by
  refine T.F_Lengths_is_finite.ok sc_Lengths_is_finite (fun vs H Q E h => ?_) (fun cdv A outer s H vs Q E hr h => ?_)
  · obtain ⟨kn, _, _, a, nr, tn, rfl, _⟩ := h
    rfl
  · obtain ⟨kn, ex, nt, a, nr, tn, rfl, DA, h⟩ := h
    refine ⟨_, (pss_one (ps_ret (pe_notT (pe_fld (pv 0) rfl)))), ?_⟩
    refine body_of (pure_start ex nt) ?_
    obtain ⟨dx, q1, q2, q3, z1, z2, z3, z4⟩ := DA.at_
    refine s_ret (w_notT (w_fld (w_var rfl ⟨_, _, _, _, _, rfl, z1, T.cl_Lengths, T.na_Lengths__rests, rfl, q2, _, rfl, z3, ?_⟩)))
    have e : (natV (idx tn)).isEmpty = (idx tn).isEmpty := by cases idx tn <;> rfl
    rw [e]
    exact h 0
theorem ok_Lengths_last_gap (T : Tx K mg) : FnOk P w K mg base CX0 2 T.f_Lengths_last_gap T.d_Lengths_last_gap ["self"] (liftX (bGap T.c_Lengths)) := by
  refine T.F_Lengths_last_gap.ok sc_Lengths_last_gap (fun vs H Q E h => ?_) (fun cdv A outer s H vs Q E hr h => ?_)
  · obtain ⟨kn, _, _, a, nr, tn, rfl, _⟩ := h
    rfl
  · obtain ⟨kn, ex, nt, a, nr, tn, rfl, DA, h⟩ := h
    refine ⟨_, (pss_cons (ps_if (pt_cmpR op_lt (pe_callB c_len (by rfl) T.b_len PySem.boot_len (pa_cons (pe_fld (pv 0) rfl) pa_nil)) (pe_fld (pv 0) rfl) (nomark _))
       (pss_one (ps_ret pe_non))
       pss_nil)
       (pss_one (ps_ret (pe_op op_sub (pe_fld (pv 0) rfl) pe_int)))), ?_⟩
    refine body_of (pure_start ex nt) ?_
    obtain ⟨dx, q1, q2, q3, z1, z2, z3, z4⟩ := DA.at_
    have cL := T.cl_Lengths
    walk_at "wi"
    refine w_fld (w_var rfl ⟨_, _, _, _, _, rfl, z1, cL, T.na_Lengths__rests, rfl, ?_⟩)
    walk_at "wi"
    refine w_fld (w_var rfl ⟨_, _, _, _, _, rfl, z1, cL, T.na_Lengths__period, rfl, ?_⟩)
    walk_at "wi"
    rw [List.length_map]
    unfold gapV at h
    refine ⟨fun hb => ?_, fun hb => ?_⟩
    · have hb := of_decide_eq_true hb
      rw [if_pos (by omega)] at h
      walk_at "wi"
      exact h 0
    · have hb := of_decide_eq_false hb
      rw [if_neg (by omega)] at h
      walk_at "wi"
      refine w_fld (w_var rfl ⟨_, _, _, _, _, rfl, z1, cL, T.na_Lengths__start, rfl, ?_⟩)
      walk_at "wi"
      exact h 0
end

end NN

namespace NN
open PySem PySem.Spec PyProof.Rows L2 LamX AW ClX
open Tx1 Ln
/-! ### of, since, steps, none -/
/-- of(..), every(), none() -/
def bNew (C : Addr) (nr tn : List Bool) : List V → Hp → AK → AXK → Prop := fun vs kn Q _ => vs = [] ∧ NewL C kn nr tn Q
theorem mo_new {C : Addr} {nr tn : List Bool} : MonoX (bNew C nr tn) := by
  rintro vs kn Q R E F h1 h2 ⟨a, h⟩
  exact ⟨a, fun x k z1 z2 z3 => h1 _ _ (h x k z1 z2 z3)⟩
def bOf (C : Addr) : List V → Hp → AK → AXK → Prop := fun vs kn Q _ => ∃ (p : Addr) (xs : List Nat), vs = [.ref p] ∧ kn p = some (.tup (natV xs)) ∧ xs.length ≤ 1000 ∧ (∀ n ∈ xs, n ≤ 399) ∧ Small 400 1 xs [] ∧ NewL C kn (formN 400 1 xs []) (formT 1 []) Q
theorem mo_of {C : Addr} : MonoX (bOf C) := by
  rintro vs kn Q R E F h1 h2 ⟨p, xs, a, b, c, d, e, h⟩
  exact ⟨p, xs, a, b, c, d, e, fun x k z1 z2 z3 => h1 _ _ (h x k z1 z2 z3)⟩
theorem mask1 : maskOf 1 [] = [false] := rfl
theorem least1 : leastP [false] = 1 := by decide
theorem fin_T : formT 1 [] = [false] := by decide
def bSince (C : Addr) : List V → Hp → AK → AXK → Prop := fun vs kn Q _ => ∃ b : Nat, vs = [.int b] ∧ b ≤ 399 ∧ NewL C kn (formN b 1 [] [0]) (formT 1 [0]) Q
theorem mo_since {C : Addr} : MonoX (bSince C) := by
  rintro vs kn Q R E F h1 h2 ⟨b, e, z, h⟩
  exact ⟨b, e, z, fun x k z1 z2 z3 => h1 _ _ (h x k z1 z2 z3)⟩
def bSteps (C : Addr) : List V → Hp → AK → AXK → Prop := fun vs kn Q _ => ∃ b p : Nat, vs = [.int b, .int p] ∧ b ≤ 399 ∧ 1 ≤ p ∧ p ≤ 400 ∧ Small b p [] [b % p] ∧ NewL C kn (formN b p [] [b % p]) (formT p [b % p]) Q
theorem mo_steps {C : Addr} : MonoX (bSteps C) := by
  rintro vs kn Q R E F h1 h2 ⟨b, p, e, z, y, y2, s, h⟩
  exact ⟨b, p, e, z, y, y2, s, fun x k z1 z2 z3 => h1 _ _ (h x k z1 z2 z3)⟩
theorem small_of {st p : Nat} {xs ys : List Nat} (h : st + p ≤ 400) : Small st p xs ys := by
  unfold Small
  have h1 := (begin_spec (maskOf st xs) (maskOf p ys) (leastP (maskOf p ys))).1
  have h2 := leastP_le (maskOf p ys)
  rw [mask_len] at h1 h2
  omega
section
variable {P : Program} {w : World} {K : PySem.W.Frag} {mg : Str → Option Value} {base : Heap}
theorem ok_Lengths_every (T : Tx K mg) : FnOk P w K mg base CX0 7 T.f_Lengths_every T.d_Lengths_every [] (liftX (bNew T.c_Lengths [] [true])) := by
  refine T.F_Lengths_every.ok sc_Lengths_every (fun vs H Q E h => ?_) (fun cdv A outer s H vs Q E hr h => ?_)
  · obtain ⟨kn, _, _, rfl, _⟩ := h
    rfl
  · obtain ⟨kn, ex, nt, rfl, h⟩ := h
    refine ⟨_, (pss_one (ps_ret (pe_make T.mk_Lengths (ok_Lengths___init__ T) (hr.mono (by decide)) (by rfl) T.g_Lengths (Classical.choose_spec T.bd4_Lengths).2 (Classical.choose_spec T.bd4_Lengths).1 pass0 (pa_cons pe_int (pa_cons (pe_tup pa_nil) (pa_cons pe_int (pa_cons (pe_tup (pa_cons pe_int pa_nil)) pa_nil))))))), ?_⟩
    refine body_of (pure_start ex nt) ?_
    walk_at "wi"
    refine w_len ?_
    walk_at "w"
    refine ⟨show 0 ≤ 1000 by decide, fun t1 h1 => ?_⟩
    walk_at "w"
    refine ⟨show 1 ≤ 1000 by decide, fun t2 h2 => ?_⟩
    walk_at "w"
    refine ⟨_, _, 0, 1, [], [0], rfl, ⟨by decide, by decide, by decide, by decide, by decide, fun n hn => (by cases hn), fun n hn => (by rw [List.mem_singleton.1 hn]; decide), ⟨t1, rfl, .inr (.inl (know h2 upd_same))⟩, ⟨t2, rfl, .inr (.inl upd_same)⟩⟩, (show _ ≤ 400 by decide), fun x k e n l => ?_⟩
    exact h x k (ext_tr (ext_new h1) (ext_tr (ext_new h2) e)) (free_ext (ext_new h1) (free_ext (ext_new h2) n)) l 0
theorem oR_Lengths_every (T : Tx K mg) : FnR P w K mg base CX0 7 T.f_Lengths_every (liftX (bNew T.c_Lengths [] [true])) :=
  ((ok_Lengths_every T).raw T.bd_Lengths_every .nil).imp fun vs H Q E h => by rw [List.append_nil]; exact h
theorem ok_Lengths_none (T : Tx K mg) : FnOk P w K mg base CX0 7 T.f_Lengths_none T.d_Lengths_none [] (liftX (bNew T.c_Lengths [] [false])) := by
  refine T.F_Lengths_none.ok sc_Lengths_none (fun vs H Q E h => ?_) (fun cdv A outer s H vs Q E hr h => ?_)
  · obtain ⟨kn, _, _, rfl, _⟩ := h
    rfl
  · obtain ⟨kn, ex, nt, rfl, h⟩ := h
    refine ⟨_, (pss_one (ps_ret (pe_make T.mk_Lengths (ok_Lengths___init__ T) (hr.mono (by decide)) (by rfl) T.g_Lengths (Classical.choose_spec T.bd1_Lengths).2 (Classical.choose_spec T.bd1_Lengths).1 pass0 (pa_cons pe_int pa_nil)))), ?_⟩
    refine body_of (pure_start ex nt) ?_
    walk_at "wi"
    refine w_len ?_
    walk_at "w"
    refine ⟨_, _, 0, 1, [], [], rfl, ⟨by decide, by decide, by decide, by decide, by decide, fun n hn => (by cases hn), fun n hn => (by cases hn), ⟨_, rfl, .inr (.inr T.kt_dl_Lengths___init__)⟩, ⟨_, rfl, .inr (.inr T.kt_dr_Lengths___init__)⟩⟩, (show _ ≤ 400 by decide), fun x k e n l => ?_⟩
    exact h x k e n l 0
theorem oR_Lengths_none (T : Tx K mg) : FnR P w K mg base CX0 7 T.f_Lengths_none (liftX (bNew T.c_Lengths [] [false])) :=
  ((ok_Lengths_none T).raw T.bd_Lengths_none .nil).imp fun vs H Q E h => by rw [List.append_nil]; exact h
theorem oR_Lengths_of (T : Tx K mg) : FnR P w K mg base CX0 8 T.f_Lengths_of (spStar 0 (bOf T.c_Lengths)) := by
  obtain ⟨oc, od, kV, doc, pm, an, cdv, ct, osl, hfd, lk, hcd⟩ := T.F_Lengths_of.ex
  rw [hfd] at lk
  refine StX.fn_star (ps := []) (pv := "numbers") lk hcd sc_Lengths_of StX.cxUp_none (fun us rest hl => ?_) (fun A outer s H vs Q E hr h => ?_)
  · obtain rfl := List.eq_nil_of_length_eq_zero hl
    cases rest with
    | nil => rfl
    | cons r rs => rfl
  · obtain ⟨kn, ex, nt, p, xs, rfl, hp, lx, hx, sm, h⟩ := h
    refine ⟨_, PSs.nox (pss_cons (ps_for PassesOwn.never rfl (pi_tup (pv 0)) (pg_name (i := 1) sc_Lengths_of.nd rfl (by first | exact Or.inl rfl | exact Or.inr rfl))
       (pss_one (ps_expr (pe_call (ok_check_argument T) (hr.mono (by decide)) (by rfl) T.g_check_argument T.F_check_argument.kp T.bd_check_argument .nil pass0 (pa_cons (pv 1) (pa_cons pe_int (pa_cons (pe_op op_sub (pe_cval (pe_glob (v := .ref T.c_Lengths) (by rfl) T.g_Lengths rfl)) pe_int) pa_nil)))))))
       (pss_one (ps_ret (pe_make T.mk_Lengths (ok_Lengths___init__ T) (hr.mono (by decide)) (by rfl) T.g_Lengths (Classical.choose_spec T.bd2_Lengths).2 (Classical.choose_spec T.bd2_Lengths).1 pass0 (pa_cons (pe_cval (pe_glob (v := .ref T.c_Lengths) (by rfl) T.g_Lengths rfl)) (pa_cons (pv 0) pa_nil)))))), ?_⟩
    refine body_of (pure_start ex nt) ?_
    obtain ⟨mu, hmu⟩ := T.cv_Lengths_MOST
    walk_at "wi"
    refine s_forJ (i_tup (w_var rfl ⟨p, _, rfl, hp, ?_⟩))
    refine ⟨_, _, fun j σ' k m => m = 0 ∧ k = kn ∧ ∃ y, σ' = [some (.ref p), y], gives_tup, ⟨rfl, rfl, _, rfl⟩, fun j σ' k m hh => by rw [hh.2.1]; exact hp, ?_, ?_⟩
    · rintro j x σ' k m hj ⟨rfl, rfl, y, rfl⟩
      rw [List.getElem?_map] at hj
      obtain ⟨a, ha, rfl⟩ := Option.map_eq_some_iff.1 hj
      have ha := hx a (List.mem_of_getElem? ha)
      walk_at "wi"
      refine w_call (EA := fun _ _ _ _ => False) mo_arg err_no ?_
      walk_at "w"
      refine ⟨_, _, _, _, rfl, T.cr_Lengths, hmu, ?_⟩
      walk_at "w"
      refine ⟨_, _, _, rfl, by omega, by omega, ?_⟩
      walk_at "wi"
      all_goals first | exact ⟨rfl, rfl, _, rfl⟩ | exact ⟨rfl, _, rfl⟩ | exact ⟨_, rfl⟩ | rfl
    · rintro σ' k m ⟨rfl, rfl, y, rfl⟩
      walk_at "wi"
      refine w_len ?_
      walk_at "w"
      refine ⟨_, _, _, _, rfl, T.cr_Lengths, hmu, ?_⟩
      walk_at "w"
      refine ⟨_, _, 400, 1, xs, [], rfl, ⟨by decide, by decide, by decide, lx, by decide, fun m hm => by have := hx m hm; omega, fun m hm => (by cases hm), ⟨p, rfl, .inr (.inl hp)⟩, ⟨_, rfl, .inr (.inr T.kt_dr_Lengths___init__)⟩⟩, sm, ?_⟩
      exact fun x k e n l => h x k e n l 0
theorem ok_Lengths_since (T : Tx K mg) : FnOk P w K mg base CX0 7 T.f_Lengths_since T.d_Lengths_since ["least"] (liftX (bSince T.c_Lengths)) := by
  refine T.F_Lengths_since.ok sc_Lengths_since (fun vs H Q E h => ?_) (fun cdv A outer s H vs Q E hr h => ?_)
  · obtain ⟨kn, _, _, b, rfl, _⟩ := h
    rfl
  · obtain ⟨kn, ex, nt, b, rfl, hb, h⟩ := h
    refine ⟨_, (pss_cons (ps_expr (pe_call (ok_check_argument T) (hr.mono (by decide)) (by rfl) T.g_check_argument T.F_check_argument.kp T.bd_check_argument .nil pass0 (pa_cons (pv 0) (pa_cons pe_int (pa_cons (pe_op op_sub (pe_cval (pe_glob (v := .ref T.c_Lengths) (by rfl) T.g_Lengths rfl)) pe_int) pa_nil)))))
       (pss_one (ps_ret (pe_make T.mk_Lengths (ok_Lengths___init__ T) (hr.mono (by decide)) (by rfl) T.g_Lengths (Classical.choose_spec T.bd4_Lengths).2 (Classical.choose_spec T.bd4_Lengths).1 pass0 (pa_cons (pv 0) (pa_cons (pe_tup pa_nil) (pa_cons pe_int (pa_cons (pe_tup (pa_cons pe_int pa_nil)) pa_nil)))))))), ?_⟩
    refine body_of (pure_start ex nt) ?_
    obtain ⟨mu, hmu⟩ := T.cv_Lengths_MOST
    walk_at "wi"
    refine w_call mo_arg err_no ?_
    walk_at "w"
    refine ⟨_, _, _, _, rfl, T.cr_Lengths, hmu, ?_⟩
    walk_at "w"
    refine ⟨_, _, _, rfl, (by omega), (by omega), ?_⟩
    walk_at "wi"
    refine w_len ?_
    walk_at "w"
    refine ⟨show 0 ≤ 1000 by decide, fun t1 h1 => ?_⟩
    walk_at "w"
    refine ⟨show 1 ≤ 1000 by decide, fun t2 h2 => ?_⟩
    walk_at "w"
    refine ⟨_, _, b, 1, [], [0], rfl, ⟨by omega, by decide, by decide, by decide, by decide, fun n hn => (by cases hn), fun n hn => (by rw [List.mem_singleton.1 hn]; decide), ⟨t1, rfl, .inr (.inl (know h2 upd_same))⟩, ⟨t2, rfl, .inr (.inl upd_same)⟩⟩, small_of (by omega), fun x k e n l => ?_⟩
    exact h x k (ext_tr (ext_new h1) (ext_tr (ext_new h2) e)) (free_ext (ext_new h1) (free_ext (ext_new h2) n)) l 0
theorem oR_Lengths_since (T : Tx K mg) : FnR P w K mg base CX0 7 T.f_Lengths_since (liftX (bSince T.c_Lengths)) :=
  ((ok_Lengths_since T).raw T.bd_Lengths_since .nil).imp fun vs H Q E h => by rw [List.append_nil]; exact h
theorem ok_Lengths_steps (T : Tx K mg) : FnOk P w K mg base CX0 7 T.f_Lengths_steps T.d_Lengths_steps ["first", "by"] (liftX (bSteps T.c_Lengths)) := by
  refine T.F_Lengths_steps.ok sc_Lengths_steps (fun vs H Q E h => ?_) (fun cdv A outer s H vs Q E hr h => ?_)
  · obtain ⟨kn, _, _, b, p, rfl, _⟩ := h
    rfl
  · obtain ⟨kn, ex, nt, b, p, rfl, hb, p1, p2, sm, h⟩ := h
    refine ⟨_, (pss_cons (ps_expr (pe_call (ok_check_argument T) (hr.mono (by decide)) (by rfl) T.g_check_argument T.F_check_argument.kp T.bd_check_argument .nil pass0 (pa_cons (pv 0) (pa_cons pe_int (pa_cons (pe_op op_sub (pe_cval (pe_glob (v := .ref T.c_Lengths) (by rfl) T.g_Lengths rfl)) pe_int) pa_nil)))))
       (pss_cons (ps_expr (pe_call (ok_check_argument T) (hr.mono (by decide)) (by rfl) T.g_check_argument T.F_check_argument.kp T.bd_check_argument .nil pass0 (pa_cons (pv 1) (pa_cons pe_int (pa_cons (pe_cval (pe_glob (v := .ref T.c_Lengths) (by rfl) T.g_Lengths rfl)) pa_nil)))))
       (pss_one (ps_ret (pe_make T.mk_Lengths (ok_Lengths___init__ T) (hr.mono (by decide)) (by rfl) T.g_Lengths (Classical.choose_spec T.bd4_Lengths).2 (Classical.choose_spec T.bd4_Lengths).1 pass0 (pa_cons (pv 0) (pa_cons (pe_tup pa_nil) (pa_cons (pv 1) (pa_cons (pe_tup (pa_cons (pe_op op_mod (pv 0) (pv 1)) pa_nil)) pa_nil))))))))), ?_⟩
    refine body_of (pure_start ex nt) ?_
    obtain ⟨mu, hmu⟩ := T.cv_Lengths_MOST
    have hm := Nat.mod_lt b (show p > 0 by omega)
    walk_at "wi"
    refine w_call mo_arg err_no ?_
    walk_at "w"
    refine ⟨_, _, _, _, rfl, T.cr_Lengths, hmu, ?_⟩
    walk_at "w"
    refine ⟨_, _, _, rfl, (by omega), (by omega), ?_⟩
    walk_at "wi"
    refine w_call mo_arg err_no ?_
    walk_at "w"
    refine ⟨_, _, _, _, rfl, T.cr_Lengths, hmu, ?_⟩
    walk_at "w"
    refine ⟨_, _, _, rfl, (by omega), (by omega), ?_⟩
    walk_at "wi"
    refine w_len ?_
    walk_at "w"
    refine ⟨show 0 ≤ 1000 by decide, fun t1 h1 => ?_⟩
    walk_at "w"
    refine r_I (by omega) ?_
    walk_at "w"
    refine ⟨show 1 ≤ 1000 by decide, fun t2 h2 => ?_⟩
    walk_at "w"
    rw [← Int.natCast_emod]
    refine ⟨_, _, b, p, [], [b % p], rfl, ⟨by omega, p1, p2, by decide, by show 1 ≤ 1000; decide, fun n hn => (by cases hn), fun n hn => (by rw [List.mem_singleton.1 hn]; exact hm), ⟨t1, rfl, .inr (.inl (know h2 upd_same))⟩, ⟨t2, rfl, .inr (.inl upd_same)⟩⟩, sm, fun x k e n l => ?_⟩
    exact h x k (ext_tr (ext_new h1) (ext_tr (ext_new h2) e)) (free_ext (ext_new h1) (free_ext (ext_new h2) n)) l 0
theorem oR_Lengths_steps (T : Tx K mg) : FnR P w K mg base CX0 7 T.f_Lengths_steps (liftX (bSteps T.c_Lengths)) :=
  ((ok_Lengths_steps T).raw T.bd_Lengths_steps .nil).imp fun vs H Q E h => by rw [List.append_nil]; exact h
end

end NN

namespace NN
open PySem PySem.Spec PyProof.Rows L2 LamX AW ClX
open Tx1 Ln
/-! ### joined -/
theorem nf_self {K : PySem.W.Frag} {C : Addr} : PySem.W.notFirst K C (.ref C) = true := by
  unfold PySem.W.notFirst
  simp
theorem inL_args {st p : Nat} {xs ys : List Nat} (h : 1 ≤ p) (n : Nat) : inL (formN st p xs ys) (formT p ys) (n : Int) = if n < st then decide (n ∈ xs) else decide (n % p ∈ ys) := by
  have := inL_form (near := maskOf st xs) (turn := maskOf p ys) (by rw [mask_len]; exact h) n
  rw [mask_len, mask_len] at this
  unfold formN formT
  rw [this]
  by_cases z : n < st
  · rw [if_pos z, if_pos z, ix_mask z]
  · rw [if_neg z, if_neg z, ix_mask (Nat.mod_lt _ h)]
/-- what is told of each number: Lengths of it -/
theorem inL_told {P : Nat → Bool} {st p : Nat} (hp : 1 ≤ p) (hP : ∀ n, st ≤ n → P (n + p) = P n) (n : Nat) : inL (formN st p (lowOf P st) (resOf P st p)) (formT p (resOf P st p)) (n : Int) = P n := by
  rw [inL_args hp]
  split
  · rename_i z
    unfold lowOf
    rw [Bool.eq_iff_iff, decide_eq_true_eq, List.mem_filter, List.mem_range]
    exact ⟨fun q => q.2, fun q => ⟨z, q⟩⟩
  · rename_i z
    rw [Bool.eq_iff_iff, decide_eq_true_eq]
    exact mem_res hp hP (by omega)
abbrev maxN (a b : Nat) : Nat := if b > a then b else a
def bCF (C : Addr) : List V → Hp → AK → AXK → Prop := fun vs kn Q E => ∃ a b nr tn nr' tn', vs = [.ref a, .ref b] ∧ LenAt C kn a nr tn ∧ LenAt C kn b nr' tn' ∧
  maxN nr.length nr'.length + Nat.lcm tn.length tn'.length ≤ 400 ∧ ∀ q k', Ext kn k' → k' q = some (.tup [.int (maxN nr.length nr'.length : Nat), .int (Nat.lcm tn.length tn'.length : Nat)]) → Q (.ref q) k'
theorem mo_cf {C : Addr} : MonoX (bCF C) := by
  rintro vs kn Q R E F h1 h2 ⟨a, b, nr, tn, nr', tn', e, x, y, z, h⟩
  exact ⟨a, b, nr, tn, nr', tn', e, x, y, z, fun q k u1 u2 => h1 _ _ (h q k u1 u2)⟩
def bGath (C : Addr) : List V → Hp → AK → AXK → Prop := fun vs kn Q _ => ∃ (st p : Nat) (P : Nat → Bool) (l : Addr), vs = [.int st, .int p, .ref l] ∧ kn l = some (.lst (natV ((List.range (st + p)).filter P))) ∧ 1 ≤ p ∧ st + p ≤ 400 ∧ (∀ n, st ≤ n → P (n + p) = P n) ∧
  ∀ nr tn, Form nr tn → (∀ n : Nat, inL nr tn (n : Int) = P n) → NewL C kn nr tn Q
theorem mo_gath {C : Addr} : MonoX (bGath C) := by
  rintro vs kn Q R E F h1 h2 ⟨st, p, P, l, a, b, c, d, e, h⟩
  exact ⟨st, p, P, l, a, b, c, d, e, fun nr tn f i x k z1 z2 z3 => h1 _ _ (h nr tn f i x k z1 z2 z3)⟩
def bJoin (f : Bool → Bool → Bool) (C : Addr) : List V → Hp → AK → AXK → Prop := fun vs kn Q E => ∃ a b nr tn nr' tn', vs = [.ref a, .ref b] ∧ LenAt C kn a nr tn ∧ LenAt C kn b nr' tn' ∧
  maxN nr.length nr'.length + Nat.lcm tn.length tn'.length ≤ 400 ∧ ∀ r u, Form r u → (∀ n : Nat, inL r u (n : Int) = f (inL nr tn (n : Int)) (inL nr' tn' (n : Int))) → NewL C kn r u Q
theorem mo_join {f : Bool → Bool → Bool} {C : Addr} : MonoX (bJoin f C) := by
  rintro vs kn Q R E F h1 h2 ⟨a, b, nr, tn, nr', tn', e, x, y, z, h⟩
  exact ⟨a, b, nr, tn, nr', tn', e, x, y, z, fun r u f i s k u1 u2 u3 => h1 _ _ (h r u f i s k u1 u2 u3)⟩
def bInv (C : Addr) : List V → Hp → AK → AXK → Prop := fun vs kn Q E => ∃ a nr tn, vs = [.ref a] ∧ LenAt C kn a nr tn ∧ ∀ r u, Form r u → (∀ n : Nat, inL r u (n : Int) = !inL nr tn (n : Int)) → NewL C kn r u Q
theorem mo_inv {C : Addr} : MonoX (bInv C) := by
  rintro vs kn Q R E F h1 h2 ⟨a, nr, tn, e, x, h⟩
  exact ⟨a, nr, tn, e, x, fun r u f i s k u1 u2 u3 => h1 _ _ (h r u f i s k u1 u2 u3)⟩
abbrev andn (x y : Bool) : Bool := x && !y
theorem join_per {nr tn nr' tn' : List Bool} {f : Bool → Bool → Bool} {n : Nat} (h : maxN nr.length nr'.length ≤ n) : f (inL nr tn ((n + Nat.lcm tn.length tn'.length : Nat) : Int)) (inL nr' tn' ((n + Nat.lcm tn.length tn'.length : Nat) : Int)) = f (inL nr tn (n : Int)) (inL nr' tn' (n : Int)) := by
  have : nr.length ≤ n ∧ nr'.length ≤ n := by unfold maxN at h; split at h <;> omega
  rw [inL_add this.1 (Nat.dvd_lcm_left _ _), inL_add this.2 (Nat.dvd_lcm_right _ _)]
section
variable {c : Cw} {kn : Hp} {n : Nat} {σ : L2.St} {Q : V → Hp → Nat → Prop} {K : PySem.W.Frag} {mg : Str → Option Value}
theorem r_hasL {C a : Addr} {nr tn : List Bool} {i : Int} {neg : Bool} (l : LenAt C kn a nr tn) (q : Q (.bl (if neg then !inL nr tn i else inL nr tn i)) kn n) : W c (rInO C (liftX (bHas K C)) neg (.int i) (.ref a)) kn n Q := by
  obtain ⟨dx, q1, q2, q3, a1, _⟩ := l.at_
  exact r_inO mo_has a1 ⟨_, _, _, _, rfl, l, .inl ⟨i, rfl, _, rfl, q⟩⟩
theorem r_eqLL (T : Tx K mg) {s s' : Addr} {nr tn nr' tn' : List Bool} {neg : Bool} (l : LenAt T.c_Lengths kn s nr tn) (l' : LenAt T.c_Lengths kn s' nr' tn') (q : Q (.bl (if neg then !decide (nr = nr' ∧ tn = tn') else decide (nr = nr' ∧ tn = tn'))) kn n) : W c (rEqO K T.c_Lengths (liftX (bEq T.c_Lengths)) neg (.ref s) (.ref s')) kn n Q := by
  obtain ⟨dx, q1, q2, q3, a1, _⟩ := l.at_
  obtain ⟨dx', q1', q2', q3', b1, _⟩ := l'.at_
  exact r_eqO mo_eq a1 (T.own_Lengths.ty b1) nf_self ⟨_, _, _, _, _, _, rfl, l, l', _, rfl, q⟩
theorem w_pr {C : Addr} {f : Nat → Nat → Addr → Addr → V} {E : XK} {i : Nat} {a : Addr} {nr tn : List Bool} (hv : σ[i]? = some (some (.ref a))) (l : LenAt C kn a nr tn) (q : ∀ q1 q2, kn q1 = some (.tup (natV (idx nr))) → kn q2 = some (.tup (natV (idx tn))) → Q (f nr.length tn.length q1 q2) kn n) : W c (tProp C (liftX (bField C f)) [] E (tVar i) σ) kn n Q := by
  obtain ⟨dx, q1, q2, q3, a1, a2, a3, a4⟩ := l.at_
  exact w_prop mo_field (w_var hv ⟨a, dx, _, rfl, a1, _, nr.length, tn.length, _, q1, q2, q3, rfl, a1, q q1 q2 a2 a3⟩)
def pNat (pr : Nat → Bool) : V → Bool
  | .int i => pr i.toNat
  | _ => false
def fNat (fn : Nat → Nat) : V → V
  | .int i => .int (fn i.toNat : Nat)
  | v => v
theorem nat_map {pr : Nat → Bool} {fn : Nat → Nat} (xs : List Nat) : ((natV xs).filter (pNat pr)).map (fNat fn) = natV ((xs.filter pr).map fn) := by
  unfold natV
  rw [List.filter_map, List.map_map, List.map_map]
  rfl
/-- [f(n) for n in some if ..] of what is asked of each number of a list -/
theorem w_lcNat {te : TE} {tt : TT} {tv : TE} {m : Nat} {xs : List Nat} {pr : Nat → Bool} {fn : Nat → Nat} (hte : ∀ R : V → Hp → Nat → Prop, (∀ l, kn l = some (.lst (natV xs)) → R (.ref l) kn n) → W c (te σ) kn n R) (hL : xs.length ≤ 1000)
    (hw : ∀ v : V, wipe ((wipe σ [m]).set m (some v)) [m] = wipe σ [m])
    (ht : ∀ (i : Nat) (k : Hp) (R : Bool → Hp → Nat → Prop), i ∈ xs → Ext kn k → R (pr i) k n → W c (tt ((wipe σ [m]).set m (some (.int (i : Int))))) k n R)
    (hv : ∀ (i : Nat) (k : Hp) (R : V → Hp → Nat → Prop), i ∈ xs → Ext kn k → R (.int (fn i : Nat)) k n → W c (tv ((wipe σ [m]).set m (some (.int (i : Int))))) k n R)
    (hq : ∀ D, kn D = none → Q (.ref D) (upd kn D (.lst (natV ((xs.filter pr).map fn)))) n) :
    W c (tLc (iList K te) (gName m) tt tv [m] σ) kn n Q := by
  refine w_lcP (i_list (hte _ fun l hl => ⟨l, _, rfl, hl, ?_⟩))
  refine ⟨_, _, fNat fn, pNat pr, gives_lst, by rw [List.length_map]; omega, fun k e => e _ _ hl, fun x hx k ek => ?_, fun D hD => ?_⟩
  · obtain ⟨i, hm, rfl⟩ := List.mem_map.1 hx
    refine g_name ⟨rfl, rfl, hw _, ?_⟩
    exact ht i k _ hm ek ⟨rfl, rfl, rfl, fun _ => hv i k _ hm ek ⟨rfl, rfl, rfl⟩⟩
  · rw [nat_map]
    exact hq D hD
/-- [n for n in range(a + b) if ..] of what is asked of each number -/
theorem w_lcNums {te : TE} {tt : TT} {m L : Nat} {pr : Nat → Bool} (hte : ∀ R : V → Hp → Nat → Prop, R (.int L) kn n → W c (te σ) kn n R) (hL : L ≤ 1000)
    (h9 : ∀ v : V, ((wipe σ [m]).set m (some v))[m]? = some (some v)) (hw : ∀ v : V, wipe ((wipe σ [m]).set m (some v)) [m] = wipe σ [m])
    (ht : ∀ (i : Nat) (k : Hp) (R : Bool → Hp → Nat → Prop), Ext kn k → R (pr i) k n → W c (tt ((wipe σ [m]).set m (some (.int (i : Int))))) k n R)
    (hq : ∀ D, kn D = none → Q (.ref D) (upd kn D (.lst (natV ((List.range L).filter pr)))) n) :
    W c (tLc (iRng1 (tCons te tNil)) (gName m) tt (tVar m) [m] σ) kn n Q := by
  refine w_lcP (i_rng1 (w_cons (hte _ (w_nil ⟨L, rfl, by omega, by omega, ?_⟩))))
  rw [Int.toNat_natCast]
  refine ⟨_, (fun _ => True), (fun v => v), (fun v => match v with | .int i => pr i.toNat | _ => false), gives_rng, by rw [List.length_map, List.length_range]; omega, fun _ _ => trivial, fun x hx k ek => ?_, fun D hD => ?_⟩
  · obtain ⟨i, hm, rfl⟩ := List.mem_map.1 hx
    rw [Int.zero_add]
    refine g_name ⟨rfl, rfl, hw _, ?_⟩
    exact ht i k _ ek ⟨rfl, rfl, rfl, fun _ => w_var (h9 _) ⟨rfl, rfl, rfl⟩⟩
  · rw [List.map_id', rng_filter (P := pr) (fun i hi => by rw [Int.zero_add]; rfl)]
    exact hq D hD
end
section
variable {P : Program} {w : World} {K : PySem.W.Frag} {mg : Str → Option Value} {base : Heap}
theorem ok_common_form (T : Tx K mg) : FnOk P w K mg base CX0 4 T.f_common_form T.d_common_form ["one", "other"] (liftX (bCF T.c_Lengths)) := by
  refine T.F_common_form.ok sc_common_form (fun vs H Q E h => ?_) (fun cdv A outer s H vs Q E hr h => ?_)
  · obtain ⟨kn, _, _, a, b, nr, tn, nr', tn', rfl, _⟩ := h
    rfl
  · obtain ⟨kn, ex, nt, a, b, nr, tn, nr', tn', rfl, da, db, h4, h⟩ := h
    refine ⟨_, (pss_cons (ps_set (i := 2) sc_common_form.nd rfl (by first | exact Or.inl rfl | exact Or.inr rfl) (pe_callB (c_max2 rfl) (by rfl) T.b_max (by decide +kernel) (pa_cons (pe_callTy c_int (by rfl) T.b_int boot_int (pa_cons (pe_prop (pv 0) T.cl_Lengths T.pp_Lengths_start (ok_Lengths_start T) (hr.mono (by decide)) T.bd_Lengths_start .nil pass0 (by rfl)) pa_nil)) (pa_cons (pe_prop (pv 1) T.cl_Lengths T.pp_Lengths_start (ok_Lengths_start T) (hr.mono (by decide)) T.bd_Lengths_start .nil pass0 (by rfl)) pa_nil))))
       (pss_cons (ps_set (i := 3) sc_common_form.nd rfl (by first | exact Or.inl rfl | exact Or.inr rfl) (pe_callMB cr_lcm (by rfl) T.g_lcm (pa_cons (pe_prop (pv 0) T.cl_Lengths T.pp_Lengths_period (ok_Lengths_period T) (hr.mono (by decide)) T.bd_Lengths_period .nil pass0 (by rfl)) (pa_cons (pe_prop (pv 1) T.cl_Lengths T.pp_Lengths_period (ok_Lengths_period T) (hr.mono (by decide)) T.bd_Lengths_period .nil pass0 (by rfl)) pa_nil))))
       (pss_cons (ps_expr (pe_call (ok_check_size T) (hr.mono (by decide)) (by rfl) T.g_check_size T.F_check_size.kp T.bd_check_size .nil pass0 (pa_cons (pv 2) (pa_cons (pv 3) pa_nil))))
       (pss_one (ps_ret (pe_tup (pa_cons (pv 2) (pa_cons (pv 3) pa_nil)))))))), ?_⟩
    refine body_of (pure_start ex nt) ?_
    have f2 := da.form.le
    have g2 := db.form.le
    walk_at "wi"
    refine w_pr rfl da fun _ _ _ _ => ?_
    walk_at "wi"
    refine w_pr rfl db fun _ _ _ _ => ?_
    walk_at "wi"
    refine r_max2 ?_
    have em : (if (nr'.length : Int) > (nr.length : Int) then (nr'.length : Int) else (nr.length : Int)) = ((maxN nr.length nr'.length : Nat) : Int) := by
      unfold maxN
      by_cases z : nr'.length > nr.length
      · rw [if_pos z, if_pos (by omega)]
      · rw [if_neg z, if_neg (by omega)]
    rw [em]
    walk_at "wi"
    refine w_pr rfl da fun _ _ _ _ => ?_
    walk_at "wi"
    refine w_pr rfl db fun _ _ _ _ => ?_
    walk_at "wi"
    refine r_lcm (by omega) (by omega) ?_
    walk_at "wi"
    refine w_call mo_size err_no ?_
    walk_at "wi"
    refine ⟨_, _, rfl, by omega, ?_⟩
    walk_at "wi"
    refine ⟨show 2 ≤ 1000 by decide, fun q hq => ?_⟩
    exact h q _ (ext_new hq) upd_same 0
theorem ok_gathered (T : Tx K mg) : FnOk P w K mg base CX0 7 T.f_gathered T.d_gathered ["start", "period", "numbers"] (liftX (bGath T.c_Lengths)) := by
  refine T.F_gathered.ok sc_gathered (fun vs H Q E h => ?_) (fun cdv A outer s H vs Q E hr h => ?_)
  · obtain ⟨kn, _, _, st, p, PP, l, rfl, _⟩ := h
    rfl
  · obtain ⟨kn, ex, nt, st, p, PP, l, rfl, hl, p1, sp, hP, h⟩ := h
    refine ⟨_, (pss_cons (ps_setLc (i := 3) (own := [("n", 4)]) (g := gName 4) (by rfl) sc_gathered.nd rfl rfl (sw_true rfl rfl rfl (by decide +kernel)) (pi_list (pv 2)) (blkOk_by (own := [("n", 4)]) (N := ["start", "period", "numbers", "low", "n"]) (sc := defScope s_gathered) (by decide +kernel)) (fun _ _ _ _ _ => pg_name (i := 4) sc_gathered.nd rfl (Or.inl rfl)) (fun _ _ _ _ _ => (pts_one (pt_cmpR op_lt (pv 4) (pv 0) (nomark _)))) (fun _ _ _ _ _ => (pv 4)))
       (pss_one (ps_ret (pe_make T.mk_Lengths (ok_Lengths___init__ T) (hr.mono (by decide)) (by rfl) T.g_Lengths (Classical.choose_spec T.bd4_Lengths).2 (Classical.choose_spec T.bd4_Lengths).1 pass0 (pa_cons (pv 0) (pa_cons (pv 3) (pa_cons (pv 1) (pa_cons (pe_lc (own := [("n", 4)]) (g := gName 4) (by rfl) sc_gathered.nd (pi_list (pv 2)) (blkOk_by (own := [("n", 4)]) (N := ["start", "period", "numbers", "low", "n"]) (sc := defScope s_gathered) (by decide +kernel)) (fun _ _ _ _ _ => pg_name (i := 4) sc_gathered.nd rfl (Or.inl rfl)) (fun _ _ _ _ _ => (pts_one (pt_cmpR op_ge (pv 4) (pv 0) (nomark _)))) (fun _ _ _ _ _ => (pe_op op_mod (pv 4) (pv 1)))) pa_nil)))))))), ?_⟩
    refine body_of (pure_start ex nt) ?_
    have len : ((List.range (st + p)).filter PP).length ≤ st + p := Nat.le_trans (List.length_filter_le _ _) (by rw [List.length_range]; exact Nat.le_refl _)
    refine s_seq (s_set ?_)
    refine w_lcNat (xs := (List.range (st + p)).filter PP) (pr := fun n => decide (n < st)) (fn := fun n => n) (fun R hR => w_var rfl (hR l hl)) (by omega) (fun _ => rfl) (fun i k R _ ek hR => ?_) (fun i k R _ ek hR => w_var rfl hR) fun D hD => ?_
    · walk_at "w"
      rw [decide_eq_decide.2 (show ((i : Int) < (st : Int)) ↔ i < st by omega)]
      exact hR
    rw [List.map_id', low_of]
    have e1 : Ext kn (upd kn D (.lst (natV (lowOf PP st)))) := ext_new hD
    have D1 : (upd kn D (.lst (natV (lowOf PP st)))) D = some (.lst (natV (lowOf PP st))) := upd_same
    generalize upd kn D (.lst (natV (lowOf PP st))) = k1 at e1 D1 ⊢
    walk_at "wi"
    refine w_len ?_
    walk_at "w"
    refine w_lcNat (xs := (List.range (st + p)).filter PP) (pr := fun n => decide (st ≤ n)) (fn := fun n => n % p) (fun R hR => w_var rfl (hR l (e1 _ _ hl))) (by omega) (fun _ => rfl) (fun i k R _ ek hR => ?_) (fun i k R _ ek hR => ?_) fun D2 hD2 => ?_
    · walk_at "w"
      rw [decide_eq_decide.2 (show ((st : Int) ≤ (i : Int)) ↔ st ≤ i by omega)]
      exact hR
    · walk_at "w"
      refine r_I (by omega) ?_
      rw [← Int.natCast_emod]
      exact hR
    walk_at "w"
    have l1 : (lowOf PP st).length ≤ st := Nat.le_trans (List.length_filter_le _ _) (by rw [List.length_range]; exact Nat.le_refl _)
    have l2 : (resOf PP st p).length ≤ st + p := by
      unfold resOf
      rw [List.length_map]
      exact Nat.le_trans (List.length_filter_le _ _) len
    refine ⟨_, _, st, p, lowOf PP st, resOf PP st p, rfl, ⟨by omega, p1, by omega, by omega, by omega, fun n hn => List.mem_range.1 (List.mem_filter.1 hn).1, fun n hn => ?_, ⟨D, rfl, .inl (know hD2 D1)⟩, ⟨D2, rfl, .inl upd_same⟩⟩, small_of sp, fun x k e n l => ?_⟩
    · obtain ⟨m, _, rfl⟩ := List.mem_map.1 hn
      exact Nat.mod_lt _ p1
    · exact h _ _ l.form (fun n => inL_told p1 hP n) x k (ext_tr e1 (ext_tr (ext_new hD2) e)) (free_ext e1 (free_ext (ext_new hD2) n)) l 0
theorem ok_Lengths___invert__ (T : Tx K mg) : FnOk P w K mg base CX0 8 T.f_Lengths___invert__ T.d_Lengths___invert__ ["self"] (liftX (bInv T.c_Lengths)) := by
  refine T.F_Lengths___invert__.ok sc_Lengths___invert__ (fun vs H Q E h => ?_) (fun cdv A outer s H vs Q E hr h => ?_)
  · obtain ⟨kn, _, _, a, nr, tn, rfl, _⟩ := h
    rfl
  · obtain ⟨kn, ex, nt, a, nr, tn, rfl, da, h⟩ := h
    refine ⟨_, (pss_cons (ps_par (i := 1) (j := 2) (by rfl) sc_Lengths___invert__.nd rfl rfl (by decide) rfl rfl (pa_cons (pe_fld (pv 0) rfl) (pa_cons (pe_fld (pv 0) rfl) pa_nil)) (by rfl))
       (pss_one (ps_ret (pe_call (ok_gathered T) (hr.mono (by decide)) (by rfl) T.g_gathered T.F_gathered.kp T.bd_gathered .nil pass0 (pa_cons (pv 1) (pa_cons (pv 2) (pa_cons (pe_lc (own := [("n", 3)]) (g := gName 3) (by rfl) sc_Lengths___invert__.nd (pi_range1 (by rfl) T.b_range (pa_cons (pe_op op_add (pv 1) (pv 2)) pa_nil)) (blkOk_by (own := [("n", 3)]) (N := ["self", "start", "period", "n"]) (sc := defScope s_Lengths___invert__) (by decide +kernel)) (fun _ _ _ _ _ => pg_name (i := 3) sc_Lengths___invert__.nd rfl (Or.inl rfl)) (fun _ _ _ _ _ => (pts_one (pt_cmpR (op_notInO T.sm_Lengths___contains__ (ok_Lengths___contains__ T) (hr.mono (by decide)) T.bd_Lengths___contains__ pass0) (pv 3) (pv 0) (by rfl)))) (fun _ _ _ _ _ => (pv 3))) pa_nil))))))), ?_⟩
    refine body_of (pure_start ex nt) ?_
    obtain ⟨dx, q1, q2, q3, z1, z2, z3, z4⟩ := da.at_
    have cL := T.cl_Lengths
    have fl := da.form.le
    have fp := da.form.pos
    walk_at "wi"
    refine w_fld (w_var rfl ⟨_, _, _, _, _, rfl, z1, cL, T.na_Lengths__start, rfl, ?_⟩)
    walk_at "wi"
    refine w_fld (w_var rfl ⟨_, _, _, _, _, rfl, z1, cL, T.na_Lengths__period, rfl, ?_⟩)
    walk_at "wi"
    refine ⟨_, _, rfl, ?_⟩
    walk_at "wi"
    refine w_call mo_gath err_no ?_
    walk_at "w"
    refine w_lcNums (L := nr.length + tn.length) (pr := fun n => !inL nr tn (n : Int)) (fun R hR => ?_) (by omega) (fun _ => rfl) (fun _ => rfl) (fun i k R ek hR => ?_) fun D hD => ?_
    · walk_at "w"
      exact hR
    · walk_at "w"
      refine r_hasL (LenAt.ext ek da) ?_
      exact ⟨_, rfl, hR⟩
    walk_at "w"
    refine ⟨nr.length, tn.length, fun n => !inL nr tn (n : Int), D, rfl, upd_same, fp, fl, fun n hn => congrArg not (inL_add hn (Nat.dvd_refl _)), fun r u f i x k e n l => h r u f i x k (ext_tr (ext_new hD) e) (free_ext (ext_new hD) n) l 0⟩
theorem ok_Lengths___or__ (T : Tx K mg) : FnOk P w K mg base CX0 8 T.f_Lengths___or__ T.d_Lengths___or__ ["self", "other"] (liftX (bJoin or T.c_Lengths)) := by
  refine T.F_Lengths___or__.ok sc_Lengths___or__ (fun vs H Q E h => ?_) (fun cdv A outer s H vs Q E hr h => ?_)
  · obtain ⟨kn, _, _, a, b, nr, tn, nr', tn', rfl, _⟩ := h
    rfl
  · obtain ⟨kn, ex, nt, a, b, nr, tn, nr', tn', rfl, da, db, h4, h⟩ := h
    refine ⟨_, (pss_cons (ps_asg (pe_call (ok_common_form T) (hr.mono (by decide)) (by rfl) T.g_common_form T.F_common_form.kp T.bd_common_form .nil pass0 (pa_cons (pv 0) (pa_cons (pv 1) pa_nil))) (pg_tup (by rfl) (pgs_cons (pg_name (i := 2) sc_Lengths___or__.nd rfl (by first | exact Or.inl rfl | exact Or.inr rfl)) (pgs_cons (pg_name (i := 3) sc_Lengths___or__.nd rfl (by first | exact Or.inl rfl | exact Or.inr rfl)) pgs_nil))))
       (pss_one (ps_ret (pe_call (ok_gathered T) (hr.mono (by decide)) (by rfl) T.g_gathered T.F_gathered.kp T.bd_gathered .nil pass0 (pa_cons (pv 2) (pa_cons (pv 3) (pa_cons (pe_lc (own := [("n", 4)]) (g := gName 4) (by rfl) sc_Lengths___or__.nd (pi_range1 (by rfl) T.b_range (pa_cons (pe_op op_add (pv 2) (pv 3)) pa_nil)) (blkOk_by (own := [("n", 4)]) (N := ["self", "other", "start", "period", "n"]) (sc := defScope s_Lengths___or__) (by decide +kernel)) (fun _ _ _ _ _ => pg_name (i := 4) sc_Lengths___or__.nd rfl (Or.inl rfl)) (fun _ _ _ _ _ => (pts_one (PW.pt (pw_or (pt_cmpR (op_inO T.sm_Lengths___contains__ (ok_Lengths___contains__ T) (hr.mono (by decide)) T.bd_Lengths___contains__ pass0) (pv 4) (pv 0) (by rfl)) (pw_or1 (pt_cmpR (op_inO T.sm_Lengths___contains__ (ok_Lengths___contains__ T) (hr.mono (by decide)) T.bd_Lengths___contains__ pass0) (pv 4) (pv 1) (by rfl))))))) (fun _ _ _ _ _ => (pv 4))) pa_nil))))))), ?_⟩
    refine body_of (pure_start ex nt) ?_
    have fp := da.form.pos
    have gp := db.form.pos
    have lp : 0 < Nat.lcm tn.length tn'.length := Nat.lcm_pos fp gp
    walk_at "wi"
    refine w_call mo_cf err_no ?_
    walk_at "wi"
    refine ⟨a, b, nr, tn, nr', tn', rfl, da, db, h4, fun q k1 e1 hq => ?_⟩
    have hP : ∀ n, maxN nr.length nr'.length ≤ n → or (inL nr tn ((n + Nat.lcm tn.length tn'.length : Nat) : Int)) (inL nr' tn' ((n + Nat.lcm tn.length tn'.length : Nat) : Int)) = or (inL nr tn (n : Int)) (inL nr' tn' (n : Int)) := fun n hn => join_per hn
    generalize Nat.lcm tn.length tn'.length = L at h h4 lp hq hP ⊢
    generalize maxN nr.length nr'.length = M at h h4 hq hP ⊢
    have da := LenAt.ext e1 da
    have db := LenAt.ext e1 db
    refine g_tup hq rfl ?_
    walk_at "wi"
    refine w_call mo_gath err_no ?_
    walk_at "w"
    refine w_lcNums (L := M + L) (pr := fun n => or (inL nr tn (n : Int)) (inL nr' tn' (n : Int))) (fun R hR => ?_) (by omega) (fun _ => rfl) (fun _ => rfl) (fun i k R ek hR => ?_) fun D hD => ?_
    · walk_at "w"
      exact hR
    · walk_at "w"
      refine r_hasL (LenAt.ext ek da) ?_
      rw [if_neg Bool.false_ne_true]
      walk_at "w"
      refine ⟨fun h1 => ?_, fun h1 => ?_⟩
      · walk_at "w"
        first
          | (refine r_hasL (LenAt.ext ek db) ?_
             walk_at "w"
             rw [h1] at hR
             exact hR)
          | (rw [h1] at hR
             exact hR)
      · first
          | (rw [h1] at hR
             exact hR)
          | (walk_at "w"
             refine r_hasL (LenAt.ext ek db) ?_
             walk_at "w"
             rw [h1] at hR
             exact hR)
    walk_at "w"
    refine ⟨M, L, fun n => or (inL nr tn (n : Int)) (inL nr' tn' (n : Int)), D, rfl, upd_same, lp, h4, hP, fun r u f i x k e n l => h r u f i x k (ext_tr e1 (ext_tr (ext_new hD) e)) (free_ext e1 (free_ext (ext_new hD) n)) l 0⟩
theorem ok_Lengths___and__ (T : Tx K mg) : FnOk P w K mg base CX0 8 T.f_Lengths___and__ T.d_Lengths___and__ ["self", "other"] (liftX (bJoin and T.c_Lengths)) := by
  refine T.F_Lengths___and__.ok sc_Lengths___and__ (fun vs H Q E h => ?_) (fun cdv A outer s H vs Q E hr h => ?_)
  · obtain ⟨kn, _, _, a, b, nr, tn, nr', tn', rfl, _⟩ := h
    rfl
  · obtain ⟨kn, ex, nt, a, b, nr, tn, nr', tn', rfl, da, db, h4, h⟩ := h
    refine ⟨_, (pss_cons (ps_asg (pe_call (ok_common_form T) (hr.mono (by decide)) (by rfl) T.g_common_form T.F_common_form.kp T.bd_common_form .nil pass0 (pa_cons (pv 0) (pa_cons (pv 1) pa_nil))) (pg_tup (by rfl) (pgs_cons (pg_name (i := 2) sc_Lengths___and__.nd rfl (by first | exact Or.inl rfl | exact Or.inr rfl)) (pgs_cons (pg_name (i := 3) sc_Lengths___and__.nd rfl (by first | exact Or.inl rfl | exact Or.inr rfl)) pgs_nil))))
       (pss_one (ps_ret (pe_call (ok_gathered T) (hr.mono (by decide)) (by rfl) T.g_gathered T.F_gathered.kp T.bd_gathered .nil pass0 (pa_cons (pv 2) (pa_cons (pv 3) (pa_cons (pe_lc (own := [("n", 4)]) (g := gName 4) (by rfl) sc_Lengths___and__.nd (pi_range1 (by rfl) T.b_range (pa_cons (pe_op op_add (pv 2) (pv 3)) pa_nil)) (blkOk_by (own := [("n", 4)]) (N := ["self", "other", "start", "period", "n"]) (sc := defScope s_Lengths___and__) (by decide +kernel)) (fun _ _ _ _ _ => pg_name (i := 4) sc_Lengths___and__.nd rfl (Or.inl rfl)) (fun _ _ _ _ _ => (pts_one (PW.pt (pw_and (pt_cmpR (op_inO T.sm_Lengths___contains__ (ok_Lengths___contains__ T) (hr.mono (by decide)) T.bd_Lengths___contains__ pass0) (pv 4) (pv 0) (by rfl)) (pw_and1 (pt_cmpR (op_inO T.sm_Lengths___contains__ (ok_Lengths___contains__ T) (hr.mono (by decide)) T.bd_Lengths___contains__ pass0) (pv 4) (pv 1) (by rfl))))))) (fun _ _ _ _ _ => (pv 4))) pa_nil))))))), ?_⟩
    refine body_of (pure_start ex nt) ?_
    have fp := da.form.pos
    have gp := db.form.pos
    have lp : 0 < Nat.lcm tn.length tn'.length := Nat.lcm_pos fp gp
    walk_at "wi"
    refine w_call mo_cf err_no ?_
    walk_at "wi"
    refine ⟨a, b, nr, tn, nr', tn', rfl, da, db, h4, fun q k1 e1 hq => ?_⟩
    have hP : ∀ n, maxN nr.length nr'.length ≤ n → and (inL nr tn ((n + Nat.lcm tn.length tn'.length : Nat) : Int)) (inL nr' tn' ((n + Nat.lcm tn.length tn'.length : Nat) : Int)) = and (inL nr tn (n : Int)) (inL nr' tn' (n : Int)) := fun n hn => join_per hn
    generalize Nat.lcm tn.length tn'.length = L at h h4 lp hq hP ⊢
    generalize maxN nr.length nr'.length = M at h h4 hq hP ⊢
    have da := LenAt.ext e1 da
    have db := LenAt.ext e1 db
    refine g_tup hq rfl ?_
    walk_at "wi"
    refine w_call mo_gath err_no ?_
    walk_at "w"
    refine w_lcNums (L := M + L) (pr := fun n => and (inL nr tn (n : Int)) (inL nr' tn' (n : Int))) (fun R hR => ?_) (by omega) (fun _ => rfl) (fun _ => rfl) (fun i k R ek hR => ?_) fun D hD => ?_
    · walk_at "w"
      exact hR
    · walk_at "w"
      refine r_hasL (LenAt.ext ek da) ?_
      rw [if_neg Bool.false_ne_true]
      walk_at "w"
      refine ⟨fun h1 => ?_, fun h1 => ?_⟩
      · walk_at "w"
        first
          | (refine r_hasL (LenAt.ext ek db) ?_
             walk_at "w"
             rw [h1] at hR
             exact hR)
          | (rw [h1] at hR
             exact hR)
      · first
          | (rw [h1] at hR
             exact hR)
          | (walk_at "w"
             refine r_hasL (LenAt.ext ek db) ?_
             walk_at "w"
             rw [h1] at hR
             exact hR)
    walk_at "w"
    refine ⟨M, L, fun n => and (inL nr tn (n : Int)) (inL nr' tn' (n : Int)), D, rfl, upd_same, lp, h4, hP, fun r u f i x k e n l => h r u f i x k (ext_tr e1 (ext_tr (ext_new hD) e)) (free_ext e1 (free_ext (ext_new hD) n)) l 0⟩
theorem ok_Lengths___sub__ (T : Tx K mg) : FnOk P w K mg base CX0 8 T.f_Lengths___sub__ T.d_Lengths___sub__ ["self", "other"] (liftX (bJoin andn T.c_Lengths)) := by
  refine T.F_Lengths___sub__.ok sc_Lengths___sub__ (fun vs H Q E h => ?_) (fun cdv A outer s H vs Q E hr h => ?_)
  · obtain ⟨kn, _, _, a, b, nr, tn, nr', tn', rfl, _⟩ := h
    rfl
  · obtain ⟨kn, ex, nt, a, b, nr, tn, nr', tn', rfl, da, db, h4, h⟩ := h
    refine ⟨_, (pss_cons (ps_asg (pe_call (ok_common_form T) (hr.mono (by decide)) (by rfl) T.g_common_form T.F_common_form.kp T.bd_common_form .nil pass0 (pa_cons (pv 0) (pa_cons (pv 1) pa_nil))) (pg_tup (by rfl) (pgs_cons (pg_name (i := 2) sc_Lengths___sub__.nd rfl (by first | exact Or.inl rfl | exact Or.inr rfl)) (pgs_cons (pg_name (i := 3) sc_Lengths___sub__.nd rfl (by first | exact Or.inl rfl | exact Or.inr rfl)) pgs_nil))))
       (pss_one (ps_ret (pe_call (ok_gathered T) (hr.mono (by decide)) (by rfl) T.g_gathered T.F_gathered.kp T.bd_gathered .nil pass0 (pa_cons (pv 2) (pa_cons (pv 3) (pa_cons (pe_lc (own := [("n", 4)]) (g := gName 4) (by rfl) sc_Lengths___sub__.nd (pi_range1 (by rfl) T.b_range (pa_cons (pe_op op_add (pv 2) (pv 3)) pa_nil)) (blkOk_by (own := [("n", 4)]) (N := ["self", "other", "start", "period", "n"]) (sc := defScope s_Lengths___sub__) (by decide +kernel)) (fun _ _ _ _ _ => pg_name (i := 4) sc_Lengths___sub__.nd rfl (Or.inl rfl)) (fun _ _ _ _ _ => (pts_one (PW.pt (pw_and (pt_cmpR (op_inO T.sm_Lengths___contains__ (ok_Lengths___contains__ T) (hr.mono (by decide)) T.bd_Lengths___contains__ pass0) (pv 4) (pv 0) (by rfl)) (pw_and1 (pt_cmpR (op_notInO T.sm_Lengths___contains__ (ok_Lengths___contains__ T) (hr.mono (by decide)) T.bd_Lengths___contains__ pass0) (pv 4) (pv 1) (by rfl))))))) (fun _ _ _ _ _ => (pv 4))) pa_nil))))))), ?_⟩
    refine body_of (pure_start ex nt) ?_
    have fp := da.form.pos
    have gp := db.form.pos
    have lp : 0 < Nat.lcm tn.length tn'.length := Nat.lcm_pos fp gp
    walk_at "wi"
    refine w_call mo_cf err_no ?_
    walk_at "wi"
    refine ⟨a, b, nr, tn, nr', tn', rfl, da, db, h4, fun q k1 e1 hq => ?_⟩
    have hP : ∀ n, maxN nr.length nr'.length ≤ n → andn (inL nr tn ((n + Nat.lcm tn.length tn'.length : Nat) : Int)) (inL nr' tn' ((n + Nat.lcm tn.length tn'.length : Nat) : Int)) = andn (inL nr tn (n : Int)) (inL nr' tn' (n : Int)) := fun n hn => join_per hn
    generalize Nat.lcm tn.length tn'.length = L at h h4 lp hq hP ⊢
    generalize maxN nr.length nr'.length = M at h h4 hq hP ⊢
    have da := LenAt.ext e1 da
    have db := LenAt.ext e1 db
    refine g_tup hq rfl ?_
    walk_at "wi"
    refine w_call mo_gath err_no ?_
    walk_at "w"
    refine w_lcNums (L := M + L) (pr := fun n => andn (inL nr tn (n : Int)) (inL nr' tn' (n : Int))) (fun R hR => ?_) (by omega) (fun _ => rfl) (fun _ => rfl) (fun i k R ek hR => ?_) fun D hD => ?_
    · walk_at "w"
      exact hR
    · walk_at "w"
      refine r_hasL (LenAt.ext ek da) ?_
      rw [if_neg Bool.false_ne_true]
      walk_at "w"
      refine ⟨fun h1 => ?_, fun h1 => ?_⟩
      · walk_at "w"
        first
          | (refine r_hasL (LenAt.ext ek db) ?_
             walk_at "w"
             rw [h1] at hR
             exact hR)
          | (rw [h1] at hR
             exact hR)
      · first
          | (rw [h1] at hR
             exact hR)
          | (walk_at "w"
             refine r_hasL (LenAt.ext ek db) ?_
             walk_at "w"
             rw [h1] at hR
             exact hR)
    walk_at "w"
    refine ⟨M, L, fun n => andn (inL nr tn (n : Int)) (inL nr' tn' (n : Int)), D, rfl, upd_same, lp, h4, hP, fun r u f i x k e n l => h r u f i x k (ext_tr e1 (ext_tr (ext_new hD) e)) (free_ext e1 (free_ext (ext_new hD) n)) l 0⟩
end

end NN

namespace NN
open PySem PySem.Spec PyProof.Rows L2 LamX AW ClX
open Tx1 Ln
/-! ### a number in both, all in the other -/
theorem bez (p q : Nat) : ∃ x y : Int, x * (p : Int) + y * (q : Int) = ((Nat.gcd p q : Nat) : Int) := by
  induction p, q using Nat.gcd.induction with
  | H0 n => exact ⟨0, 1, by simp⟩
  | H1 m n hm ih =>
    obtain ⟨x, y, e⟩ := ih
    rw [Nat.gcd_rec m n, ← e]
    refine ⟨y - x * ((n / m : Nat) : Int), x, ?_⟩
    have h : (n : Int) = (m : Int) * ((n / m : Nat) : Int) + ((n % m : Nat) : Int) := by
      rw [← Int.natCast_mul, ← Int.natCast_add, Nat.div_add_mod]
    generalize ((n / m : Nat) : Int) = k at h ⊢
    generalize ((n % m : Nat) : Int) = r at h ⊢
    rw [h]
    grind
/-- one number behind all with both rests -/
theorem crt {p q r s : Nat} (hp : 0 < p) (hq : 0 < q) (hr : r < p) (hs : s < q) (h : r % Nat.gcd p q = s % Nat.gcd p q) (M : Nat) : ∃ n, M ≤ n ∧ n % p = r ∧ n % q = s := by
  obtain ⟨x, y, e⟩ := bez p q
  have r1 := Nat.div_add_mod r (Nat.gcd p q)
  have s1 := Nat.div_add_mod s (Nat.gcd p q)
  rw [h] at r1
  obtain ⟨g, hg⟩ : ∃ g, g = Nat.gcd p q := ⟨_, rfl⟩
  rw [← hg] at e r1 s1
  generalize s % g = z at r1 s1
  generalize r / g = a at r1
  generalize s / g = b at s1
  -- how many times p
  obtain ⟨k, j, hk⟩ : ∃ (k : Nat) (j : Int), x * ((b : Int) - a) = (q : Int) * j + k := by
    refine ⟨((x * ((b : Int) - a)) % q).toNat, (x * ((b : Int) - a)) / q, ?_⟩
    rw [Int.toNat_of_nonneg (Int.emod_nonneg _ (by omega)), Int.mul_ediv_add_emod]
  have r2 : (r : Int) = (g : Int) * a + z := by rw [← r1]; simp
  have s2 : (s : Int) = (g : Int) * b + z := by rw [← s1]; simp
  have key : ((r + p * k : Nat) : Int) = (s : Int) + (q : Int) * (-(((b : Int) - a) * y) - (p : Int) * j) := by
    rw [Int.natCast_add, Int.natCast_mul, r2, s2]
    grind
  refine ⟨r + p * k + p * q * M, ?_, ?_, ?_⟩
  · have : 1 * M ≤ p * q * M := Nat.mul_le_mul_right M (Nat.mul_pos hp hq)
    omega
  · rw [show r + p * k + p * q * M = r + p * (k + q * M) by rw [Nat.mul_add, Nat.mul_assoc]; omega, Nat.add_mul_mod_self_left, Nat.mod_eq_of_lt hr]
  · rw [show r + p * k + p * q * M = r + p * k + q * (p * M) by rw [Nat.mul_comm p q, Nat.mul_assoc], Nat.add_mul_mod_self_left]
    have : ((r + p * k : Nat) : Int) % (q : Int) = (s : Int) % (q : Int) := by rw [key, Int.add_mul_emod_self_left]
    rw [← Int.natCast_emod, ← Int.natCast_emod] at this
    have := Int.ofNat.inj this
    rw [this, Nat.mod_eq_of_lt hs]
theorem idx_len (t : List Bool) : (idx t).length ≤ t.length := by
  unfold idx
  exact Nat.le_trans (List.length_filter_le _ _) (by rw [List.length_range]; exact Nat.le_refl _)
open Classical in
noncomputable def comL (nr tn nr' tn' : List Bool) : Bool := decide (∃ n : Nat, inL nr tn (n : Int) = true ∧ inL nr' tn' (n : Int) = true)
open Classical in
noncomputable def subL (nr tn nr' tn' : List Bool) : Bool := decide (∀ n : Nat, inL nr tn (n : Int) = true → inL nr' tn' (n : Int) = true)
theorem comL_iff {nr tn nr' tn' : List Bool} : comL nr tn nr' tn' = true ↔ ∃ n : Nat, inL nr tn (n : Int) = true ∧ inL nr' tn' (n : Int) = true := by
  unfold comL
  exact @decide_eq_true_iff _ (Classical.propDecidable _)
theorem subL_iff {nr tn nr' tn' : List Bool} : subL nr tn nr' tn' = true ↔ ∀ n : Nat, inL nr tn (n : Int) = true → inL nr' tn' (n : Int) = true := by
  unfold subL
  exact @decide_eq_true_iff _ (Classical.propDecidable _)
theorem sub_com {nr tn nr' tn' r u : List Bool} (h : ∀ n : Nat, inL r u (n : Int) = !inL nr' tn' (n : Int)) : (!comL nr tn r u) = subL nr tn nr' tn' := by
  rw [Bool.eq_iff_iff, Bool.not_eq_true', ← Bool.not_eq_true, comL_iff, subL_iff]
  constructor
  · intro z n hn
    cases q : inL nr' tn' (n : Int) with
    | true => rfl
    | false => exact absurd ⟨n, hn, by rw [h, q]; rfl⟩ z
  · rintro z ⟨n, h1, h2⟩
    rw [h, z n h1] at h2
    cases h2
theorem inL_nat' {nr tn : List Bool} (n : Nat) : inL nr tn (n : Int) = if n < nr.length then ix nr n else ix tn (n % tn.length) := inL_nat n
/-- what lies behind both starts -/
theorem com_far {nr tn nr' tn' : List Bool} (F : Form nr tn) (G : Form nr' tn') {M : Nat} (h1 : nr.length ≤ M) (h2 : nr'.length ≤ M) : (∃ n : Nat, M ≤ n ∧ inL nr tn (n : Int) = true ∧ inL nr' tn' (n : Int) = true) ↔ ∃ k : Int, (k ∈ (idx tn).map fun (n : Nat) => ((n % Nat.gcd tn.length tn'.length : Nat) : Int)) ∧ k ∈ (idx tn').map fun (n : Nat) => ((n % Nat.gcd tn.length tn'.length : Nat) : Int) := by
  have fp := F.pos
  have gp := G.pos
  constructor
  · rintro ⟨n, hn, e1, e2⟩
    rw [inL_nat', if_neg (by omega)] at e1 e2
    refine ⟨((n % Nat.gcd tn.length tn'.length : Nat) : Int), List.mem_map.2 ⟨n % tn.length, mem_idx.2 ⟨Nat.mod_lt _ fp, e1⟩, ?_⟩, List.mem_map.2 ⟨n % tn'.length, mem_idx.2 ⟨Nat.mod_lt _ gp, e2⟩, ?_⟩⟩
    · rw [Nat.mod_mod_of_dvd _ (Nat.gcd_dvd_left _ _)]
    · rw [Nat.mod_mod_of_dvd _ (Nat.gcd_dvd_right _ _)]
  · rintro ⟨k, hk1, hk2⟩
    obtain ⟨r, hr, er⟩ := List.mem_map.1 hk1
    obtain ⟨s, hs, es⟩ := List.mem_map.1 hk2
    obtain ⟨r1, r2⟩ := mem_idx.1 hr
    obtain ⟨s1, s2⟩ := mem_idx.1 hs
    obtain ⟨n, hn, n1, n2⟩ := crt fp gp r1 s1 (by have := er.trans es.symm; omega) M
    refine ⟨n, hn, ?_, ?_⟩
    · rw [inL_nat', if_neg (by omega), n1]
      exact r2
    · rw [inL_nat', if_neg (by omega), n2]
      exact s2
def bCmp (C : Addr) (f : List Bool → List Bool → List Bool → List Bool → Bool) : List V → Hp → AK → AXK → Prop := fun vs kn Q _ => ∃ a b nr tn nr' tn', vs = [.ref a, .ref b] ∧ LenAt C kn a nr tn ∧ LenAt C kn b nr' tn' ∧ ∀ k', Ext kn k' → Q (.bl (f nr tn nr' tn')) k'
theorem mo_cmp {C : Addr} {f : List Bool → List Bool → List Bool → List Bool → Bool} : MonoX (bCmp C f) := by
  rintro vs kn Q R E F h1 h2 ⟨a, b, nr, tn, nr', tn', e, x, y, h⟩
  exact ⟨a, b, nr, tn, nr', tn', e, x, y, fun k z => h1 _ _ (h k z)⟩
noncomputable abbrev ltL (nr tn nr' tn' : List Bool) : Bool := subL nr tn nr' tn' && !decide (nr = nr' ∧ tn = tn')
section
variable {K : PySem.W.Frag} {mg : Str → Option Value}
theorem r_inv (T : Tx K mg) {c : Cw} {kn : Hp} {n : Nat} {Q : V → Hp → Nat → Prop} {E : XK} {a : Addr} {nr tn : List Bool} (da : LenAt T.c_Lengths kn a nr tn)
    (k : ∀ r u x k', Form r u → (∀ n : Nat, inL r u (n : Int) = !inL nr tn (n : Int)) → Ext kn k' → kn x = none → LenAt T.c_Lengths k' x r u → Q (.ref x) k' n) : W c (rUnO T.c_Lengths (liftX (bInv T.c_Lengths)) E (.ref a)) kn n Q := by
  obtain ⟨dx, q1, q2, q3, z1, _⟩ := da.at_
  exact fun H g Q' qq => ⟨a, dx, _, rfl, g.ex _ _ z1, sp_call (EA := fun _ _ _ _ => False) mo_inv err_no ⟨a, nr, tn, rfl, da, fun r u l i x k' e n d => k r u x k' l i e n d⟩ H g Q' qq⟩
theorem r_cmpL (T : Tx K mg) {c : Cw} {kn : Hp} {n : Nat} {E : XK} {Q : V → Hp → Nat → Prop} {f : List Bool → List Bool → List Bool → List Bool → Bool} {a b : Addr} {nr tn nr' tn' : List Bool} (da : LenAt T.c_Lengths kn a nr tn) (db : LenAt T.c_Lengths kn b nr' tn') (q : ∀ k, Ext kn k → Q (.bl (f nr tn nr' tn')) k n) : W c (rCmpO K T.c_Lengths (liftX (bCmp T.c_Lengths f)) E (.ref a) (.ref b)) kn n Q := by
  obtain ⟨dx, q1, q2, q3, a1, _⟩ := da.at_
  obtain ⟨dx', q1', q2', q3', b1, _⟩ := db.at_
  exact r_cmpO (EA := fun _ _ _ _ => False) mo_cmp err_no a1 (T.own_Lengths.ty b1) nf_self ⟨a, b, nr, tn, nr', tn', rfl, da, db, q⟩
end
section
variable {P : Program} {w : World} {K : PySem.W.Frag} {mg : Str → Option Value} {base : Heap}
theorem ok_have_common (T : Tx K mg) : FnOk P w K mg base CX0 4 T.f_have_common T.d_have_common ["one", "other"] (liftX (bCmp T.c_Lengths comL)) := by
  refine T.F_have_common.ok sc_have_common (fun vs H Q E h => ?_) (fun cdv A outer s H vs Q E hr h => ?_)
  · obtain ⟨kn, _, _, a, b, nr, tn, nr', tn', rfl, _⟩ := h
    rfl
  · obtain ⟨kn, ex, nt, a, b, nr, tn, nr', tn', rfl, da, db, h⟩ := h
    refine ⟨_, (pss_cons (ps_for PassesOwn.never rfl (pi_range1 (by rfl) T.b_range (pa_cons (pe_callB (c_max2 rfl) (by rfl) T.b_max (by decide +kernel) (pa_cons (pe_callTy c_int (by rfl) T.b_int boot_int (pa_cons (pe_prop (pv 0) T.cl_Lengths T.pp_Lengths_start (ok_Lengths_start T) (hr.mono (by decide)) T.bd_Lengths_start .nil pass0 (by rfl)) pa_nil)) (pa_cons (pe_prop (pv 1) T.cl_Lengths T.pp_Lengths_start (ok_Lengths_start T) (hr.mono (by decide)) T.bd_Lengths_start .nil pass0 (by rfl)) pa_nil))) pa_nil)) (pg_name (i := 2) sc_have_common.nd rfl (by first | exact Or.inl rfl | exact Or.inr rfl))
       (pss_one (ps_if (PW.pt (pw_and (pt_cmpR (op_inO T.sm_Lengths___contains__ (ok_Lengths___contains__ T) (hr.mono (by decide)) T.bd_Lengths___contains__ pass0) (pv 2) (pv 0) (by rfl)) (pw_and1 (pt_cmpR (op_inO T.sm_Lengths___contains__ (ok_Lengths___contains__ T) (hr.mono (by decide)) T.bd_Lengths___contains__ pass0) (pv 2) (pv 1) (by rfl)))))
       (pss_one (ps_ret pe_bl))
       pss_nil)))
       (pss_cons (ps_set (i := 3) sc_have_common.nd rfl (by first | exact Or.inl rfl | exact Or.inr rfl) (pe_callBfun cr_gcd (by rfl) T.g_gcd (pa_cons (pe_prop (pv 0) T.cl_Lengths T.pp_Lengths_period (ok_Lengths_period T) (hr.mono (by decide)) T.bd_Lengths_period .nil pass0 (by rfl)) (pa_cons (pe_prop (pv 1) T.cl_Lengths T.pp_Lengths_period (ok_Lengths_period T) (hr.mono (by decide)) T.bd_Lengths_period .nil pass0 (by rfl)) pa_nil))))
       (pss_one (ps_ret (pe_cmpR op_gt (pe_callB c_lenZ (by rfl) T.b_len PySem.boot_len (pa_cons (pe_op op_sand (pe_si (own := [("n", 2)]) (g := gName 2) (by rfl) sc_have_common.nd (pi_tup (pe_prop (pv 0) T.cl_Lengths T.pp_Lengths_rests (ok_Lengths_rests T) (hr.mono (by decide)) T.bd_Lengths_rests .nil pass0 (by rfl))) (blkOk_by (own := [("n", 2)]) (N := ["one", "other", "n", "step"]) (sc := defScope s_have_common) (by decide +kernel)) (fun _ _ _ _ _ => pg_name (i := 2) sc_have_common.nd rfl (Or.inl rfl)) (fun _ _ _ _ _ => pts_nil) (fun _ _ _ _ _ => (pe_op op_mod (pv 2) (pv 3)))) (pe_si (own := [("n", 2)]) (g := gName 2) (by rfl) sc_have_common.nd (pi_tup (pe_prop (pv 1) T.cl_Lengths T.pp_Lengths_rests (ok_Lengths_rests T) (hr.mono (by decide)) T.bd_Lengths_rests .nil pass0 (by rfl))) (blkOk_by (own := [("n", 2)]) (N := ["one", "other", "n", "step"]) (sc := defScope s_have_common) (by decide +kernel)) (fun _ _ _ _ _ => pg_name (i := 2) sc_have_common.nd rfl (Or.inl rfl)) (fun _ _ _ _ _ => pts_nil) (fun _ _ _ _ _ => (pe_op op_mod (pv 2) (pv 3))))) pa_nil)) pe_int (nomark _)))))), ?_⟩
    refine body_of (pure_start ex nt) ?_
    have F := da.form
    have G := db.form
    have f2 := F.le
    have g2 := G.le
    walk_at "wi"
    refine s_forJ (i_rng1 ?_)
    walk_at "wi"
    refine w_pr rfl da fun _ _ _ _ => ?_
    walk_at "wi"
    refine w_pr rfl db fun _ _ _ _ => ?_
    walk_at "wi"
    refine r_max2 ?_
    have em : (if (nr'.length : Int) > (nr.length : Int) then (nr'.length : Int) else (nr.length : Int)) = ((maxN nr.length nr'.length : Nat) : Int) := by
      unfold maxN
      by_cases z : nr'.length > nr.length
      · rw [if_pos z, if_pos (by omega)]
      · rw [if_neg z, if_neg (by omega)]
    rw [em]
    have m1 : nr.length ≤ maxN nr.length nr'.length := by unfold maxN; split <;> omega
    have m2 : nr'.length ≤ maxN nr.length nr'.length := by unfold maxN; split <;> omega
    have m3 : maxN nr.length nr'.length ≤ 400 := by unfold maxN; split <;> omega
    generalize maxN nr.length nr'.length = M at m1 m2 m3 ⊢
    walk_at "wi"
    refine ⟨by omega, by omega, ?_⟩
    rw [Int.toNat_natCast]
    refine ⟨_, (fun _ => True), fun j σ' k m => m = 0 ∧ k = kn ∧ (∃ y2, σ' = [some (.ref a), some (.ref b), y2, none]) ∧ ∀ l : Nat, l < j → ¬ (inL nr tn (l : Int) = true ∧ inL nr' tn' (l : Int) = true), gives_rng, ⟨rfl, rfl, ⟨_, rfl⟩, fun l hl => absurd hl (Nat.not_lt_zero _)⟩, fun _ _ _ _ _ => trivial, ?_, ?_⟩
    · rintro j x σ' k m hx ⟨rfl, rfl, ⟨y2, rfl⟩, hp⟩
      rw [List.getElem?_map] at hx
      obtain ⟨l, hl, rfl⟩ := Option.map_eq_some_iff.1 hx
      obtain ⟨hj1, hj2⟩ := List.getElem?_eq_some_iff.1 hl
      rw [List.getElem_range] at hj2
      subst hj2
      rw [Int.zero_add]
      have nx : ¬ (inL nr tn (j : Int) = true ∧ inL nr' tn' (j : Int) = true) → ∀ l : Nat, l < j + 1 → ¬ (inL nr tn (l : Int) = true ∧ inL nr' tn' (l : Int) = true) := fun no l hl => by
        rcases Nat.lt_or_ge l j with z | z
        · exact hp l z
        · obtain rfl : l = j := by omega
          exact no
      walk_at "wi"
      refine r_hasL da ?_
      rw [if_neg Bool.false_ne_true]
      refine ⟨_, rfl, fun e1 => ?_, fun e1 => ?_⟩
      · walk_at "wi"
        refine r_hasL db ?_
        rw [if_neg Bool.false_ne_true]
        refine ⟨_, rfl, fun e2 => ?_, fun e2 => ?_⟩
        · walk_at "wi"
          have := h k (ext_rf) 0
          rw [comL_iff.2 ⟨j, e1, e2⟩] at this
          exact this
        · walk_at "wi"
          exact ⟨⟨_, rfl⟩, nx fun z => by rw [z.2] at e2; cases e2⟩
      · walk_at "wi"
        exact ⟨⟨_, rfl⟩, nx fun z => by rw [z.1] at e1; cases e1⟩
    · rintro σ' k m ⟨rfl, rfl, ⟨y2, rfl⟩, hp⟩
      rw [List.length_map, List.length_range] at hp
      walk_at "wi"
      refine w_pr rfl da fun _ _ _ _ => ?_
      walk_at "wi"
      refine w_pr rfl db fun _ _ _ _ => ?_
      walk_at "wi"
      refine r_gcd ?_
      rw [Int.natAbs_natCast, Int.natAbs_natCast]
      have far := com_far F G m1 m2
      have gpos : 0 < Nat.gcd tn.length tn'.length := Nat.gcd_pos_of_pos_left _ F.pos
      generalize Nat.gcd tn.length tn'.length = gg at far gpos ⊢
      have step : ∀ (σ' : L2.St), σ'[3]? = some (some (V.int (gg : Nat))) → ∀ (y : Nat) (H : Hp) (R : V → Hp → Prop), σ'[2]? = some (some (V.int (y : Nat))) → R (.int ((y % gg : Nat) : Int)) H → tOp (rI (fun x j => 0 < j) fun i j => V.int (i % j)) (tVar 2) (tVar 3) σ' H R := fun σ' h3 y H R h2 hR =>
        ⟨_, h2, _, h3, _, _, rfl, rfl, by omega, hR⟩
      refine s_ret (w_op (w_cb (w_cons (w_op (w_si (f := fun y => ((y % gg : Nat) : Int)) (i_tup (w_pr rfl da fun q1 q2 z1 z2 => ⟨q2, _, rfl, z2, idx tn, _, gives_tup, ?_, z2, fun y hy => ⟨rfl, fun H R hR => step _ rfl y H R rfl hR⟩, fun D1 c1 hD1 => ?_⟩)))))))
      · have := idx_len tn
        omega
      refine w_si (f := fun y => ((y % gg : Nat) : Int)) (i_tup (w_pr rfl (LenAt.ext (ext_new hD1) db) fun q3 q4 z3 z4 => ⟨q4, _, rfl, z4, idx tn', _, gives_tup, ?_, z4, fun y hy => ⟨rfl, fun H R hR => step _ rfl y H R rfl hR⟩, fun D2 c2 hD2 => ?_⟩))
      · have := idx_len tn'
        omega
      have ne : D2 ≠ D1 := fun z => by rw [z, upd_same] at hD2; cases hD2
      refine r_sand (by rw [upd_ne (Ne.symm ne), upd_same]) upd_same ne fun D3 c3 hD3 => ?_
      refine w_nil (r_lenZ upd_same fun m hm => ?_)
      walk_at "wi"
      have e3 := ext_tr (ext_new (o := SetO w D1 (fun k => decide (k ∈ (idx tn).map fun (n : Nat) => ((n % gg : Nat) : Int))) c1) hD1) (ext_tr (ext_new (o := SetO w D2 (fun k => decide (k ∈ (idx tn').map fun (n : Nat) => ((n % gg : Nat) : Int))) c2) hD2) (ext_new (o := SetO w D3 (fun k => decide (k ∈ (idx tn).map fun (n : Nat) => ((n % gg : Nat) : Int)) && decide (k ∈ (idx tn').map fun (n : Nat) => ((n % gg : Nat) : Int))) c3) hD3))
      have e : decide ((0 : Int) < (m : Int)) = comL nr tn nr' tn' := by
        rw [Bool.eq_iff_iff, decide_eq_true_eq, comL_iff]
        have h1 : (∃ n : Nat, inL nr tn (n : Int) = true ∧ inL nr' tn' (n : Int) = true) ↔ ∃ n : Nat, M ≤ n ∧ inL nr tn (n : Int) = true ∧ inL nr' tn' (n : Int) = true :=
          ⟨fun ⟨n, z⟩ => ⟨n, Nat.le_of_not_lt fun q => hp n q z, z⟩, fun ⟨n, _, z⟩ => ⟨n, z⟩⟩
        rw [h1, far]
        have h2 : (0 : Int) < (m : Int) ↔ 0 < m := by omega
        rw [h2, hm]
        exact exists_congr fun k => by rw [Bool.and_eq_true, decide_eq_true_eq, decide_eq_true_eq]
      rw [e]
      exact h _ e3 0
theorem ok_Lengths___le__ (T : Tx K mg) : FnOk P w K mg base CX0 9 T.f_Lengths___le__ T.d_Lengths___le__ ["self", "other"] (liftX (bCmp T.c_Lengths subL)) := by
  refine T.F_Lengths___le__.ok sc_Lengths___le__ (fun vs H Q E h => ?_) (fun cdv A outer s H vs Q E hr h => ?_)
  · obtain ⟨kn, _, _, a, b, nr, tn, nr', tn', rfl, _⟩ := h
    rfl
  · obtain ⟨kn, ex, nt, a, b, nr, tn, nr', tn', rfl, da, db, h⟩ := h
    refine ⟨_, (pss_one (ps_ret (pe_not (pe_call (ok_have_common T) (hr.mono (by decide)) (by rfl) T.g_have_common T.F_have_common.kp T.bd_have_common .nil pass0 (pa_cons (pv 0) (pa_cons (pe_un (un_invO T.fi_Lengths___invert__ T.isf_Lengths___invert__ (ok_Lengths___invert__ T) (hr.mono (by decide)) T.bd_Lengths___invert__ pass0) (pv 1)) pa_nil)))))), ?_⟩
    refine body_of (pure_start ex nt) ?_
    obtain ⟨dx', q1', q2', q3', b1, _⟩ := db.at_
    walk_at "wi"
    refine w_call mo_cmp err_no ?_
    walk_at "w"
    refine r_inv T db fun r u x k f i e n l => ?_
    walk_at "w"
    refine ⟨a, x, nr, tn, r, u, rfl, LenAt.ext e da, l, fun k2 e2 => ?_⟩
    walk_at "wi"
    rw [sub_com i]
    exact h _ (ext_tr e e2) 0
theorem ok_Lengths___lt__ (T : Tx K mg) : FnOk P w K mg base CX0 11 T.f_Lengths___lt__ T.d_Lengths___lt__ ["self", "other"] (liftX (bCmp T.c_Lengths ltL)) := by
  refine T.F_Lengths___lt__.ok sc_Lengths___lt__ (fun vs H Q E h => ?_) (fun cdv A outer s H vs Q E hr h => ?_)
  · obtain ⟨kn, _, _, a, b, nr, tn, nr', tn', rfl, _⟩ := h
    rfl
  · obtain ⟨kn, ex, nt, a, b, nr, tn, nr', tn', rfl, da, db, h⟩ := h
    refine ⟨_, (pss_one (ps_ret (pe_and (pe_cmpR (op_cmpO (fun _ _ => rfl) T.cm_Lengths_le (ok_Lengths___le__ T) (hr.mono (by decide)) T.bd_Lengths___le__ pass0) (pv 0) (pv 1) (nomark _)) (pe_one (pe_not (pe_cmpR (op_eqO T.eq_Lengths (ok_Lengths___eq__ T) (hr.mono (by decide)) T.bd_Lengths___eq__ pass0) (pv 0) (pv 1) (nomark _))))))), ?_⟩
    refine body_of (pure_start ex nt) ?_
    walk_at "wi"
    refine r_cmpL T da db fun k1 e1 => ?_
    refine ⟨_, rfl, fun h1 => ?_, fun h1 => ?_⟩
    · walk_at "wi"
      refine r_eqLL T (LenAt.ext e1 da) (LenAt.ext e1 db) ?_
      rw [if_neg Bool.false_ne_true]
      walk_at "wi"
      have := h k1 e1 0
      unfold ltL at this
      rw [h1, Bool.true_and] at this
      exact this
    · have := h k1 e1 0
      unfold ltL at this
      rw [h1, Bool.false_and] at this
      walk_at "wi"
      exact this
theorem ok_Lengths___ge__ (T : Tx K mg) : FnOk P w K mg base CX0 11 T.f_Lengths___ge__ T.d_Lengths___ge__ ["self", "other"] (liftX (bCmp T.c_Lengths fun nr tn nr' tn' => subL nr' tn' nr tn)) := by
  refine T.F_Lengths___ge__.ok sc_Lengths___ge__ (fun vs H Q E h => ?_) (fun cdv A outer s H vs Q E hr h => ?_)
  · obtain ⟨kn, _, _, a, b, nr, tn, nr', tn', rfl, _⟩ := h
    rfl
  · obtain ⟨kn, ex, nt, a, b, nr, tn, nr', tn', rfl, da, db, h⟩ := h
    refine ⟨_, (pss_one (ps_ret (pe_cmpR (op_cmpO (fun _ _ => rfl) T.cm_Lengths_le (ok_Lengths___le__ T) (hr.mono (by decide)) T.bd_Lengths___le__ pass0) (pv 1) (pv 0) (nomark _)))), ?_⟩
    refine body_of (pure_start ex nt) ?_
    walk_at "wi"
    exact r_cmpL T db da fun k1 e1 => h k1 e1 0
theorem ok_Lengths___gt__ (T : Tx K mg) : FnOk P w K mg base CX0 13 T.f_Lengths___gt__ T.d_Lengths___gt__ ["self", "other"] (liftX (bCmp T.c_Lengths fun nr tn nr' tn' => ltL nr' tn' nr tn)) := by
  refine T.F_Lengths___gt__.ok sc_Lengths___gt__ (fun vs H Q E h => ?_) (fun cdv A outer s H vs Q E hr h => ?_)
  · obtain ⟨kn, _, _, a, b, nr, tn, nr', tn', rfl, _⟩ := h
    rfl
  · obtain ⟨kn, ex, nt, a, b, nr, tn, nr', tn', rfl, da, db, h⟩ := h
    refine ⟨_, (pss_one (ps_ret (pe_cmpR (op_cmpO (fun _ _ => rfl) T.cm_Lengths_lt (ok_Lengths___lt__ T) (hr.mono (by decide)) T.bd_Lengths___lt__ pass0) (pv 1) (pv 0) (nomark _)))), ?_⟩
    refine body_of (pure_start ex nt) ?_
    walk_at "wi"
    exact r_cmpL T db da fun k1 e1 => h k1 e1 0
end

end NN

namespace NN
open PySem PySem.Spec PyProof.Rows L2 LamX AW ClX
open Tx1 Ln
/-! ### how many below a number -/
def cnt (f : Nat → Bool) : Nat → Nat
  | 0 => 0
  | n + 1 => cnt f n + (f n).toNat
theorem cnt_add (f : Nat → Bool) (a : Nat) : ∀ n, cnt f (a + n) = cnt f a + cnt (fun i => f (a + i)) n
  | 0 => rfl
  | n + 1 => by
    show cnt f (a + n) + (f (a + n)).toNat = cnt f a + (cnt (fun i => f (a + i)) n + (f (a + n)).toNat)
    rw [cnt_add f a n, Nat.add_assoc]
theorem cnt_congr {f g : Nat → Bool} : ∀ {n : Nat}, (∀ i, i < n → f i = g i) → cnt f n = cnt g n
  | 0, _ => rfl
  | n + 1, h => by
    show cnt f n + (f n).toNat = cnt g n + (g n).toNat
    rw [cnt_congr fun i hi => h i (by omega), h n (by omega)]
theorem cnt_per {f : Nat → Bool} {b s : Nat} (h : ∀ m, b ≤ m → f (m + s) = f m) : ∀ d, cnt f (b + d + s) + cnt f b = cnt f (b + d) + cnt f (b + s)
  | 0 => by rw [Nat.add_zero, Nat.add_comm]
  | d + 1 => by
    have ih := cnt_per h d
    have e1 : cnt f (b + (d + 1) + s) = cnt f (b + d + s) + (f (b + d + s)).toNat := by rw [show b + (d + 1) + s = b + d + s + 1 by omega]; rfl
    have e2 : cnt f (b + (d + 1)) = cnt f (b + d) + (f (b + d)).toNat := rfl
    rw [e1, e2, h (b + d) (by omega)]
    omega
theorem cnt_rep {f : Nat → Bool} {b s p : Nat} (h : ∀ m, b ≤ m → f (m + s) = f m) (hp : cnt f (b + s) = cnt f b + p) (d : Nat) : ∀ t, cnt f (b + d + t * s) = cnt f (b + d) + t * p
  | 0 => by rw [Nat.zero_mul, Nat.zero_mul, Nat.add_zero]; rfl
  | t + 1 => by
    have ih := cnt_rep h hp d t
    have e := cnt_per h (d + t * s)
    rw [← Nat.add_assoc] at e
    rw [Nat.succ_mul, Nat.succ_mul, ← Nat.add_assoc]
    omega
theorem cnt_len (f : Nat → Bool) : ∀ n, ((List.range n).filter f).length = cnt f n
  | 0 => rfl
  | n + 1 => by
    rw [List.range_succ, List.filter_append, List.length_append, cnt_len f n]
    show _ = cnt f n + (f n).toNat
    cases h : f n <;> simp [h]
theorem count_take {t : List Bool} : ∀ {n : Nat}, n ≤ t.length → (t.take n).count true = cnt (ix t) n
  | 0, _ => by simp [cnt]
  | n + 1, h => by
    have hn : n < t.length := by omega
    rw [List.take_succ, List.count_append, count_take (by omega), List.getElem?_eq_getElem hn]
    show _ = cnt (ix t) n + (ix t n).toNat
    have : ix t n = t[n] := by unfold ix; rw [List.getD_eq_getElem?_getD, List.getElem?_eq_getElem hn]; rfl
    rw [this]
    cases t[n] <;> rfl
theorem idx_cnt (t : List Bool) : (idx t).length = cnt (ix t) t.length := cnt_len _ _
/-- the members below n -/
def cntL (nr tn : List Bool) (n : Nat) : Nat := cnt (fun k => inL nr tn (k : Int)) n
theorem ix_all {nr tn : List Bool} {i : Nat} (h : i < nr.length + tn.length) : ix (marks nr tn) i = inL nr tn (i : Int) := by
  rw [inL_nat]
  by_cases z : i < nr.length
  · rw [if_pos z, ix_marks_lo z]
  · rw [if_neg z]
    obtain ⟨m, rfl⟩ : ∃ m, i = nr.length + m := ⟨i - nr.length, by omega⟩
    exact ix_marks_hi (by omega)
theorem cnt_lo {nr tn : List Bool} {n : Nat} (h : n ≤ nr.length + tn.length) : ((marks nr tn).take n).count true = cntL nr tn n := by
  rw [count_take (by rw [marks_len]; exact h)]
  exact cnt_congr fun i hi => ix_all (by omega)
theorem cnt_low (nr tn : List Bool) : (idx nr).length = cntL nr tn nr.length := by
  rw [idx_cnt]
  refine cnt_congr fun i hi => ?_
  rw [inL_nat, if_pos hi]
theorem cnt_turn {nr tn : List Bool} (hp : 0 < tn.length) : cntL nr tn (nr.length + tn.length) = cntL nr tn nr.length + (idx tn).length := by
  unfold cntL
  rw [cnt_add]
  congr 1
  have e1 : cnt (fun i => inL nr tn ((nr.length + i : Nat) : Int)) tn.length = cnt (fun i => ix tn ((nr.length + i) % tn.length)) tn.length := cnt_congr fun i hi => by rw [inL_nat, if_neg (by omega)]
  rw [e1]
  have g := cnt_per (f := fun k => ix tn (k % tn.length)) (b := 0) (s := tn.length) (fun m _ => by rw [Nat.add_mod_right]) nr.length
  rw [Nat.zero_add, Nat.zero_add] at g
  have a := cnt_add (fun k => ix tn (k % tn.length)) nr.length tn.length
  have z : cnt (fun k => ix tn (k % tn.length)) 0 = 0 := rfl
  have e2 : cnt (fun k => ix tn (k % tn.length)) tn.length = (idx tn).length := by
    rw [idx_cnt]
    exact cnt_congr fun i hi => by rw [Nat.mod_eq_of_lt hi]
  rw [← e2]
  omega
theorem inL_step {nr tn : List Bool} (m : Nat) (h : nr.length ≤ m) : inL nr tn ((m + tn.length : Nat) : Int) = inL nr tn (m : Int) := inL_add h (Nat.dvd_refl _)
theorem cnt_hi {nr tn : List Bool} (hp : 0 < tn.length) (d : Nat) : (idx nr).length + d / tn.length * (idx tn).length + (((marks nr tn).drop nr.length).take (d % tn.length)).count true = cntL nr tn (nr.length + d) := by
  have hm := Nat.mod_lt d hp
  have e := cnt_rep (f := fun k => inL nr tn (k : Int)) (b := nr.length) (s := tn.length) (p := (idx tn).length) (fun m hm => inL_step m hm) (cnt_turn hp) (d % tn.length) (d / tn.length)
  have dd : nr.length + d % tn.length + d / tn.length * tn.length = nr.length + d := by
    have := Nat.mod_add_div d tn.length
    rw [Nat.mul_comm] at this
    omega
  rw [dd] at e
  have t1 := cnt_lo (nr := nr) (tn := tn) (n := nr.length + d % tn.length) (by omega)
  rw [List.take_add, List.count_append, cnt_lo (by omega)] at t1
  have l := cnt_low nr tn
  unfold cntL at t1 l ⊢
  omega
theorem cut_mid {xs : List V} {b r : Nat} (h : b + r ≤ xs.length) : cutV xs (some (b : Int)) (some ((b + r : Nat) : Int)) = (xs.drop b).take r := by
  unfold cutV
  rw [HT.sIx_nat, HT.sIx_nat, Nat.min_eq_left h, Nat.min_eq_left (show b ≤ xs.length by omega), Nat.add_sub_cancel_left]
def bBel (C : Addr) : List V → Hp → AK → AXK → Prop := fun vs kn Q _ => ∃ a nr tn, ∃ n : Nat, vs = [.ref a, .int n] ∧ LenAt C kn a nr tn ∧ ∀ k', Ext kn k' → Q (.int (cntL nr tn n : Nat)) k'
theorem mo_bel {C : Addr} : MonoX (bBel C) := by
  rintro vs kn Q R E F h1 h2 ⟨a, nr, tn, n, b, c, h⟩
  exact ⟨a, nr, tn, n, b, c, fun k e => h1 _ _ (h k e)⟩
def bAny (C : Addr) : List V → Hp → AK → AXK → Prop := fun vs kn Q _ => ∃ a nr tn, vs = [.ref a] ∧ LenAt C kn a nr tn ∧ Q (.bl ((marks nr tn).any id)) kn
theorem mo_any {C : Addr} : MonoX (bAny C) := by
  rintro vs kn Q R E F h1 h2 ⟨a, nr, tn, b, c, h⟩
  exact ⟨a, nr, tn, b, c, h1 _ _ h⟩
section
variable {P : Program} {w : World} {K : PySem.W.Frag} {mg : Str → Option Value} {base : Heap}
theorem ok_Lengths___bool__ (T : Tx K mg) : FnOk P w K mg base CX0 2 T.f_Lengths___bool__ T.d_Lengths___bool__ ["self"] (liftX (bAny T.c_Lengths)) := by
  refine T.F_Lengths___bool__.ok sc_Lengths___bool__ (fun vs H Q E h => ?_) (fun cdv A outer s H vs Q E hr h => ?_)
  · obtain ⟨kn, _, _, a, nr, tn, rfl, _⟩ := h
    rfl
  · obtain ⟨kn, ex, nt, a, nr, tn, rfl, DA, h⟩ := h
    refine ⟨_, (pss_one (ps_ret (pe_callB (cr_anyT rfl) (by rfl) T.b_any (by decide +kernel) (pa_cons (pe_fld (pv 0) rfl) pa_nil)))), ?_⟩
    refine body_of (pure_start ex nt) ?_
    obtain ⟨dx, q1, q2, q3, z1, z2, z3, z4⟩ := DA.at_
    refine s_ret (w_cb (w_cons (w_fld (w_var rfl ⟨_, _, _, _, _, rfl, z1, T.cl_Lengths, T.na_Lengths__marks, rfl, ?_⟩))))
    exact w_nil (r_anyT z4 (h 0))
theorem ok_Lengths_below (T : Tx K mg) : FnOk P w K mg base CX0 4 T.f_Lengths_below T.d_Lengths_below ["self", "n"] (liftX (bBel T.c_Lengths)) := by
  refine T.F_Lengths_below.ok sc_Lengths_below (fun vs H Q E h => ?_) (fun cdv A outer s H vs Q E hr h => ?_)
  · obtain ⟨kn, _, _, a, nr, tn, n, rfl, _⟩ := h
    rfl
  · obtain ⟨kn, ex, nt, a, nr, tn, n, rfl, DA, h⟩ := h
    refine ⟨_, (pss_cons (ps_expr (pe_call (ok_check_number T) (hr.mono (by decide)) (by rfl) T.g_check_number T.F_check_number.kp T.bd_check_number .nil pass0 (pa_cons (pv 1) pa_nil)))
       (pss_cons (ps_if (pt_cmpR op_le (pv 1) (pe_fld (pv 0) rfl) (nomark _))
       (pss_one (ps_ret (pe_bmF PySem.F.plainAttrs_tuple PySem.F.slot_tuple_count PySem.F.type_tuple_count mt_tcnt (pe_slice (show SlR _ (rSlF K) from sl_tupF) (pe_fld (pv 0) rfl) po_none (po_some (pv 1))) (pa_cons pe_bl pa_nil))))
       pss_nil)
       (pss_cons (ps_asg (pe_callB L2.call_divmod (by rfl) T.b_divmod (by decide +kernel) (pa_cons (pe_op op_sub (pv 1) (pe_fld (pv 0) rfl)) (pa_cons (pe_fld (pv 0) rfl) pa_nil))) (pg_tup (by rfl) (pgs_cons (pg_name (i := 2) sc_Lengths_below.nd rfl (by first | exact Or.inl rfl | exact Or.inr rfl)) (pgs_cons (pg_name (i := 3) sc_Lengths_below.nd rfl (by first | exact Or.inl rfl | exact Or.inr rfl)) pgs_nil))))
       (pss_cons (ps_set (i := 4) sc_Lengths_below.nd rfl (by first | exact Or.inl rfl | exact Or.inr rfl) (pe_slice (show SlR _ (rSlF K) from sl_tupF) (pe_fld (pv 0) rfl) (po_some (pe_fld (pv 0) rfl)) (po_some (pe_op op_add (pe_fld (pv 0) rfl) (pv 3)))))
       (pss_one (ps_ret (pe_op op_add (pe_op op_add (pe_callB c_len (by rfl) T.b_len PySem.boot_len (pa_cons (pe_fld (pv 0) rfl) pa_nil)) (pe_op op_mul (pv 2) (pe_callB c_len (by rfl) T.b_len PySem.boot_len (pa_cons (pe_fld (pv 0) rfl) pa_nil)))) (pe_bmF PySem.F.plainAttrs_tuple PySem.F.slot_tuple_count PySem.F.type_tuple_count mt_tcnt (pv 4) (pa_cons pe_bl pa_nil))))))))), ?_⟩
    refine body_of (pure_start ex nt) ?_
    obtain ⟨dx, q1, q2, q3, z1, z2, z3, z4⟩ := DA.at_
    have F := DA.form
    have cL := T.cl_Lengths
    have tp := F.pos
    have fl := F.le
    have ml := marks_len nr tn
    walk_at "wi"
    refine w_call mo_num err_no ?_
    walk_at "w"
    refine ⟨n, rfl, ?_⟩
    walk_at "wi"
    refine w_fld (w_var rfl ⟨_, _, _, _, _, rfl, z1, cL, T.na_Lengths__start, rfl, ?_⟩)
    walk_at "wi"
    refine ⟨fun hb => ?_, fun hb => ?_⟩
    · have hb := of_decide_eq_true hb
      refine s_ret (w_tcnt (w_sl (w_fld (w_var rfl ⟨_, _, _, _, _, rfl, z1, cL, T.na_Lengths__marks, rfl, ?_⟩))))
      walk_at "w"
      refine r_slF z4 ?_ fun l o h1 h2 hl => ?_
      · rw [List.length_map, ml, HT.sIx_nat]
        omega
      rw [cut_hi, ← List.map_take]
      refine ⟨l, o, _, rfl, upd_same, h1, h2, ?_⟩
      walk_at "w"
      refine ⟨upd_same, ?_⟩
      rw [cnt_lo (by omega)]
      exact h _ (ext_new hl) 0
    · have hb := of_decide_eq_false hb
      obtain ⟨d, rfl⟩ : ∃ d, n = nr.length + d := ⟨n - nr.length, by omega⟩
      walk_at "wi"
      refine w_fld (w_var rfl ⟨_, _, _, _, _, rfl, z1, cL, T.na_Lengths__start, rfl, ?_⟩)
      walk_at "wi"
      refine w_fld (w_var rfl ⟨_, _, _, _, _, rfl, z1, cL, T.na_Lengths__period, rfl, w_nil (r_divmod ⟨by omega, by omega⟩ fun p hp => ?_)⟩)
      have ed : ((nr.length + d : Nat) : Int) - (nr.length : Int) = (d : Int) := by omega
      rw [ed, ← Int.natCast_ediv, ← Int.natCast_emod]
      have e1 : Ext kn (upd kn p (.tup [.int ((d / tn.length : Nat) : Int), .int ((d % tn.length : Nat) : Int)])) := ext_new hp
      have P1 : (upd kn p (.tup [.int ((d / tn.length : Nat) : Int), .int ((d % tn.length : Nat) : Int)])) p = some (.tup [.int ((d / tn.length : Nat) : Int), .int ((d % tn.length : Nat) : Int)]) := upd_same
      generalize upd kn p (.tup [.int ((d / tn.length : Nat) : Int), .int ((d % tn.length : Nat) : Int)]) = k1 at e1 P1 ⊢
      have hm := Nat.mod_lt d tp
      refine g_tup P1 rfl ?_
      walk_at "wi"
      refine w_fld (w_var rfl ⟨_, _, _, _, _, rfl, e1 _ _ z1, cL, T.na_Lengths__marks, rfl, ?_⟩)
      walk_at "wi"
      refine w_fld (w_var rfl ⟨_, _, _, _, _, rfl, e1 _ _ z1, cL, T.na_Lengths__start, rfl, ?_⟩)
      walk_at "wi"
      refine w_fld (w_var rfl ⟨_, _, _, _, _, rfl, e1 _ _ z1, cL, T.na_Lengths__start, rfl, ?_⟩)
      walk_at "wi"
      rw [← Int.natCast_add]
      refine r_slF (e1 _ _ z4) ?_ fun l o h1 h2 hl => ?_
      · rw [List.length_map, ml, HT.sIx_nat, HT.sIx_nat]
        omega
      rw [cut_mid (by rw [List.length_map, ml]; omega), ← List.map_drop, ← List.map_take]
      have e2 : Ext k1 (upd k1 l (.frz o (.tup (List.map V.bl (((marks nr tn).drop nr.length).take (d % tn.length)))))) := ext_new hl
      have P2 : (upd k1 l (.frz o (.tup (List.map V.bl (((marks nr tn).drop nr.length).take (d % tn.length)))))) l = some (.frz o (.tup (List.map V.bl (((marks nr tn).drop nr.length).take (d % tn.length))))) := upd_same
      generalize upd k1 l (.frz o (.tup (List.map V.bl (((marks nr tn).drop nr.length).take (d % tn.length))))) = k2 at e2 P2 ⊢
      have e3 := ext_tr e1 e2
      walk_at "wi"
      refine w_fld (w_var rfl ⟨_, _, _, _, _, rfl, e3 _ _ z1, cL, T.na_Lengths__low, rfl, ?_⟩)
      have z2' := e3 _ _ z2
      have z3' := e3 _ _ z3
      walk_at "wi"
      refine w_fld (w_var rfl ⟨_, _, _, _, _, rfl, e3 _ _ z1, cL, T.na_Lengths__rests, rfl, ?_⟩)
      walk_at "wi"
      have il := idx_len tn
      refine r_I (.inr ⟨by rw [List.length_map]; omega, by rw [List.length_map]; omega⟩) ?_
      walk_at "wi"
      refine w_tcnt (w_var rfl ⟨l, o, _, rfl, P2, h1, h2, ?_⟩)
      walk_at "w"
      refine ⟨P2, ?_⟩
      walk_at "w"
      rw [List.length_map, List.length_map, ← Int.natCast_mul, ← Int.natCast_add, ← Int.natCast_add, cnt_hi tp]
      exact h _ e3 0
end

end NN

namespace NN
open PySem PySem.Spec PyProof.Rows L2 LamX AW ClX
open Tx1 Ln
/-! ### the text -/
theorem sp_eq : (Str.ofString " ") = Tx1.spS := by decide +kernel
theorem from_eq : (Str.ofString "from") = fromS := by decide +kernel
theorem by_eq : (Str.ofString "by") = byS := by decide +kernel
theorem at_eq : (Str.ofString "at") = Tx1.atS := by decide +kernel
theorem none_eq : (Str.ofString "none") = noneS := by decide +kernel
theorem log_small {i : Int} (h1 : -(10 ^ 13) < i) (h2 : i < 10 ^ 13) : i.natAbs.log2 < 1920 := by
  by_cases z : i.natAbs = 0
  · rw [z]; decide
  · have a : i.natAbs < 2 ^ 44 := by omega
    exact Nat.lt_trans ((Nat.log2_lt z).mpr a) (by decide)
theorem len_small {i : Int} (h1 : -(10 ^ 13) < i) (h2 : i < 10 ^ 13) : (Str.ofString (toString i)).length ≤ 14 := by
  rw [PySem.ofString_length]
  exact int_text_length_le10 (k := 13) (by decide) (by omega)
theorem nS_len {n : Nat} (h : n ≤ 1000) : (nS n).length ≤ 14 := len_small (by omega) (by omega)
theorem sum_le {α : Type} {f : α → Nat} {m : Nat} : ∀ {l : List α}, (∀ x ∈ l, f x ≤ m) → (l.map f).sum ≤ m * l.length
  | [], _ => by simp
  | a :: l, h => by
    have h1 := h a List.mem_cons_self
    have h2 := sum_le (f := f) (m := m) (l := l) fun x hx => h x (List.mem_cons_of_mem _ hx)
    simp only [List.map_cons, List.sum_cons, List.length_cons]
    rw [Nat.mul_succ]
    omega
theorem words_len {nr tn : List Bool} (F : Form nr tn) : (wordsT nr tn).length ≤ 410 ∧ ∀ p ∈ wordsT nr tn, p.length ≤ 14 := by
  have h1 := idx_len nr
  have h2 := idx_len tn
  have h3 := F.le
  have hn : ∀ n ∈ idx nr, (nS n).length ≤ 14 := fun n hn => nS_len (by have := (mem_idx.1 hn).1; omega)
  have ht : ∀ n ∈ idx tn, (nS n).length ≤ 14 := fun n hn => nS_len (by have := (mem_idx.1 hn).1; omega)
  constructor
  · unfold wordsT tailW
    rw [List.length_append, List.length_map]
    split
    · simp only [List.length_nil]; omega
    · simp only [List.length_cons, List.length_map]; omega
  · intro p hp
    rcases List.mem_append.1 hp with h | h
    · obtain ⟨n, hm, rfl⟩ := List.mem_map.1 h
      exact hn n hm
    · unfold tailW at h
      split at h
      · cases h
      · simp only [List.mem_cons] at h
        rcases h with rfl | rfl | rfl | rfl | rfl | h
        · decide
        · exact nS_len (by omega)
        · decide
        · exact nS_len (by omega)
        · decide
        · obtain ⟨n, hm, rfl⟩ := List.mem_map.1 h
          exact ht n hm
def fStr : V → V
  | .int i => .str (Str.ofString (toString i))
  | v => v
abbrev strV (ws : List Str) : List V := ws.map V.str
theorem map_fStr (xs : List Nat) : ((natV xs).filter (fun _ => true)).map fStr = strV (xs.map nS) := by
  rw [List.filter_eq_self.2 (fun _ _ => rfl)]
  unfold natV strV
  rw [List.map_map, List.map_map]
  rfl
def bStr (C : Addr) : List V → Hp → AK → AXK → Prop := fun vs kn Q _ => ∃ a nr tn, vs = [.ref a] ∧ LenAt C kn a nr tn ∧ ∀ k', Ext kn k' → Q (.str (lnT nr tn)) k'
theorem mo_str {C : Addr} : MonoX (bStr C) := by
  rintro vs kn Q R E F h1 h2 ⟨a, nr, tn, x, y, h⟩
  exact ⟨a, nr, tn, x, y, fun k e => h1 _ _ (h k e)⟩
section
variable {c : Cw} {kn : Hp} {n : Nat} {σ : L2.St} {Q : V → Hp → Nat → Prop} {K : PySem.W.Frag}
/-- [str(n) for n in a tuple of numbers] -/
theorem w_strs {te : TE} {i : Nat} {xs : List Nat} {q : Addr} (hte : ∀ R : V → Hp → Nat → Prop, R (.ref q) kn n → W c (te σ) kn n R) (hq : kn q = some (.tup (natV xs))) (hl : xs.length ≤ 1000) (hx : ∀ m ∈ xs, m ≤ 1000)
    (hi : ∀ v : V, ((wipe σ [i]).set i (some v))[i]? = some (some v)) (hw : ∀ v : V, wipe ((wipe σ [i]).set i (some v)) [i] = wipe σ [i])
    (h : ∀ D, kn D = none → Q (.ref D) (upd kn D (.lst (strV (xs.map nS)))) n) : W c (tLc (iTup K te) (gName i) tYes (tCB rStrI (tCons (tVar i) tNil)) [i] σ) kn n Q := by
  refine w_lcP (i_tup (hte _ ⟨q, _, rfl, hq, ?_⟩))
  refine ⟨_, _, fStr, fun _ => true, gives_tup, by rw [List.length_map]; omega, fun k e => e _ _ hq, fun x hx2 k ek => ?_, fun D hD => ?_⟩
  · obtain ⟨m, hm, rfl⟩ := List.mem_map.1 hx2
    have := hx m hm
    refine g_name ⟨rfl, rfl, hw _, w_yesT ⟨rfl, rfl, rfl, fun _ => ?_⟩⟩
    exact w_cb (w_cons (w_var (hi _) (w_nil (r_strI (log_small (by omega) (by omega)) ⟨rfl, rfl, rfl⟩))))
  · rw [map_fStr]
    exact h D hD
end
section
variable {P : Program} {w : World} {K : PySem.W.Frag} {mg : Str → Option Value} {base : Heap}
theorem ok_Lengths___str__ (T : Tx K mg) : FnOk P w K mg base CX0 2 T.f_Lengths___str__ T.d_Lengths___str__ ["self"] (liftX (bStr T.c_Lengths)) := by
  refine T.F_Lengths___str__.ok sc_Lengths___str__ (fun vs H Q E h => ?_) (fun cdv A outer s H vs Q E hr h => ?_)
  · obtain ⟨kn, _, _, a, nr, tn, rfl, _⟩ := h
    rfl
  · obtain ⟨kn, ex, nt, a, nr, tn, rfl, ⟨⟨dx, q1, q2, q3, z1, z2, z3, z4⟩, F⟩, h⟩ := h
    refine ⟨_, (pss_cons (ps_setLc (i := 1) (own := [("n", 2)]) (g := gName 2) (by rfl) sc_Lengths___str__.nd rfl rfl (sw_true rfl rfl rfl (by decide +kernel)) (pi_tup (pe_fld (pv 0) rfl)) (blkOk_by (own := [("n", 2)]) (N := ["self", "words", "n", "rests"]) (sc := defScope s_Lengths___str__) (by decide +kernel)) (fun _ _ _ _ _ => pg_name (i := 2) sc_Lengths___str__.nd rfl (Or.inl rfl)) (fun _ _ _ _ _ => pts_nil) (fun _ _ _ _ _ => (pe_callTy c_strI (by rfl) T.b_str (by decide +kernel) (pa_cons (pv 2) pa_nil))))
       (pss_cons (ps_if (pt_truthQ (pe_fld (pv 0) rfl) (by intro _; rfl))
       (pss_cons (ps_setLc (i := 3) (own := [("n", 2)]) (g := gName 2) (by rfl) sc_Lengths___str__.nd rfl rfl (sw_true rfl rfl rfl (by decide +kernel)) (pi_tup (pe_fld (pv 0) rfl)) (blkOk_by (own := [("n", 2)]) (N := ["self", "words", "n", "rests"]) (sc := defScope s_Lengths___str__) (by decide +kernel)) (fun _ _ _ _ _ => pg_name (i := 2) sc_Lengths___str__.nd rfl (Or.inl rfl)) (fun _ _ _ _ _ => pts_nil) (fun _ _ _ _ _ => (pe_callTy c_strI (by rfl) T.b_str (by decide +kernel) (pa_cons (pv 2) pa_nil))))
       (pss_one (ps_set (i := 1) sc_Lengths___str__.nd rfl (by first | exact Or.inl rfl | exact Or.inr rfl) (pe_lst (StX.pa_star (pv 1) (pa_cons pe_str (pa_cons (pe_callTy c_strI (by rfl) T.b_str (by decide +kernel) (pa_cons (pe_fld (pv 0) rfl) pa_nil)) (pa_cons pe_str (pa_cons (pe_callTy c_strI (by rfl) T.b_str (by decide +kernel) (pa_cons (pe_fld (pv 0) rfl) pa_nil)) (pa_cons pe_str (StX.pa_star (pv 3) pa_nil)))))))))))
       pss_nil)
       (pss_cons (ps_if (pt_not (pt_truthQ (pv 1) (by intro _; rfl)))
       (pss_one (ps_ret pe_str))
       pss_nil)
       (pss_one (ps_ret (pe_joinQ pe_str (pv 1))))))), ?_⟩
    refine body_of (pure_start ex nt) ?_
    have cL := T.cl_Lengths
    have i1 := idx_len nr
    have i2 := idx_len tn
    have fl := F.le
    refine s_seq (s_set ?_)
    refine w_strs (q := q1) (fun R hR => w_fld (w_var rfl ⟨_, _, _, _, _, rfl, z1, cL, T.na_Lengths__low, rfl, hR⟩)) z2 (by omega) (fun m hm => by have := (mem_idx.1 hm).1; omega) (fun _ => rfl) (fun _ => rfl) fun D hD => ?_
    have e1 : Ext kn (upd kn D (.lst (strV ((idx nr).map nS)))) := ext_new hD
    have D1 : (upd kn D (.lst (strV ((idx nr).map nS)))) D = some (.lst (strV ((idx nr).map nS))) := upd_same
    generalize upd kn D (.lst (strV ((idx nr).map nS))) = k1 at e1 D1 ⊢
    refine s_seq ?_
    refine s_join (fun σ' k' n' => n' = 0 ∧ Ext kn k' ∧ ∃ Dw x2 x3, σ' = [some (.ref a), some (.ref Dw), x2, x3] ∧ k' Dw = some (.lst (strV (wordsT nr tn)))) ?_ ?_
    · refine s_if (w_tru (w_fld (w_var rfl ⟨_, _, _, _, _, rfl, e1 _ _ z1, cL, T.na_Lengths__rests, rfl, q2, _, rfl, .inr (e1 _ _ z3), fun hb => ?_, fun hb => ?_⟩)))
      · have hne : idx tn ≠ [] := fun z => by rw [z] at hb; cases hb
        refine s_seq (s_set ?_)
        refine w_strs (q := q2) (fun R hR => w_fld (w_var rfl ⟨_, _, _, _, _, rfl, e1 _ _ z1, cL, T.na_Lengths__rests, rfl, hR⟩)) (e1 _ _ z3) (by omega) (fun m hm => by have := (mem_idx.1 hm).1; omega) (fun _ => rfl) (fun _ => rfl) fun D2 hD2 => ?_
        have e2 := ext_tr e1 (ext_new (o := .lst (strV ((idx tn).map nS))) hD2)
        have D2' := know (o := .lst (strV ((idx tn).map nS))) hD2 D1
        have R2 : (upd k1 D2 (.lst (strV ((idx tn).map nS)))) D2 = some (.lst (strV ((idx tn).map nS))) := upd_same
        generalize upd k1 D2 (.lst (strV ((idx tn).map nS))) = k2 at e2 D2' R2 ⊢
        refine s_set (w_lst (w_star (w_var rfl ⟨D, _, rfl, .inl D2', ?_⟩)))
        walk_at "w"
        refine w_fld (w_var rfl ⟨_, _, _, _, _, rfl, e2 _ _ z1, cL, T.na_Lengths__start, rfl, ?_⟩)
        walk_at "w"
        refine r_strI (log_small (by omega) (by omega)) ?_
        walk_at "w"
        refine w_fld (w_var rfl ⟨_, _, _, _, _, rfl, e2 _ _ z1, cL, T.na_Lengths__period, rfl, ?_⟩)
        walk_at "w"
        refine r_strI (log_small (by omega) (by omega)) ?_
        walk_at "w"
        refine w_star (w_var rfl ⟨D2, _, rfl, .inl R2, w_nil ?_⟩)
        have we : strV ((idx nr).map nS) ++ V.str (Str.ofString "from") :: V.str (Str.ofString (toString ((nr.length : Nat) : Int))) :: V.str (Str.ofString "by") :: V.str (Str.ofString (toString ((tn.length : Nat) : Int))) :: V.str (Str.ofString "at") :: (strV ((idx tn).map nS) ++ []) = strV (wordsT nr tn) := by
          unfold wordsT tailW strV
          rw [if_neg hne, List.append_nil, List.map_append, from_eq, by_eq, at_eq]
          rfl
        refine ⟨?_, fun Dw hDw => ?_⟩
        · have := congrArg List.length we
          have wl := (words_len F).1
          unfold strV at this
          rw [List.length_map (as := wordsT nr tn)] at this
          exact Nat.le_trans (Nat.le_of_eq this) (by omega)
        · refine ⟨rfl, ext_tr e2 (ext_new hDw), Dw, _, _, rfl, ?_⟩
          rw [upd_same]
          exact congrArg (fun l => some (HO.lst l)) we
      · have he : idx tn = [] := by
          cases z : idx tn with
          | nil => rfl
          | cons x r => rw [z] at hb; cases hb
        walk_at "wi"
        refine ⟨rfl, e1, D, _, _, rfl, ?_⟩
        unfold wordsT tailW
        rw [if_pos he, List.append_nil]
        exact D1
    · rintro σ' k' n' ⟨rfl, ek, Dw, x2, x3, rfl, hw⟩
      obtain ⟨wl, wm⟩ := words_len F
      refine s_seq (s_if (w_not (w_tru (w_var rfl ⟨Dw, _, rfl, .inl hw, fun hb => ?_, fun hb => ?_⟩))))
      · have he : wordsT nr tn = [] := by
          cases z : wordsT nr tn with
          | nil => rfl
          | cons x r => rw [z] at hb; cases hb
        walk_at "wi"
        have := h k' ek 0
        unfold lnT at this
        rw [if_pos he, ← none_eq] at this
        exact this
      · have hne : wordsT nr tn ≠ [] := fun z => by rw [z] at hb; cases hb
        refine s_next (s_ret (w_m1 ?_))
        walk_at "w"
        refine ⟨⟨_, rfl⟩, ?_⟩
        walk_at "w"
        refine r_joinQ hw ?_ ?_
        · have := sum_le (f := fun x : Str => x.length) (m := 14) (l := wordsT nr tn) wm
          have hs : (Str.ofString " ").length = 1 := by decide +kernel
          rw [hs]
          omega
        · have := h k' ek 0
          unfold lnT at this
          rw [if_neg hne, ← sp_eq] at this
          exact this
end

end NN

namespace NN
open PySem PySem.Spec PyProof.Rows L2 LamX AW ClX
open Tx1 Ln
/-! ### texts read -/
theorem minus_eq : (Str.ofString "-") = minusS := by decide +kernel
theorem len_rp (x : Str) : (Txt.removeprefix x minusS).length ≤ x.length := by
  rw [lenT, lenT, rp_tl]
  split
  · rw [List.length_drop]; omega
  · exact Nat.le_refl _
theorem log_lt {i : Int} {k : Nat} (h : i.natAbs < 2 ^ k) : i.natAbs.log2 < k + 1 := by
  by_cases z : i.natAbs = 0
  · rw [z]; exact Nat.succ_pos _
  · exact Nat.lt_succ_of_lt ((Nat.log2_lt z).mpr h)
def Asc (x : Str) : Prop := (∀ c ∈ TL.tl x, c < 128) ∧ x.length ≤ 1000
def bRN : List V → Hp → AK → AXK → Prop := fun vs kn Q _ => ∃ x : Str, vs = [.str x] ∧ Asc x ∧ (∀ n, isN x n → Q (.int n) kn) ∧ ((∀ n, ¬ isN x n) → Q .non kn)
theorem mo_rn : MonoX bRN := by
  rintro vs kn Q R E F h1 h2 ⟨x, a, b, c, d⟩
  exact ⟨x, a, b, fun n hn => h1 _ _ (c n hn), fun hn => h1 _ _ (d hn)⟩
open Classical in
noncomputable def rnV (x : Str) : V := if h : ∃ n, isN x n then .int (Classical.choose h) else .non
noncomputable def rnF : V → V
  | .str x => rnV x
  | v => v
theorem rnV_is {x : Str} {n : Int} (h : isN x n) : rnV x = .int n := by
  unfold rnV
  rw [dif_pos ⟨n, h⟩]
  rw [isN_uni (Classical.choose_spec (⟨n, h⟩ : ∃ n, isN x n)) h]
theorem rnV_no {x : Str} (h : ∀ n, ¬ isN x n) : rnV x = .non := by
  unfold rnV
  rw [dif_neg (fun ⟨n, z⟩ => h n z)]
theorem inV_str (x : Str) : ∀ ws : List Str, inV (.str x) (strV ws) = decide (x ∈ ws)
  | [] => rfl
  | w :: ws => by
    have ih := inV_str x ws
    unfold inV strV at ih ⊢
    rw [List.map_cons, List.any_cons, ih]
    show (w == x || decide (x ∈ ws)) = _
    by_cases e : w = x
    · subst e
      simp
    · have e2 : ¬ x = w := fun z => e z.symm
      rw [beq_eq_false_iff_ne.2 e, Bool.false_or]
      exact decide_eq_decide.2 ⟨fun h => .tail _ h, fun h => (List.mem_cons.1 h).resolve_left e2⟩
theorem flat_strs (ws : List Str) : (strV ws).all flatV = true := by
  unfold strV
  rw [List.all_map]
  exact List.all_eq_true.2 fun _ _ => rfl
theorem pick_six {a b c d e f : V} {r : List V} : pick3 (a :: b :: c :: d :: e :: f :: r) (some 0) (some 6) (some 2) = [a, c, e] := by
  unfold pick3
  have hb : sliceBounds (some 0) (some 6) (some 2) (a :: b :: c :: d :: e :: f :: r).length = (0, 6, 2) := by
    unfold sliceBounds
    simp only [List.length_cons, Option.getD_some]
    have h : (((r.length + 1 + 1 + 1 + 1 + 1 + 1 : Nat)) : Int) = (r.length : Int) + 6 := by omega
    rw [h]
    simp only [show ¬ ((0 : Int) < 0) by decide, show ¬ ((6 : Int) < 0) by decide, show ((2 : Int) > 0) by decide, if_true, if_false]
    refine Prod.ext ?_ (Prod.ext ?_ rfl)
    · show max (0 : Int) (min 0 ((r.length : Int) + 6)) = 0
      omega
    · show max (0 : Int) (min 6 ((r.length : Int) + 6)) = 6
      omega
  rw [hb, show sliceRange (0 : Int) 6 2 = [0, 2, 4] by decide +kernel]
  rfl
theorem dp_strs {K : PySem.W.Frag} {H : Hp} : ∀ ns : List Str, DpAll K H (strV ns) (ns.map PyData.str)
  | [] => .nil
  | n :: r => .cons (.str n) (dp_strs r)
theorem nS_isN {n : Nat} (h : n ≤ 1000) : isN (nS n) n := ⟨rfl, Nat.lt_of_le_of_lt (show ((n : Nat) : Int).natAbs ≤ 1000 by omega) (by decide)⟩
theorem nS_asc {n : Nat} (h : n ≤ 1000) : Asc (nS n) := ⟨fun c hc => by have := nS_dig n c hc; omega, Nat.le_trans (nS_len h) (by decide)⟩
theorem map_rn {xs : List Nat} (hx : ∀ m ∈ xs, m ≤ 1000) : ((strV (xs.map nS)).filter (fun _ => true)).map rnF = natV xs := by
  rw [List.filter_eq_self.2 (fun _ _ => rfl)]
  unfold natV strV
  rw [List.map_map, List.map_map]
  apply List.map_congr_left
  intro m hm
  exact rnV_is (nS_isN (hx m hm))
section
variable {c : Cw} {kn : Hp} {n : Nat} {σ : L2.St} {Q : V → Hp → Nat → Prop} {K : PySem.W.Frag}
theorem w_index {i l : Nat} {ws : List Str} {x : Str} {j : Nat} (hv : σ[i]? = some (some (.ref l))) (hl : kn l = some (.lst (strV ws))) (hj : ws[j]? = some x) (hm : ∀ (m : Nat) (z : Str), m < j → ws[m]? = some z → z ≠ x) (q : Q (.int j) kn n) : W c (tBM K "list" (rIndex K) (tVar i) (tCons (tC (.str x)) tNil) σ) kn n Q :=
  fun H g Q' k => ⟨.ref l, hv, .inl ⟨rfl, _, sql (g.ex _ _ hl)⟩, by
    have hw : W c (tCons (tC (.str x)) tNil σ) kn n (fun xs kn' n' => xs = [V.str x] ∧ kn' = kn ∧ n' = n) := w_cons (w_c (w_nil ⟨rfl, rfl, rfl⟩))
    refine hw H g _ fun xs kn' n' H' hx g' => ?_
    obtain ⟨e1, e2, e3⟩ := hx
    subst e1 e2 e3
    refine ⟨l, strV ws, .str x, j, .str x, rfl, rfl, sql (g'.ex _ _ hl), rfl, flat_strs ws, by rw [List.getElem?_map, hj]; rfl, by show (x == x) = true; simp, fun m z' hm2 hz => ?_, k _ _ _ _ q g'⟩
    rw [List.getElem?_map] at hz
    obtain ⟨z, hz1, rfl⟩ := Option.map_eq_some_iff.1 hz
    exact beq_eq_false_iff_ne.2 (hm m z hm2 hz1)⟩
end
def bParse (C : Addr) : List V → Hp → AK → AXK → Prop := fun vs kn Q _ => ∃ (nr tn : List Bool), vs = [.str (lnT nr tn)] ∧ Form nr tn ∧ NewL C kn nr tn Q
theorem mo_parse {C : Addr} : MonoX (bParse C) := by
  rintro vs kn Q R E F h1 h2 ⟨nr, tn, a, b, h⟩
  exact ⟨nr, tn, a, b, fun x k z1 z2 z3 => h1 _ _ (h x k z1 z2 z3)⟩
def bRead (C : Addr) : List V → Hp → AK → AXK → Prop := fun vs kn Q _ => ∃ (nr tn : List Bool), vs = [.ref C, .str (lnT nr tn)] ∧ Form nr tn ∧ NewL C kn nr tn Q
theorem mo_read {C : Addr} : MonoX (bRead C) := by
  rintro vs kn Q R E F h1 h2 ⟨nr, tn, a, b, h⟩
  exact ⟨nr, tn, a, b, fun x k z1 z2 z3 => h1 _ _ (h x k z1 z2 z3)⟩
section
variable {P : Program} {w : World} {K : PySem.W.Frag} {mg : Str → Option Value} {base : Heap}
theorem ok_read_number (T : Tx K mg) : FnOk P w K mg base CX0 1 T.f_read_number T.d_read_number ["word"] (liftX bRN) := by
  refine T.F_read_number.ok sc_read_number (fun vs H Q E h => ?_) (fun cdv A outer s H vs Q E hr h => ?_)
  · obtain ⟨kn, _, _, x, rfl, _⟩ := h
    rfl
  · obtain ⟨kn, ex, nt, x, rfl, ⟨ha, hl⟩, h1, h2⟩ := h
    refine ⟨_, (pss_cons (ps_set (i := 1) sc_read_number.nd rfl (by first | exact Or.inl rfl | exact Or.inr rfl) (pe_bm PySem.F.plainAttrs_str PySem.F.slot_str_removeprefix (by rfl) m_rp (pv 0) (pa_cons pe_str pa_nil)))
       (pss_cons (ps_if (PW.pt (pw_or (pt_cmpR op_gt (pe_callB c_lenS (by rfl) T.b_len PySem.boot_len (pa_cons (pv 1) pa_nil)) (pe_glob (v := .int 12) (by rfl) (Classical.choose_spec T.g_DIGITS) ⟨_, rfl⟩) (nomark _)) (pw_or1 (pt_not (pt_val (pe_bm0 PySem.F.plainAttrs_str PySem.F.slot_str_isdecimal PySem.F.type_str_isdecimal m_dec (pv 1)))))))
       (pss_one (ps_ret pe_non))
       pss_nil)
       (pss_cons (ps_set (i := 2) sc_read_number.nd rfl (by first | exact Or.inl rfl | exact Or.inr rfl) (pe_callTy c_intS (by rfl) T.b_int boot_int (pa_cons (pv 0) pa_nil)))
       (pss_one (ps_ret (pe_ifExp (pt_cmpR op_eq (pe_callTy c_strI (by rfl) T.b_str (by decide +kernel) (pa_cons (pv 2) pa_nil)) (pv 0) (nomark _)) (pv 2) pe_non)))))), ?_⟩
    refine body_of (pure_start ex nt) ?_
    walk_at "wi"
    refine w_bmS ?_
    walk_at "wi"
    refine ⟨⟨_, rfl⟩, ?_⟩
    walk_at "wi"
    refine r_rp (by omega) ?_
    rw [minus_eq]
    walk_at "wi"
    have hlr := len_rp x
    refine r_lenS (by omega) ?_
    walk_at "wi"
    refine ⟨fun hb => ?_, fun hb => ⟨fun _ => ?_, fun z => absurd z (by decide)⟩⟩
    · have hb := of_decide_eq_false hb
      walk_at "wi"
      refine w_bmS0 ?_
      walk_at "wi"
      refine ⟨⟨_, rfl⟩, ?_⟩
      refine r_dec ?_
      walk_at "wi"
      refine ⟨fun hd => ?_, fun hd => ?_⟩
      · walk_at "wi"
        exact h2 (rn_no (.inr (by simpa using hd))) 0
      · obtain ⟨i, hi, hin, hl2, hu⟩ := rn_yes ha (by omega) (by simpa using hd)
        walk_at "wi"
        refine r_intS hi (by omega) ?_
        walk_at "wi"
        refine r_strI (Nat.lt_trans (log_lt (k := 40) (by omega)) (by decide)) ?_
        walk_at "wi"
        refine ⟨fun he => ?_, fun he => ?_⟩
        · walk_at "wi"
          exact h1 i ⟨(V.str.inj (of_decide_eq_true he)).symm, hin⟩ 0
        · walk_at "wi"
          refine h2 (fun m hm => of_decide_eq_false he ?_) 0
          rw [← hu m hm]
          exact congrArg V.str hm.1.symm
    · have hb := of_decide_eq_true hb
      walk_at "wi"
      exact h2 (rn_no (.inl (by omega))) 0
end

end NN

namespace NN
open PySem PySem.Spec PyProof.Rows L2 LamX AW ClX
open Tx1 Ln
/-! ### read -/
theorem again_N {nr tn : List Bool} (F : Form nr tn) : formN nr.length tn.length (idx nr) (idx tn) = nr := by
  unfold formN
  rw [mask_idx, mask_idx, F.per, (form_again F).2, List.take_length]
theorem again_T {tn : List Bool} {nr : List Bool} (F : Form nr tn) : formT tn.length (idx tn) = tn := by
  unfold formT
  rw [mask_idx, F.per, List.take_length]
theorem again_small {nr tn : List Bool} (F : Form nr tn) : Small nr.length tn.length (idx nr) (idx tn) := by
  unfold Small
  rw [mask_idx, mask_idx, F.per, (form_again F).2]
  exact F.le
theorem fin_N {nr : List Bool} (F : Form nr [false]) : formN 400 1 (idx nr) [] = nr := by
  unfold formN
  rw [mask1, least1, (form_fin_begin F).1, (form_fin_begin F).2]
theorem fin_small {nr : List Bool} (F : Form nr [false]) : Small 400 1 (idx nr) [] := by
  unfold Small
  rw [mask1, least1, (form_fin_begin F).1]
  exact F.le
theorem words_at {nr tn : List Bool} (h : idx tn ≠ []) : wordsT nr tn = (idx nr).map nS ++ fromS :: nS nr.length :: byS :: nS tn.length :: Tx1.atS :: (idx tn).map nS := by
  unfold wordsT tailW
  rw [if_neg h]
theorem join_len : ∀ ws : List Str, (Txt.join Tx1.spS ws).length ≤ (ws.map (·.length)).sum + ws.length
  | [] => by rw [TL.join_eq]; exact Nat.zero_le _
  | [x] => by rw [TL.join_eq]; show x.length ≤ _; simp
  | x :: y :: r => by
    have ih := join_len (y :: r)
    rw [TL.join_eq] at ih ⊢
    show (x ++ Tx1.spS ++ Str.join Tx1.spS (y :: r)).length ≤ _
    rw [PySem.Str.length_append, PySem.Str.length_append]
    have hs : Tx1.spS.length = 1 := rfl
    rw [hs]
    simp only [List.map_cons, List.sum_cons, List.length_cons] at ih ⊢
    omega
theorem lnT_len {nr tn : List Bool} (F : Form nr tn) : (lnT nr tn).length ≤ 10000 := by
  obtain ⟨wl, wm⟩ := words_len F
  unfold lnT
  split
  · decide
  · have := join_len (wordsT nr tn)
    have h2 := sum_le (f := fun x : Str => x.length) (m := 14) (l := wordsT nr tn) wm
    omega
section
variable {c : Cw} {kn : Hp} {n : Nat} {σ : L2.St} {Q : V → Hp → Nat → Prop} {K : PySem.W.Frag}
/-- [read_number(word) for word in a list of numbers' texts] -/
theorem w_nums {te : TE} {i : Nat} {xs : List Nat} (hte : ∀ R : V → Hp → Nat → Prop, (∀ q k', Ext kn k' → k' q = some (.lst (strV (xs.map nS))) → R (.ref q) k' n) → W c (te σ) kn n R) (hl : xs.length ≤ 1000) (hx : ∀ m ∈ xs, m ≤ 1000)
    (hi : ∀ v : V, ((wipe σ [i]).set i (some v))[i]? = some (some v)) (hw : ∀ v : V, wipe ((wipe σ [i]).set i (some v)) [i] = wipe σ [i])
    (h : ∀ D k', Ext kn k' → kn D = none → k' D = some (.lst (natV xs)) → Q (.ref D) k' n) : W c (tLc (iList K te) (gName i) tYes (tCall (liftX bRN) [] E0 (tCons (tVar i) tNil)) [i] σ) kn n Q := by
  refine w_lcP (i_list (hte _ fun q k1 e1 hq => ⟨q, _, rfl, hq, ?_⟩))
  refine ⟨_, _, rnF, fun _ => true, gives_lst, by rw [List.length_map, List.length_map]; omega, fun k e => e _ _ hq, fun x hx2 k ek => ?_, fun D hD => ?_⟩
  · obtain ⟨w, hw2, rfl⟩ := List.mem_map.1 hx2
    obtain ⟨m, hm, rfl⟩ := List.mem_map.1 hw2
    have hm2 := hx m hm
    refine g_name ⟨rfl, rfl, hw _, w_yesT ⟨rfl, rfl, rfl, fun _ => ?_⟩⟩
    refine w_call (EA := fun _ _ _ _ => False) mo_rn err_no (w_cons (w_var (hi _) (w_nil ⟨_, rfl, nS_asc hm2, fun j hj => ?_, fun hno => absurd (nS_isN hm2) (hno _)⟩)))
    refine ⟨?_, rfl, rfl⟩
    show _ = rnV (nS m)
    rw [rnV_is hj]
  · rw [map_rn hx]
    exact h D _ (ext_tr e1 (ext_new hD)) (free_ext e1 hD) upd_same
end
section
variable {P : Program} {w : World} {K : PySem.W.Frag} {mg : Str → Option Value} {base : Heap}
theorem ok_read_parts (T : Tx K mg) : FnOk P w K mg base CX0 9 T.f_read_parts T.d_read_parts ["text"] (liftX (bParse T.c_Lengths)) := by
  refine T.F_read_parts.ok sc_read_parts (fun vs H Q E h => ?_) (fun cdv A outer s H vs Q E hr h => ?_)
  · obtain ⟨kn, _, _, nr, tn, rfl, _⟩ := h
    rfl
  · obtain ⟨kn, ex, nt, nr, tn, rfl, F, h⟩ := h
    refine ⟨_, (pss_cons (ps_if (pt_cmpR op_eq (pv 0) pe_str (nomark _))
       (pss_one (ps_ret (pe_smeth0 (pe_glob (v := .ref T.c_Lengths) (by rfl) T.g_Lengths rfl) T.cr_Lengths T.sme_Lengths_none (oR_Lengths_none T) (hr.mono (by decide)) pass0)))
       pss_nil)
       (pss_cons (ps_set (i := 1) sc_read_parts.nd rfl (by first | exact Or.inl rfl | exact Or.inr rfl) (pe_splitQ (pv 0) pe_str))
       (pss_cons (ps_if (pt_cmpR c_notInQ pe_str (pv 1) (by rfl))
       (pss_one (ps_ret (pe_make T.mk_Lengths (ok_Lengths___init__ T) (hr.mono (by decide)) (by rfl) T.g_Lengths (Classical.choose_spec T.bd2_Lengths).2 (Classical.choose_spec T.bd2_Lengths).1 pass0 (pa_cons (pe_cval (pe_glob (v := .ref T.c_Lengths) (by rfl) T.g_Lengths rfl)) (pa_cons (pe_lc (own := [("word", 2)]) (g := gName 2) (by rfl) sc_read_parts.nd (pi_list (pv 1)) (blkOk_by (own := [("word", 2)]) (N := ["text", "words", "word", "at", "low", "form", "start", "period", "rests"]) (sc := defScope s_read_parts) (by decide +kernel)) (fun _ _ _ _ _ => pg_name (i := 2) sc_read_parts.nd rfl (Or.inl rfl)) (fun _ _ _ _ _ => pts_nil) (fun _ _ _ _ _ => (pe_call (ok_read_number T) (hr.mono (by decide)) (by rfl) T.g_read_number T.F_read_number.kp T.bd_read_number .nil pass0 (pa_cons (pv 2) pa_nil)))) pa_nil)))))
       pss_nil)
       (pss_cons (ps_set (i := 3) sc_read_parts.nd rfl (by first | exact Or.inl rfl | exact Or.inr rfl) (pe_bm PySem.F.plainAttrs_list PySem.F.slot_list_index PySem.F.type_list_index mt_index (pv 1) (pa_cons pe_str pa_nil)))
       (pss_cons (ps_par (i := 4) (j := 5) (by rfl) sc_read_parts.nd rfl rfl (by decide) rfl rfl (pa_cons (pe_slice (show SlR _ (rSlL K) from sl_list) (pv 1) po_none (po_some (pv 3))) (pa_cons (pe_slice (show SlR _ (rSlL K) from sl_list) (pv 1) (po_some (pv 3)) po_none) pa_nil)) (by rfl))
       (pss_cons (ps_if (pt_cmpR (op_neD hr.units) (pe_sl3 (k := 2) (by decide) (pv 5) (po_some pe_int) (po_some pe_int) (po_some pe_int)) (pe_lst (pa_cons pe_str (pa_cons pe_str (pa_cons pe_str pa_nil)))) (nomark _))
       (pss_one ps_never)
       pss_nil)
       (pss_cons (ps_par (i := 6) (j := 7) (by rfl) sc_read_parts.nd rfl rfl (by decide) rfl rfl (pa_cons (pe_call (ok_read_number T) (hr.mono (by decide)) (by rfl) T.g_read_number T.F_read_number.kp T.bd_read_number .nil pass0 (pa_cons (pe_ix (show IxR _ (rIxL K) from ix_list) (pv 5) pe_int (fun _ _ => rfl)) pa_nil)) (pa_cons (pe_call (ok_read_number T) (hr.mono (by decide)) (by rfl) T.g_read_number T.F_read_number.kp T.bd_read_number .nil pass0 (pa_cons (pe_ix (show IxR _ (rIxL K) from ix_list) (pv 5) pe_int (fun _ _ => rfl)) pa_nil)) pa_nil)) (by rfl))
       (pss_cons (ps_setLc (i := 8) (own := [("word", 2)]) (g := gName 2) (by rfl) sc_read_parts.nd rfl rfl (sw_true rfl rfl rfl (by decide +kernel)) (pi_list (pe_slice (show SlR _ (rSlL K) from sl_list) (pv 5) (po_some pe_int) po_none)) (blkOk_by (own := [("word", 2)]) (N := ["text", "words", "word", "at", "low", "form", "start", "period", "rests"]) (sc := defScope s_read_parts) (by decide +kernel)) (fun _ _ _ _ _ => pg_name (i := 2) sc_read_parts.nd rfl (Or.inl rfl)) (fun _ _ _ _ _ => pts_nil) (fun _ _ _ _ _ => (pe_call (ok_read_number T) (hr.mono (by decide)) (by rfl) T.g_read_number T.F_read_number.kp T.bd_read_number .nil pass0 (pa_cons (pv 2) pa_nil))))
       (pss_one (ps_ret (pe_make T.mk_Lengths (ok_Lengths___init__ T) (hr.mono (by decide)) (by rfl) T.g_Lengths (Classical.choose_spec T.bd4_Lengths).2 (Classical.choose_spec T.bd4_Lengths).1 pass0 (pa_cons (pv 6) (pa_cons (pe_lc (own := [("word", 2)]) (g := gName 2) (by rfl) sc_read_parts.nd (pi_list (pv 4)) (blkOk_by (own := [("word", 2)]) (N := ["text", "words", "word", "at", "low", "form", "start", "period", "rests"]) (sc := defScope s_read_parts) (by decide +kernel)) (fun _ _ _ _ _ => pg_name (i := 2) sc_read_parts.nd rfl (Or.inl rfl)) (fun _ _ _ _ _ => pts_nil) (fun _ _ _ _ _ => (pe_call (ok_read_number T) (hr.mono (by decide)) (by rfl) T.g_read_number T.F_read_number.kp T.bd_read_number .nil pass0 (pa_cons (pv 2) pa_nil)))) (pa_cons (pv 7) (pa_cons (pv 8) pa_nil))))))))))))))), ?_⟩
    refine body_of (pure_start ex nt) ?_
    obtain ⟨mu, hmu⟩ := T.cv_Lengths_MOST
    have i1 := idx_len nr
    have i2 := idx_len tn
    have fl := F.le
    have hx : ∀ m ∈ idx nr, m ≤ 1000 := fun m hm => by have := (mem_idx.1 hm).1; omega
    have hy : ∀ m ∈ idx tn, m ≤ 1000 := fun m hm => by have := (mem_idx.1 hm).1; omega
    walk_at "wi"
    refine ⟨fun hb => ?_, fun hb => ?_⟩
    · have hb : lnT nr tn = noneS := by rw [← none_eq]; exact V.str.inj (of_decide_eq_true hb)
      have hw : wordsT nr tn = [] := Classical.byContradiction fun z => lnT_ne_none z hb
      obtain ⟨rfl, rfl⟩ := words_nil F hw
      walk_at "wi"
      refine w_smeth mo_new err_no ?_
      walk_at "w"
      refine ⟨rfl, ?_⟩
      walk_at "w"
      exact ⟨rfl, fun x k e n l => h x k e n l 0⟩
    · have hb : ¬ lnT nr tn = noneS := fun z => of_decide_eq_false hb (by rw [none_eq, z])
      have hw : wordsT nr tn ≠ [] := fun z => hb (by unfold lnT; rw [if_pos z])
      obtain ⟨wl, wm⟩ := words_len F
      have tl := lnT_len F
      walk_at "wi"
      refine w_m1 ?_
      walk_at "w"
      refine ⟨⟨_, rfl⟩, ?_⟩
      walk_at "w"
      rw [sp_eq]
      refine r_split rfl (by omega) fun W hW => ?_
      rw [split_lnT hw]
      have e1 : Ext kn (upd kn W (.lst (strV (wordsT nr tn)))) := ext_new hW
      have W1 : (upd kn W (.lst (strV (wordsT nr tn)))) W = some (.lst (strV (wordsT nr tn))) := upd_same
      show WS _ _ _ _ (upd kn W (.lst (strV (wordsT nr tn)))) _
      generalize upd kn W (.lst (strV (wordsT nr tn))) = k1 at e1 W1 ⊢
      walk_at "wi"
      refine r_inQ (.inl W1) rfl (flat_strs _) ?_
      rw [from_eq, inV_str]
      walk_at "wi"
      refine ⟨fun hb2 => ?_, fun hb2 => ?_⟩
      · have hn : ¬ fromS ∈ wordsT nr tn := by simpa using hb2
        have hi : idx tn = [] := Classical.byContradiction fun z => hn (by rw [words_at z]; simp)
        have ht := form_fin F hi
        subst ht
        have we : wordsT nr [false] = (idx nr).map nS := by
          unfold wordsT tailW
          rw [if_pos hi, List.append_nil]
        rw [we] at W1
        walk_at "wi"
        refine w_len ?_
        walk_at "w"
        refine ⟨_, _, _, _, rfl, T.cr_Lengths, hmu, ?_⟩
        walk_at "w"
        refine w_nums (fun R hR => w_var rfl (hR W k1 ext_rf W1)) (by omega) hx (fun _ => rfl) (fun _ => rfl) fun D k2 e2 n2 h2 => ?_
        walk_at "w"
        refine ⟨_, _, 400, 1, idx nr, [], rfl, ⟨by decide, by decide, by decide, by omega, by decide, fun m hm => by have := (mem_idx.1 hm).1; omega, fun m hm => (by cases hm), ⟨D, rfl, .inl h2⟩, ⟨_, rfl, .inr (.inr T.kt_dr_Lengths___init__)⟩⟩, fin_small F, ?_⟩
        rw [fin_N F, fin_T]
        exact fun x k e n l => h x k (ext_tr e1 (ext_tr e2 e)) (free_ext e1 (free_ext e2 n)) l 0
      · have hn : fromS ∈ wordsT nr tn := by simpa using hb2
        have hi : idx tn ≠ [] := fun z => by
          unfold wordsT tailW at hn
          rw [if_pos z, List.append_nil] at hn
          exact not_from hn
        rw [words_at hi] at W1
        walk_at "wi"
        refine w_index rfl W1 (j := (idx nr).length) ?_ (fun m z hm hz => ?_) ?_
        · rw [List.getElem?_append_right (by rw [List.length_map]; exact Nat.le_refl _), List.length_map, Nat.sub_self]
          rfl
        · rw [List.getElem?_append_left (by rw [List.length_map]; exact hm)] at hz
          obtain ⟨j, _, rfl⟩ := List.mem_map.1 (List.mem_of_getElem? hz)
          exact nS_from j
        walk_at "wi"
        refine r_slL W1 fun L hL => ?_
        have c1 : cutV (strV ((idx nr).map nS ++ fromS :: nS nr.length :: byS :: nS tn.length :: Tx1.atS :: (idx tn).map nS)) none (some (((idx nr).length : Nat) : Int)) = strV ((idx nr).map nS) := by
          rw [cut_hi, ← List.map_take, List.take_append_of_le_length (by rw [List.length_map]; exact Nat.le_refl _), List.take_of_length_le (by rw [List.length_map]; exact Nat.le_refl _)]
        have c2 : cutV (strV ((idx nr).map nS ++ fromS :: nS nr.length :: byS :: nS tn.length :: Tx1.atS :: (idx tn).map nS)) (some (((idx nr).length : Nat) : Int)) none = strV (fromS :: nS nr.length :: byS :: nS tn.length :: Tx1.atS :: (idx tn).map nS) := by
          rw [cut_lo, ← List.map_drop, List.drop_append, List.length_map, Nat.sub_self, List.drop_of_length_le (by rw [List.length_map]; exact Nat.le_refl _)]
          rfl
        rw [c1]
        have L2 : (upd k1 L (.lst (strV ((idx nr).map nS)))) L = some (.lst (strV ((idx nr).map nS))) := upd_same
        have W2 := know (o := .lst (strV ((idx nr).map nS))) hL W1
        have e2 := ext_tr e1 (ext_new (o := .lst (strV ((idx nr).map nS))) hL)
        generalize upd k1 L (.lst (strV ((idx nr).map nS))) = k2 at L2 W2 e2 ⊢
        walk_at "wi"
        refine r_slL W2 fun G hG => ?_
        rw [c2]
        have G3 : (upd k2 G (.lst (strV (fromS :: nS nr.length :: byS :: nS tn.length :: Tx1.atS :: (idx tn).map nS)))) G = some (.lst (strV (fromS :: nS nr.length :: byS :: nS tn.length :: Tx1.atS :: (idx tn).map nS))) := upd_same
        have L3 := know (o := .lst (strV (fromS :: nS nr.length :: byS :: nS tn.length :: Tx1.atS :: (idx tn).map nS))) hG L2
        have e3 := ext_tr e2 (ext_new (o := .lst (strV (fromS :: nS nr.length :: byS :: nS tn.length :: Tx1.atS :: (idx tn).map nS))) hG)
        generalize upd k2 G (.lst (strV (fromS :: nS nr.length :: byS :: nS tn.length :: Tx1.atS :: (idx tn).map nS))) = k3 at G3 L3 e3 ⊢
        clear c1 c2 W1 W2 L2
        obtain ⟨y, ys, hys⟩ : ∃ y ys, idx tn = y :: ys := by
          cases z : idx tn with
          | nil => exact absurd z hi
          | cons y ys => exact ⟨y, ys, rfl⟩
        walk_at "wi"
        refine ⟨_, _, rfl, ?_⟩
        walk_at "wi"
        refine w_sl3 ?_
        walk_at "w"
        refine ⟨G, _, rfl, G3, fun p hp => ?_⟩
        have pk : pick3 (strV (fromS :: nS nr.length :: byS :: nS tn.length :: Tx1.atS :: (idx tn).map nS)) (some 0) (some 6) (some 2) = strV [fromS, byS, Tx1.atS] := by rw [hys]; exact pick_six
        rw [pk, by_eq, at_eq]
        have P4 : (upd k3 p (.lst (strV [fromS, byS, Tx1.atS]))) p = some (.lst (strV [fromS, byS, Tx1.atS])) := upd_same
        have G4 := know (o := .lst (strV [fromS, byS, Tx1.atS])) hp G3
        have L4 := know (o := .lst (strV [fromS, byS, Tx1.atS])) hp L3
        have e4 := ext_tr e3 (ext_new (o := .lst (strV [fromS, byS, Tx1.atS])) hp)
        generalize upd k3 p (.lst (strV [fromS, byS, Tx1.atS])) = k4 at P4 G4 L4 e4 ⊢
        clear pk G3 L3 hp
        walk_at "wi"
        refine ⟨show 3 ≤ 1000 by decide, fun p2 hp2 => ?_⟩
        refine r_ne_d (.lst (sql (know hp2 P4)) (dp_strs [fromS, byS, Tx1.atS])) (.lst (sql upd_same) (dp_strs [fromS, byS, Tx1.atS])) (by decide +kernel) (by decide +kernel) ?_
        rw [show PyData.eqv (.list ([fromS, byS, Tx1.atS].map PyData.str)) (.list ([fromS, byS, Tx1.atS].map PyData.str)) = true by decide +kernel]
        have G5 := know (o := .lst [V.str fromS, V.str byS, V.str Tx1.atS]) hp2 G4
        have L5 := know (o := .lst [V.str fromS, V.str byS, V.str Tx1.atS]) hp2 L4
        have e5 := ext_tr e4 (ext_new (o := .lst [V.str fromS, V.str byS, V.str Tx1.atS]) hp2)
        generalize upd k4 p2 (.lst [V.str fromS, V.str byS, V.str Tx1.atS]) = k5 at G5 L5 e5 ⊢
        clear P4 G4 L4 hp2
        walk_at "wi"
        refine w_call (EA := fun _ _ _ _ => False) mo_rn err_no ?_
        walk_at "w"
        refine r_ixL G5 (atI_nat (j := 1) rfl) ?_
        walk_at "w"
        refine ⟨_, rfl, nS_asc (by omega), fun m hm => ?_, fun hno => absurd (nS_isN (by omega)) (hno _)⟩
        obtain rfl := isN_uni hm (nS_isN (by omega))
        walk_at "wi"
        refine w_call (EA := fun _ _ _ _ => False) mo_rn err_no ?_
        walk_at "w"
        refine r_ixL G5 (atI_nat (j := 3) rfl) ?_
        walk_at "w"
        refine ⟨_, rfl, nS_asc (by omega), fun m hm => ?_, fun hno => absurd (nS_isN (by omega)) (hno _)⟩
        obtain rfl := isN_uni hm (nS_isN (by omega))
        walk_at "wi"
        refine ⟨_, _, rfl, ?_⟩
        refine s_seq (s_set ?_)
        refine w_nums (xs := idx tn) (fun R hR => ?_) (by omega) hy (fun _ => rfl) (fun _ => rfl) fun D k6 e6 n6 h6 => ?_
        · walk_at "w"
          refine r_slL G5 fun q hq => ?_
          have c3 : cutV (strV (fromS :: nS nr.length :: byS :: nS tn.length :: Tx1.atS :: (idx tn).map nS)) (some 5) none = strV ((idx tn).map nS) := cut_lo _ 5
          rw [c3]
          exact hR q _ (ext_new hq) upd_same
        · walk_at "wi"
          refine w_len ?_
          walk_at "w"
          refine w_nums (xs := idx nr) (fun R hR => w_var rfl (hR L k6 ext_rf (e6 _ _ L5))) (by omega) hx (fun _ => rfl) (fun _ => rfl) fun D2 k7 e7 n7 h7 => ?_
          walk_at "w"
          refine ⟨_, _, nr.length, tn.length, idx nr, idx tn, rfl, ⟨by omega, F.pos, by omega, by omega, by omega, fun m hm => (mem_idx.1 hm).1, fun m hm => (mem_idx.1 hm).1, ⟨D2, rfl, .inl h7⟩, ⟨D, rfl, .inl (e7 _ _ h6)⟩⟩, again_small F, ?_⟩
          rw [again_N F, again_T (nr := nr) F]
          exact fun x k e n l => h x k (ext_tr e5 (ext_tr e6 (ext_tr e7 e))) (free_ext e5 (free_ext e6 (free_ext e7 n))) l 0
end

end NN

namespace NN
open PySem PySem.Spec PyProof.Rows L2 LamX AW ClX
open Tx1 Ln
section
variable {P : Program} {w : World} {K : PySem.W.Frag} {mg : Str → Option Value} {base : Heap}
theorem ok_Lengths_read (T : Tx K mg) : FnOk P w K mg base CX0 11 T.f_Lengths_read T.d_Lengths_read ["cls", "text"] (liftX (bRead T.c_Lengths)) := by
  refine T.F_Lengths_read.ok sc_Lengths_read (fun vs H Q E h => ?_) (fun cdv A outer s H vs Q E hr h => ?_)
  · obtain ⟨kn, _, _, nr, tn, rfl, _⟩ := h
    rfl
  · obtain ⟨kn, ex, nt, nr, tn, rfl, F, h⟩ := h
    refine ⟨_, (pss_cons (ps_if (pt_not (pt_val (pe_callB call_isi (by rfl) T.b_isinstance (by decide +kernel) (pa_cons (pv 1) (pa_cons (pe_bltn (v := .ty "str") (u := .type "str") (by rfl) T.b_str (by decide +kernel) rfl) pa_nil)))))
       (pss_one ps_never)
       pss_nil)
       (pss_cons (ps_try_thru0 (pss_one (ps_set (i := 2) sc_Lengths_read.nd rfl (by first | exact Or.inl rfl | exact Or.inr rfl) (pe_call (ok_read_parts T) (hr.mono (by decide)) (by rfl) T.g_read_parts T.F_read_parts.kp T.bd_read_parts .nil pass0 (pa_cons (pv 1) pa_nil)))))
       (pss_cons (ps_if (pt_cmpR op_ne (pe_callTy (c_strO T.sm_Lengths___str__ (ok_Lengths___str__ T) (hr.mono (by decide)) T.bd_Lengths___str__ pass0) (by rfl) T.b_str (by decide +kernel) (pa_cons (pv 2) pa_nil)) (pv 1) (nomark _))
       (pss_one ps_never)
       pss_nil)
       (pss_one (ps_ret (pv 2)))))), ?_⟩
    refine body_of (pure_start ex nt) ?_
    walk_at "wi"
    refine r_isi (.ty _) (.base (.str _)) (kit_ty rfl) ?_
    walk_at "wi"
    refine w_call (EA := fun _ _ _ _ => False) mo_parse err_no ?_
    walk_at "w"
    refine ⟨nr, tn, rfl, F, fun x k e n l => ?_⟩
    walk_at "wi"
    obtain ⟨dx, q1, q2, q3, z1, z2, z3, z4⟩ := l.at_
    refine r_strO mo_str z1 ⟨x, nr, tn, rfl, l, fun k2 e2 => ⟨_, rfl, ?_⟩⟩
    walk_at "wi"
    exact h x k2 (ext_tr e e2) n (LenAt.ext e2 l) 0
theorem oR_Lengths_read (T : Tx K mg) : FnR P w K mg base CX0 11 T.f_Lengths_read (liftX (bRead T.c_Lengths)) :=
  ((ok_Lengths_read T).raw T.bd_Lengths_read .nil).imp fun vs H Q E h => by rw [List.append_nil]; exact h
end
section
variable {P : Program} {w : World} {K : PySem.W.Frag} {mg : Str → Option Value} {base : Heap}
theorem ok__law_draw (T : Tx K mg) : FnOk P w K mg base CX0 1 T.f__law_draw T.d__law_draw ["pen", "many"] spDraw := by
  refine T.F__law_draw.ok sc__law_draw (fun vs H Q E h => ?_) (fun cdv A outer s H vs Q E hr h => ?_)
  · obtain ⟨p, a, ns, n, many, rfl, _⟩ := h
    rfl
  · obtain ⟨p, a, ns, n, many, rfl, hp, hn, h0, h1, k⟩ := h
    obtain ⟨⟨i, g, hP, hi0, hin, hg0⟩, hA, hpa⟩ := hp
    refine ⟨_, (pss_cons (ps_if (pt_cmpR op_gt (pe_ix (show IxR _ (rIxL K) from ix_list) (pv 0) pe_int (fun _ _ => rfl)) pe_int (nomark _))
       (pss_cons (ps_set (i := 2) sc__law_draw.nd rfl (by first | exact Or.inl rfl | exact Or.inr rfl) (pe_op op_mod (pe_callTy c_int (by rfl) T.b_int boot_int (pa_cons (pe_ix (show IxR _ (rIxL K) from ix_list) (pv 0) pe_int (fun _ _ => rfl)) pa_nil)) (pv 1)))
       (pss_cons (ps_asg (pe_op op_fdivW (pe_callTy c_int (by rfl) T.b_int boot_int (pa_cons (pe_ix (show IxR _ (rIxL K) from ix_list) (pv 0) pe_int (fun _ _ => rfl)) pa_nil)) (pv 1)) (pg_sub (pv 0) pe_int set_list))
       (pss_one (ps_ret (pv 2)))))
       pss_nil)
       (pss_cons (ps_set (i := 3) sc__law_draw.nd rfl (by first | exact Or.inl rfl | exact Or.inr rfl) (pe_ix (show IxR _ (rIxL K) from ix_list) (pv 0) pe_int (fun _ _ => rfl)))
       (pss_cons (ps_asg (pe_op op_add (pv 3) pe_int) (pg_sub (pv 0) pe_int set_list))
       (pss_cons (ps_set (i := 4) sc__law_draw.nd rfl (by first | exact Or.inl rfl | exact Or.inr rfl) (pe_op op_add (pe_op op_mul pe_int (pv 3)) pe_int))
       (pss_cons (ps_if (pt_cmpR (op_neD hr.units) (pe_ix (show IxR _ (rIxL K) from ix_list) (pv 0) pe_int (fun _ _ => rfl)) (pe_lst pa_nil) (nomark _))
       (pss_one (ps_set (i := 4) sc__law_draw.nd rfl (by first | exact Or.inl rfl | exact Or.inr rfl) (pe_ix (show IxR _ (rIxL K) from ix_list) (pe_ix (show IxR _ (rIxL K) from ix_list) (pv 0) pe_int (fun _ _ => rfl)) (pe_op op_mod (pe_callTy c_int (by rfl) T.b_int boot_int (pa_cons (pv 3) pa_nil)) (pe_callB c_len (by rfl) T.b_len PySem.boot_len (pa_cons (pe_ix (show IxR _ (rIxL K) from ix_list) (pv 0) pe_int (fun _ _ => rfl)) pa_nil))) (fun _ _ => rfl))))
       pss_nil)
       (pss_cons (ps_if (PW.pt (pw_and (pt_cmpR op_lt (pv 3) (pe_callB c_len (by rfl) T.b_len PySem.boot_len (pa_cons (pe_ix (show IxR _ (rIxL K) from ix_list) (pv 0) pe_int (fun _ _ => rfl)) pa_nil)) (nomark _)) (pw_and1 (pt_cmpR op_ge (pe_callB c_abs (by rfl) T.b_abs (by decide +kernel) (pa_cons (pv 4) pa_nil)) (pe_op op_pow pe_int pe_int) (nomark _)))))
       (pss_cons (ps_set (i := 5) sc__law_draw.nd rfl (by first | exact Or.inl rfl | exact Or.inr rfl) (pe_op op_add (pe_op op_mul pe_int (pe_op op_sub (pe_callB c_abs (by rfl) T.b_abs (by decide +kernel) (pa_cons (pv 4) pa_nil)) (pe_op op_pow pe_int pe_int))) (pe_callTy c_int (by rfl) T.b_int boot_int (pa_cons (pe_cmpR op_lt (pv 4) pe_int (nomark _)) pa_nil))))
       (pss_cons (ps_asg (pe_op op_fdivW (pe_callTy c_int (by rfl) T.b_int boot_int (pa_cons (pv 5) pa_nil)) (pv 1)) (pg_sub (pv 0) pe_int set_list))
       (pss_one (ps_ret (pe_op op_mod (pe_callTy c_int (by rfl) T.b_int boot_int (pa_cons (pv 5) pa_nil)) (pv 1))))))
       pss_nil)
       (pss_cons (ps_set (i := 6) sc__law_draw.nd rfl (by first | exact Or.inl rfl | exact Or.inr rfl) (pe_op op_mod (pe_callTy c_int (by rfl) T.b_int boot_int (pa_cons (pe_op op_pow (pe_op op_add (pe_op op_add (pe_op op_mod (pe_callTy c_int (by rfl) T.b_int boot_int (pa_cons (pv 4) pa_nil)) pe_int) (pe_op op_mul pe_int (pv 3))) pe_int) pe_int) pa_nil)) pe_int))
       (pss_cons (ps_set (i := 6) sc__law_draw.nd rfl (by first | exact Or.inl rfl | exact Or.inr rfl) (pe_op op_mod (pe_callTy c_int (by rfl) T.b_int boot_int (pa_cons (pe_op op_pow (pe_op op_add (pe_op op_add (pe_op op_mul (pv 6) (pe_op op_add (pe_op op_mul pe_int (pv 3)) pe_int)) (pe_op op_mul (pe_op op_mul pe_int (pv 3)) (pv 3))) pe_int) pe_int) pa_nil)) pe_int))
       (pss_one (ps_ret (pe_op op_mod (pe_callTy c_int (by rfl) T.b_int boot_int (pa_cons (pe_op op_fdivW (pv 6) pe_int) pa_nil)) (pv 1)))))))))))), ?_⟩
    have e : Ext (penKn H p a) H := fun x o h => by
      unfold penKn at h
      split at h
      · exact h
      · cases h
    have kP : penKn H p a p = some (.lst [.ref a, .int i, .int g]) := (if_pos (.inl rfl)).trans hP
    have kA : penKn H p a a = some (.lst (ns.map V.int)) := (if_pos (.inr rfl)).trans hA
    have done : ∀ (k' : Int) (kn' : Hp) (n' : Nat) (i' g' : Int), 0 ≤ k' → k' < many → kn' p = some (.lst [.ref a, .int i', .int g']) → kn' a = some (.lst (ns.map V.int)) → 0 ≤ i' → i' ≤ (n + 1 : Nat) → 0 ≤ g' → ∀ H', Good (pureC (penKn H p a) H) kn' n' H' → Q (.int k') H' := fun k' kn' n' i' g' b1 b2 e1 e2 b3 b4 b5 H' G => by
      refine k k' H' b1 b2 ⟨⟨i', g', G.ex _ _ e1, b3, b4, b5⟩, G.ex _ _ e2, hpa⟩ fun x o hx hH => ?_
      by_cases hxa : x = a
      · rw [hxa, hA] at hH
        cases hH
        rw [hxa]
        exact G.ex _ _ e2
      · exact G.inv x o hH (.inl (if_neg (by simp [hx, hxa])))
    have hlog : many.natAbs.log2 < 9000 := Nat.lt_trans ((Nat.log2_lt (by omega)).mpr (show many.natAbs < 2 ^ 70 by omega)) (by decide)
    refine body_of (pure_start e (fun x o h => by
      unfold penKn at h
      split at h
      · rename_i hh
        rcases hh with rfl | rfl
        · rw [hP] at h; cases h; rfl
        · rw [hA] at h; cases h; rfl
      · cases h)) ?_
    walk_at "w"
    refine s_if ?_
    walk_at "w"
    refine ⟨fun hg => ?_, fun hg => ?_⟩
    · have hg' : 0 < g := of_decide_eq_true hg
      walk_at "w"
      refine r_I h0 ?_
      walk_at "w"
      refine r_I ⟨h0, hlog⟩ ?_
      walk_at "w"
      refine ⟨_, _, _, 2, rfl, rfl, kP, rfl, ?_⟩
      walk_at "w"
      have kA' : ∀ o, upd (penKn H p a) p o a = some (.lst (ns.map V.int)) := fun o => by rw [upd_ne hpa.symm]; exact kA
      exact done _ _ _ i (g / many) (Int.emod_nonneg _ (by omega)) (Int.emod_lt_of_pos _ h0) upd_same (kA' _) hi0 (by omega) (Int.ediv_nonneg hg0 (by omega))
    · walk_at "w"
      refine ⟨_, _, _, 1, rfl, rfl, kP, rfl, ?_⟩
      have kA1 : ∀ o, upd (penKn H p a) p o a = some (.lst (ns.map V.int)) := fun o => by rw [upd_ne hpa.symm]; exact kA
      have kP1 : ∀ o, upd (penKn H p a) p o p = some o := fun o => upd_same
      walk_at "w"
      refine r_I (.inl ⟨by decide, by decide⟩) ?_
      walk_at "w"
      -- if pen[0] != []
      refine s_join (fun σ' kn' n' => ∃ cell : Int, σ' = [some (.ref p), some (.int many), none, some (.int i), some (.int cell), none, none] ∧ kn' p = some (.lst [.ref a, .int (i + 1), .int g]) ∧ kn' a = some (.lst (ns.map V.int))) ?_ ?_
      · have kP1 := kP1 (.lst [.ref a, .int (i + 1), .int g])
        have kA1 := kA1 (.lst [.ref a, .int (i + 1), .int g])
        refine s_if ?_
        walk_at "w"
        refine ⟨by decide, fun l hl => ?_⟩
        refine r_ne_d (.lst (sql (know hl kA1)) (dp_ints ns)) (.lst (sql upd_same) .nil) (shaped_ints ns) rfl ?_
        walk_at "w"
        rw [nil_eqv]
        refine ⟨fun hb => ?_, fun hb => ?_⟩
        · have hne : ns ≠ [] := by
            intro z
            rw [z] at hb
            cases hb
          have hl0 : 0 < ns.length := by
            cases ns with
            | nil => exact absurd rfl hne
            | cons => exact Nat.succ_pos _
          have kA3 := know (o := .lst []) hl kA1
          have kP3 := know (o := .lst []) hl kP1
          walk_at "w"
          refine r_I (by rw [List.length_map]; omega) ?_
          obtain ⟨z, hz⟩ := at_mod ns i hl0
          refine r_ixL kA3 hz ?_
          walk_at "w"
          exact ⟨kP3, kA3⟩
        · walk_at "w"
          exact ⟨know hl kP1, know hl kA1⟩
      · rintro σ' kn' n' ⟨cell, rfl, kP2, kA2⟩
        have mod1 : ∀ x : Int, 0 ≤ x % many ∧ x % many < many := fun x => ⟨Int.emod_nonneg _ (by omega), Int.emod_lt_of_pos _ h0⟩
        walk_at "w"
        refine s_join (fun σ2 kn2 n2 => σ2 = [some (.ref p), some (.int many), none, some (.int i), some (.int cell), none, none] ∧ kn2 p = some (.lst [.ref a, .int (i + 1), .int g]) ∧ kn2 a = some (.lst (ns.map V.int))) ?_ ?_
        · refine s_if ?_
          walk_at "w"
          refine ⟨fun hb => ?_, fun hb => ?_⟩
          · walk_at "w"
            refine r_I ⟨by decide, by decide, by decide⟩ ?_
            walk_at "w"
            refine ⟨fun hb2 => ?_, fun hb2 => ?_⟩
            · have hc : (10 : Int) ^ (18 : Int).toNat ≤ if cell < 0 then -cell else cell := of_decide_eq_true hb2
              walk_at "w"
              refine r_I ⟨by decide, by decide, by decide⟩ ?_
              walk_at "w"
              refine r_I (.inl ⟨by decide, by decide⟩) ?_
              walk_at "w"
              refine r_I ⟨h0, hlog⟩ ?_
              walk_at "w"
              refine ⟨_, _, _, 2, rfl, rfl, kP2, rfl, ?_⟩
              walk_at "w"
              refine r_I h0 ?_
              refine done _ _ _ (i + 1) _ (mod1 _).1 (mod1 _).2 upd_same (by rw [upd_ne hpa.symm]; exact kA2) (by omega) (by omega) (Int.ediv_nonneg ?_ (by omega))
              split <;> omega
            · walk_at "w"
              exact ⟨rfl, kP2, kA2⟩
          · walk_at "w"
            exact ⟨rfl, kP2, kA2⟩
        · rintro σ2 kn2 n2 ⟨rfl, kP3, kA3⟩
          walk_at "w"
          refine r_I (by decide) ?_
          obtain ⟨x, hx⟩ : ∃ x : Int, x = cell % 2147483579 := ⟨_, rfl⟩
          have x0 : 0 ≤ x := hx ▸ Int.emod_nonneg _ (by decide)
          have x1 : x < 2147483579 := hx ▸ Int.emod_lt_of_pos _ (by decide)
          rw [← hx]
          walk_at "w"
          refine r_I (.inl ⟨by decide, by decide⟩) ?_
          walk_at "w"
          refine r_I ⟨by decide, by decide, by omega⟩ ?_
          walk_at "w"
          refine r_I (by decide) ?_
          generalize ((x + 53101 * i + 773) ^ (5 : Int).toNat) = y
          obtain ⟨z, hz⟩ : ∃ z : Int, z = y % 2147483629 := ⟨_, rfl⟩
          have z0 : 0 ≤ z := hz ▸ Int.emod_nonneg _ (by decide)
          have z1 : z < 2147483629 := hz ▸ Int.emod_lt_of_pos _ (by decide)
          rw [← hz]
          walk_at "w"
          refine r_I (.inl ⟨by decide, by decide⟩) ?_
          walk_at "w"
          refine r_I (.inl ⟨by omega, by omega⟩) ?_
          walk_at "w"
          refine r_I (.inl ⟨by decide, by decide⟩) ?_
          walk_at "w"
          refine r_I (.inl ⟨by omega, by omega⟩) ?_
          walk_at "w"
          obtain ⟨m1, m2⟩ := mul_bd z0 (show z ≤ 2147483629 by omega) (show 0 ≤ 2 * i + 283 by omega) (show 2 * i + 283 ≤ 2000283 by omega)
          obtain ⟨m3, m4⟩ := mul_bd (show 0 ≤ 51437 * i by omega) (show 51437 * i ≤ 51437000000 by omega) hi0 (show i ≤ 1000000 by omega)
          refine r_I ⟨by decide, by decide, by omega⟩ ?_
          walk_at "w"
          refine r_I (by decide) ?_
          walk_at "w"
          refine r_I ⟨by decide, by decide⟩ ?_
          walk_at "w"
          refine r_I h0 ?_
          exact done _ _ _ (i + 1) g (mod1 _).1 (mod1 _).2 kP3 kA3 (by omega) (by omega) hg0

/-- _law_pick -/
def bPick : List V → Hp → AK → AXK → Prop := fun vs kn Q _ => ∃ l xs, vs = [.ref l] ∧ kn l = some (.lst xs) ∧ 0 < xs.length ∧ xs.length ≤ 1000 ∧ ∀ v ∈ xs, Q v kn
theorem mo_pick : MonoX bPick := by
  rintro vs kn Q R E F h1 h2 ⟨l, xs, a, b, c, d, h⟩
  exact ⟨l, xs, a, b, c, d, fun v hv => h1 _ _ (h v hv)⟩
theorem ok__law_pick (T : Tx K mg) (TT : List (Addr × Str)) : FnOk P w K mg base CX0 2 T.f__law_pick T.d__law_pick ["pen", "some"] (liftP TT 1 bPick) := by
  refine T.F__law_pick.ok sc__law_pick (fun vs H Q E h => ?_) (fun cdv A outer s H vs Q E hr h => ?_)
  · obtain ⟨p, a, ns, n, kn, ws, rfl, _, _, l, xs, rfl, _⟩ := h
    rfl
  · obtain ⟨p, a, ns, n, kn, ws, rfl, g, hn, l, xs, rfl, hl, l1, l2, h⟩ := h
    refine ⟨_, (pss_one (ps_ret (pe_ix (show IxR _ (rIxL K) from ix_list) (pv 1) (pe_call (ok__law_draw T) (hr.mono (by decide)) (by rfl) T.g__law_draw T.F__law_draw.kp T.bd__law_draw .nil pass0 (pa_cons (pv 0) (pa_cons (pe_callB c_len (by rfl) T.b_len PySem.boot_len (pa_cons (pv 1) pa_nil)) pa_nil))) (fun _ _ => rfl)))), ?_⟩
    refine body_of g ?_
    walk_at "w"
    refine w_draw ?_
    walk_at "w"
    refine ⟨by omega, by omega, by omega, fun k k0 k1 => ?_⟩
    obtain ⟨j, hj⟩ : ∃ j : Nat, k = j := ⟨k.toNat, by omega⟩
    subst hj
    have hj : j < xs.length := by omega
    refine r_ixL hl (atI_nat (List.getElem?_eq_getElem hj)) ?_
    exact h _ (List.getElem_mem hj)
/-- _law_pen -/
def spPen (K : PySem.W.Frag) : Sp := fun vs H Q _ => ∃ (s : Addr) (ns : List Int), vs = [.ref s] ∧ SqL K H s (ns.map V.int) ∧
  ∀ (p a : Addr) (ns' : List Int) (H' : Hp), p ≠ a → H p = none → H a = none → H' p = some (.lst [.ref a, .int 0, .int 0]) → H' a = some (.lst (ns'.map V.int)) → Ext H H' → Q (.ref p) H'
theorem cut_map (ns : List Int) (lo hi : Option Int) : ∃ ns' : List Int, cutV (ns.map V.int) lo hi = ns'.map V.int := by
  unfold cutV
  exact ⟨(ns.drop _).take _, by rw [List.map_take, List.map_drop]⟩
theorem ok__law_pen (T : Tx K mg) : FnOk P w K mg base CX0 1 T.f__law_pen T.d__law_pen ["script"] (spPen K) := by
  refine T.F__law_pen.ok sc__law_pen (fun vs H Q E h => ?_) (fun cdv A outer s H vs Q E hr h => ?_)
  · obtain ⟨s, ns, rfl, _⟩ := h
    rfl
  · obtain ⟨sc, ns, rfl, hs, h⟩ := h
    refine ⟨_, (pss_one (ps_ret (pe_lst (pa_cons (pe_callTy c_list (by rfl) T.b_list (by decide +kernel) (pa_cons (pe_slice (show SlR _ (rSlL K) from sl_list) (pv 0) po_none (po_some pe_int)) pa_nil)) (pa_cons pe_int (pa_cons pe_int pa_nil)))))), ?_⟩
    obtain ⟨ns', e⟩ := cut_map ns none (some 63)
    refine ⟨_, rfl, _, rfl, sc, _, rfl, hs, fun l hl => ⟨l, _, rfl, .inl (sql upd_same), fun a ha => ⟨(by rw [sizeLine_eq]; exact (show 3 ≤ 16777216 by decide)), fun p hp => ?_⟩⟩⟩
    have la : l ≠ a := fun z => by rw [z, upd_same] at ha; cases ha
    have ha0 : H a = none := by rw [upd_ne (Ne.symm la)] at ha; exact ha
    have pa : p ≠ a := fun z => by rw [z, upd_same] at hp; cases hp
    have pl : p ≠ l := fun z => by rw [z, upd_ne la, upd_same] at hp; cases hp
    have hp0 : H p = none := by rw [upd_ne pa, upd_ne pl] at hp; exact hp
    refine h p a ns' _ pa hp0 ha0 upd_same ?_ ?_
    · rw [upd_ne (Ne.symm pa), upd_same, e]
    · exact fun x o hx => by rw [upd_ne (ne_of_none hx hp0), upd_ne (ne_of_none hx ha0), upd_ne (ne_of_none hx hl)]; exact hx
end

end NN

namespace NN
open PySem PySem.Spec PyProof.Rows L2 LamX AW ClX
open Tx1 Ln
/-! ### sets by what is in them -/
def SetAt (C : Addr) (k : Hp) (x : Addr) (P : Nat → Bool) : Prop := ∃ nr tn, LenAt C k x nr tn ∧ nr.length ≤ 20 ∧ tn.length ∣ 12 ∧ ∀ n : Nat, inL nr tn (n : Int) = P n
theorem SetAt.ext {C : Addr} {k k' : Hp} {x : Addr} {P : Nat → Bool} (e : Ext k k') (h : SetAt C k x P) : SetAt C k' x P := by
  obtain ⟨nr, tn, l, a, b, d⟩ := h
  exact ⟨nr, tn, LenAt.ext e l, a, b, d⟩
open Classical in
noncomputable def eqP (P R : Nat → Bool) : Bool := decide (∀ n, P n = R n)
open Classical in
noncomputable def subP (P R : Nat → Bool) : Bool := decide (∀ n, P n = true → R n = true)
open Classical in
noncomputable def exP (P : Nat → Bool) : Bool := decide (∃ n, P n = true)
theorem eqP_iff {P R : Nat → Bool} : eqP P R = true ↔ ∀ n, P n = R n := by
  unfold eqP
  exact @decide_eq_true_iff _ (Classical.propDecidable _)
theorem subP_iff {P R : Nat → Bool} : subP P R = true ↔ ∀ n, P n = true → R n = true := by
  unfold subP
  exact @decide_eq_true_iff _ (Classical.propDecidable _)
theorem exP_iff {P : Nat → Bool} : exP P = true ↔ ∃ n, P n = true := by
  unfold exP
  exact @decide_eq_true_iff _ (Classical.propDecidable _)
theorem eqP_form {nr tn nr' tn' : List Bool} {P R : Nat → Bool} (F : Form nr tn) (G : Form nr' tn') (h : ∀ n : Nat, inL nr tn (n : Int) = P n) (h' : ∀ n : Nat, inL nr' tn' (n : Int) = R n) : decide (nr = nr' ∧ tn = tn') = eqP P R := by
  rw [Bool.eq_iff_iff, decide_eq_true_eq, eqP_iff]
  refine ⟨fun ⟨e1, e2⟩ n => by rw [← h, ← h', e1, e2], fun z => form_uniq F G fun n => by rw [h, h', z]⟩
theorem subP_form {nr tn nr' tn' : List Bool} {P R : Nat → Bool} (h : ∀ n : Nat, inL nr tn (n : Int) = P n) (h' : ∀ n : Nat, inL nr' tn' (n : Int) = R n) : subL nr tn nr' tn' = subP P R := by
  rw [Bool.eq_iff_iff, subL_iff, subP_iff]
  exact ⟨fun z n => by have := z n; rwa [h, h'] at this, fun z n => by rw [h, h']; exact z n⟩
theorem exP_marks {nr tn : List Bool} {P : Nat → Bool} (F : Form nr tn) (h : ∀ n : Nat, inL nr tn (n : Int) = P n) : (marks nr tn).any id = exP P := by
  have tp := F.pos
  rw [Bool.eq_iff_iff, exP_iff, List.any_eq_true]
  constructor
  · rintro ⟨b, hb, e⟩
    obtain ⟨i, hi, rfl⟩ := List.getElem_of_mem hb
    rw [marks_len] at hi
    refine ⟨i, ?_⟩
    rw [← h, ← ix_all hi]
    unfold ix
    rw [List.getD_eq_getElem?_getD, List.getElem?_eq_getElem (by rw [marks_len]; exact hi)]
    exact e
  · rintro ⟨n, hn⟩
    rw [← h] at hn
    have key : ∀ i : Nat, i < nr.length + tn.length → inL nr tn (i : Int) = true → ∃ x, x ∈ marks nr tn ∧ id x = true := fun i hi e => by
      rw [← ix_all hi] at e
      unfold ix at e
      rw [List.getD_eq_getElem?_getD, List.getElem?_eq_getElem (by rw [marks_len]; exact hi)] at e
      exact ⟨_, List.getElem_mem _, e⟩
    rcases Nat.lt_or_ge n nr.length with z | z
    · exact key n (by omega) hn
    · have md := Nat.mod_lt (n - nr.length) tp
      have e : n = (nr.length + (n - nr.length) % tn.length) + (n - nr.length) / tn.length * tn.length := by
        have := Nat.mod_add_div (n - nr.length) tn.length
        rw [Nat.mul_comm] at this
        omega
      rw [e, inL_add (by omega) (Nat.dvd_mul_left _ _)] at hn
      exact key _ (by omega) hn
section
variable {c : Cw} {kn : Hp} {n : Nat} {σ : L2.St} {Q : V → Hp → Nat → Prop} {K : PySem.W.Frag} {mg : Str → Option Value}
theorem r_join (T : Tx K mg) {op : Operator} {f : Bool → Bool → Bool} {E : XK} {a b : Addr} {nr tn nr' tn' : List Bool} (da : LenAt T.c_Lengths kn a nr tn) (db : LenAt T.c_Lengths kn b nr' tn') (l4 : maxN nr.length nr'.length + Nat.lcm tn.length tn'.length ≤ 400)
    (k : ∀ r u x k', Form r u → (∀ n : Nat, inL r u (n : Int) = f (inL nr tn (n : Int)) (inL nr' tn' (n : Int))) → Ext kn k' → kn x = none → LenAt T.c_Lengths k' x r u → Q (.ref x) k' n) : W c (rOwn K op T.c_Lengths (liftX (bJoin f T.c_Lengths)) E (.ref a) (.ref b)) kn n Q := by
  obtain ⟨dx, q1, q2, q3, z1, _⟩ := da.at_
  obtain ⟨dx', q1', q2', q3', y1, _⟩ := db.at_
  exact r_own (EA := fun _ _ _ _ => False) mo_join err_no z1 (T.own_Lengths.ty y1) .own ⟨a, b, nr, tn, nr', tn', rfl, da, db, l4, fun r u l i x k' e n' d => k r u x k' l i e n' d⟩
theorem r_sop (T : Tx K mg) {op : Operator} {f : Bool → Bool → Bool} {E : XK} {a b : Addr} {P R : Nat → Bool} (ha : SetAt T.c_Lengths kn a P) (hb : SetAt T.c_Lengths kn b R)
    (q : ∀ x k', Ext kn k' → SetAt T.c_Lengths k' x (fun i => f (P i) (R i)) → Q (.ref x) k' n) : W c (rOwn K op T.c_Lengths (liftX (bJoin f T.c_Lengths)) E (.ref a) (.ref b)) kn n Q := by
  obtain ⟨nr, tn, la, a1, a2, a3⟩ := ha
  obtain ⟨nr', tn', lb, b1, b2, b3⟩ := hb
  have l12 := Nat.lcm_dvd a2 b2
  have lle := Nat.le_of_dvd (show 0 < 12 by decide) l12
  have lp : 0 < Nat.lcm tn.length tn'.length := Nat.lcm_pos la.form.pos lb.form.pos
  have mx : maxN nr.length nr'.length ≤ 20 := by unfold maxN; split <;> omega
  refine r_join T la lb (by omega) fun r u x k' F i e nx l => q x k' e ?_
  obtain ⟨w1, w2⟩ := form_within F (b := maxN nr.length nr'.length) lp fun m hm => by rw [i, i]; exact join_per hm
  exact ⟨r, u, l, by omega, Nat.dvd_trans w2 l12, fun m => by rw [i, a3, b3]⟩
theorem r_sinv (T : Tx K mg) {E : XK} {a : Addr} {P : Nat → Bool} (ha : SetAt T.c_Lengths kn a P)
    (q : ∀ x k', Ext kn k' → SetAt T.c_Lengths k' x (fun i => !P i) → Q (.ref x) k' n) : W c (rUnO T.c_Lengths (liftX (bInv T.c_Lengths)) E (.ref a)) kn n Q := by
  obtain ⟨nr, tn, la, a1, a2, a3⟩ := ha
  refine r_inv T la fun r u x k' F i e nx l => q x k' e ?_
  obtain ⟨w1, w2⟩ := form_within F (b := nr.length) la.form.pos fun m hm => by rw [i, i, inL_step m hm]
  exact ⟨r, u, l, by omega, Nat.dvd_trans w2 a2, fun m => by rw [i, a3]⟩
theorem r_seq (T : Tx K mg) {neg : Bool} {a b : Addr} {P R : Nat → Bool} (ha : SetAt T.c_Lengths kn a P) (hb : SetAt T.c_Lengths kn b R) (q : Q (.bl (if neg then !eqP P R else eqP P R)) kn n) : W c (rEqO K T.c_Lengths (liftX (bEq T.c_Lengths)) neg (.ref a) (.ref b)) kn n Q := by
  obtain ⟨nr, tn, la, a1, a2, a3⟩ := ha
  obtain ⟨nr', tn', lb, b1, b2, b3⟩ := hb
  refine r_eqLL T la lb ?_
  rw [eqP_form la.form lb.form a3 b3]
  exact q
theorem r_sle (T : Tx K mg) {E : XK} {a b : Addr} {P R : Nat → Bool} (ha : SetAt T.c_Lengths kn a P) (hb : SetAt T.c_Lengths kn b R) (q : ∀ k, Ext kn k → Q (.bl (subP P R)) k n) : W c (rCmpO K T.c_Lengths (liftX (bCmp T.c_Lengths subL)) E (.ref a) (.ref b)) kn n Q := by
  obtain ⟨nr, tn, la, a1, a2, a3⟩ := ha
  obtain ⟨nr', tn', lb, b1, b2, b3⟩ := hb
  refine r_cmpL T la lb fun k e => ?_
  rw [subP_form a3 b3]
  exact q k e
theorem r_sge (T : Tx K mg) {E : XK} {a b : Addr} {P R : Nat → Bool} (ha : SetAt T.c_Lengths kn a P) (hb : SetAt T.c_Lengths kn b R) (q : ∀ k, Ext kn k → Q (.bl (subP R P)) k n) : W c (rCmpO K T.c_Lengths (liftX (bCmp T.c_Lengths fun nr tn nr' tn' => subL nr' tn' nr tn)) E (.ref a) (.ref b)) kn n Q := by
  obtain ⟨nr, tn, la, a1, a2, a3⟩ := ha
  obtain ⟨nr', tn', lb, b1, b2, b3⟩ := hb
  refine r_cmpL T la lb fun k e => ?_
  rw [subP_form b3 a3]
  exact q k e
theorem r_slt (T : Tx K mg) {E : XK} {a b : Addr} {P R : Nat → Bool} (ha : SetAt T.c_Lengths kn a P) (hb : SetAt T.c_Lengths kn b R) (q : ∀ k, Ext kn k → Q (.bl (subP P R && !eqP P R)) k n) : W c (rCmpO K T.c_Lengths (liftX (bCmp T.c_Lengths ltL)) E (.ref a) (.ref b)) kn n Q := by
  obtain ⟨nr, tn, la, a1, a2, a3⟩ := ha
  obtain ⟨nr', tn', lb, b1, b2, b3⟩ := hb
  refine r_cmpL T la lb fun k e => ?_
  have e2 : ltL nr tn nr' tn' = (subP P R && !eqP P R) := by
    show (subL nr tn nr' tn' && !decide (nr = nr' ∧ tn = tn')) = _
    rw [subP_form a3 b3, eqP_form la.form lb.form a3 b3]
  rw [e2]
  exact q k e
theorem r_sbool (T : Tx K mg) {a : Addr} {P : Nat → Bool} (ha : SetAt T.c_Lengths kn a P) (q : Q (.bl (exP P)) kn n) : W c (rBoolO T.c_Lengths (liftX (bAny T.c_Lengths)) [.ref a]) kn n Q := by
  obtain ⟨nr, tn, la, a1, a2, a3⟩ := ha
  obtain ⟨dx, q1, q2, q3, z1, _⟩ := la.at_
  rw [← exP_marks la.form a3] at q
  exact fun H g Q' qq => ⟨a, dx, _, rfl, g.ex _ _ z1, sp_call (Q := fun v k m => ∃ b, v = .bl b ∧ Q (.bl b) k m) (EA := fun _ _ _ _ => False) mo_any err_no ⟨a, nr, tn, rfl, la, _, rfl, q⟩ H g _ fun v k m H' ⟨b, e, hq⟩ g' => ⟨b, e, qq _ _ _ _ hq g'⟩⟩
end

end NN

namespace NN
open PySem PySem.Spec PyProof.Rows L2 LamX AW ClX
open Tx1 Ln
def bSR (C : Addr) : List V → Hp → AK → AXK → Prop := fun vs kn Q _ => ∃ a b d P R S, vs = [.ref a, .ref b, .ref d] ∧ SetAt C kn a P ∧ SetAt C kn b R ∧ SetAt C kn d S ∧ ∀ k', Ext kn k' → Q (.bl true) k'
theorem mo_SR {C : Addr} : MonoX (bSR C) := by
  rintro vs kn Q R E F h1 h2 ⟨a, b, d, P, R, S, e, x, y, z, h⟩
  exact ⟨a, b, d, P, R, S, e, x, y, z, fun k q => h1 _ _ (h k q)⟩
-- a set that is known at an earlier heap
local macro_rules | `(tactic| walk_at "st") => `(tactic| first
  | assumption
  | ((with_reducible refine' SetAt.ext ?h1 ?h2); (case h1 => assumption); (case h2 => walk_at "st")))
local macro_rules | `(tactic| walk_at "s1") => `(tactic| first
  | ((refine' r_sop _ ?h1 ?h2 (fun _ _ _ _ => ?_)); (case h1 => walk_at "st"); (case h2 => walk_at "st"))
  | ((refine' r_sinv _ ?h1 (fun _ _ _ _ => ?_)); (case h1 => walk_at "st"))
  | ((refine' r_seq _ ?h1 ?h2 ?_); (case h1 => walk_at "st"); (case h2 => walk_at "st"))
  | ((refine' r_sbool _ ?h1 ?_); (case h1 => walk_at "st"))
  | ((refine' r_slt _ ?h1 ?h2 (fun _ _ => ?_)); (case h1 => walk_at "st"); (case h2 => walk_at "st"))
  | ((refine' r_sge _ ?h1 ?h2 (fun _ _ => ?_)); (case h1 => walk_at "st"); (case h2 => walk_at "st"))
  | ((refine' r_sle _ ?h1 ?h2 (fun _ _ => ?_)); (case h1 => walk_at "st"); (case h2 => walk_at "st")))
local macro_rules | `(tactic| walk_at "ss") => `(tactic| repeat (first | walk_at "w1" | walk_at "w2" | dsimp only | walk_at "s1"))
theorem no_ne {X : Prop} {P R : Nat → Bool} (h : ∀ n, P n = R n) (z : (if true = true then !eqP P R else eqP P R) = true) : X := by
  rw [if_pos rfl, eqP_iff.2 h] at z
  cases z
theorem ne_no {P R : Nat → Bool} (h : ∀ n, P n = R n) : (if true = true then !eqP P R else eqP P R) = false := by
  rw [if_pos rfl, eqP_iff.2 h]
  rfl
theorem nb_no {x y : Bool} (h : x = y) : (!decide (V.bl x = V.bl y)) = false := by
  subst h
  simp
theorem no_nb {X : Prop} {x y : Bool} (h : x = y) (z : (!decide (V.bl x = V.bl y)) = true) : X := by
  rw [nb_no h] at z
  cases z
theorem sub_and (P R : Nat → Bool) : subP P R = eqP (fun i => P i && R i) P := by
  rw [Bool.eq_iff_iff, subP_iff, eqP_iff]
  refine forall_congr' fun n => ?_
  cases P n <;> cases R n <;> simp
theorem sub_none (P R : Nat → Bool) : subP P R = eqP (fun i => andn (P i) (R i)) (fun _ => false) := by
  rw [Bool.eq_iff_iff, subP_iff, eqP_iff]
  refine forall_congr' fun n => ?_
  cases P n <;> cases R n <;> simp [andn]
theorem sub_inv (P R : Nat → Bool) : subP (fun i => !R i) (fun i => !P i) = subP P R := by
  rw [Bool.eq_iff_iff, subP_iff, subP_iff]
  refine forall_congr' fun n => ?_
  cases P n <;> cases R n <;> simp
theorem ex_sub (P R : Nat → Bool) : exP (fun i => andn (P i) (R i)) = !subP P R := by
  rw [Bool.eq_iff_iff, exP_iff, Bool.not_eq_true', ← Bool.not_eq_true, subP_iff, Classical.not_forall]
  refine exists_congr fun n => ?_
  cases P n <;> cases R n <;> simp [andn]
theorem sub_tr {P R S : Nat → Bool} (h1 : subP P R = true) (h2 : subP R S = true) : subP P S = true := subP_iff.2 fun n z => subP_iff.1 h2 n (subP_iff.1 h1 n z)
theorem no_eb {X : Prop} {x y : Bool} (h : x = y) (z : decide (V.bl x = V.bl y) = false) : X := by
  subst h
  simp at z
theorem eb_not {x y : Bool} (h : x = !y) : (!decide (V.bl x = V.bl y)) = true := by
  subst h
  cases y <;> simp
theorem no_not {X : Prop} {x : Bool} (h : x = true) (z : (!x) = true) : X := by
  rw [h] at z
  cases z
theorem not_no {x : Bool} (h : x = true) : (!x) = false := by
  rw [h]
  rfl
theorem sub_l (P R : Nat → Bool) : subP (fun i => P i && R i) P = true := subP_iff.2 fun n z => by
  have z : (P n && R n) = true := z
  rw [Bool.and_eq_true] at z
  exact z.1
theorem sub_r (P R : Nat → Bool) : subP P (fun i => P i || R i) = true := subP_iff.2 fun n z => by
  show (P n || R n) = true
  rw [z, Bool.true_or]
local macro_rules | `(tactic| walk_at "ex") => `(tactic| first
  | exact ext_rf
  | assumption
  | ((with_reducible refine' ext_tr ?h1 ?h2); (case h2 => assumption); (case h1 => walk_at "ex")))
section
variable {P : Program} {w : World} {K : PySem.W.Frag} {mg : Str → Option Value} {base : Heap}
theorem ok__law_sets_right (T : Tx K mg) : FnOk P w K mg base CX0 13 T.f__law_sets_right T.d__law_sets_right ["one", "other", "third"] (liftX (bSR T.c_Lengths)) := by
  refine T.F__law_sets_right.ok sc__law_sets_right (fun vs H Q E h => ?_) (fun cdv A outer s H vs Q E hr h => ?_)
  · obtain ⟨kn, _, _, a, b, d, _, _, _, rfl, _⟩ := h
    rfl
  · obtain ⟨kn, ex, nt, a, b, d, PA, PB, PD, rfl, sa, sb, sd, h⟩ := h
    refine ⟨_, (pss_cons (ps_if (PW.pt (pw_or (pt_cmpR (op_neO T.eq_Lengths (ok_Lengths___eq__ T) (hr.mono (by decide)) T.bd_Lengths___eq__ pass0) (pe_un (un_invO T.fi_Lengths___invert__ T.isf_Lengths___invert__ (ok_Lengths___invert__ T) (hr.mono (by decide)) T.bd_Lengths___invert__ pass0) (pe_op (op_own T.op_Lengths_and (ok_Lengths___and__ T) (hr.mono (by decide)) T.bd_Lengths___and__ pass0) (pv 0) (pv 1))) (pe_op (op_own T.op_Lengths_or (ok_Lengths___or__ T) (hr.mono (by decide)) T.bd_Lengths___or__ pass0) (pe_un (un_invO T.fi_Lengths___invert__ T.isf_Lengths___invert__ (ok_Lengths___invert__ T) (hr.mono (by decide)) T.bd_Lengths___invert__ pass0) (pv 0)) (pe_un (un_invO T.fi_Lengths___invert__ T.isf_Lengths___invert__ (ok_Lengths___invert__ T) (hr.mono (by decide)) T.bd_Lengths___invert__ pass0) (pv 1))) (nomark _)) (pw_or (pt_cmpR (op_neO T.eq_Lengths (ok_Lengths___eq__ T) (hr.mono (by decide)) T.bd_Lengths___eq__ pass0) (pe_un (un_invO T.fi_Lengths___invert__ T.isf_Lengths___invert__ (ok_Lengths___invert__ T) (hr.mono (by decide)) T.bd_Lengths___invert__ pass0) (pe_op (op_own T.op_Lengths_or (ok_Lengths___or__ T) (hr.mono (by decide)) T.bd_Lengths___or__ pass0) (pv 0) (pv 1))) (pe_op (op_own T.op_Lengths_and (ok_Lengths___and__ T) (hr.mono (by decide)) T.bd_Lengths___and__ pass0) (pe_un (un_invO T.fi_Lengths___invert__ T.isf_Lengths___invert__ (ok_Lengths___invert__ T) (hr.mono (by decide)) T.bd_Lengths___invert__ pass0) (pv 0)) (pe_un (un_invO T.fi_Lengths___invert__ T.isf_Lengths___invert__ (ok_Lengths___invert__ T) (hr.mono (by decide)) T.bd_Lengths___invert__ pass0) (pv 1))) (nomark _)) (pw_or1 (pt_cmpR (op_neO T.eq_Lengths (ok_Lengths___eq__ T) (hr.mono (by decide)) T.bd_Lengths___eq__ pass0) (pe_op (op_own T.op_Lengths_sub (ok_Lengths___sub__ T) (hr.mono (by decide)) T.bd_Lengths___sub__ pass0) (pv 0) (pv 1)) (pe_op (op_own T.op_Lengths_and (ok_Lengths___and__ T) (hr.mono (by decide)) T.bd_Lengths___and__ pass0) (pv 0) (pe_un (un_invO T.fi_Lengths___invert__ T.isf_Lengths___invert__ (ok_Lengths___invert__ T) (hr.mono (by decide)) T.bd_Lengths___invert__ pass0) (pv 1))) (nomark _))))))
       (pss_one (ps_ret pe_bl))
       pss_nil)
       (pss_cons (ps_if (PW.pt (pw_or (pt_cmpR (op_neO T.eq_Lengths (ok_Lengths___eq__ T) (hr.mono (by decide)) T.bd_Lengths___eq__ pass0) (pe_op (op_own T.op_Lengths_and (ok_Lengths___and__ T) (hr.mono (by decide)) T.bd_Lengths___and__ pass0) (pv 0) (pe_op (op_own T.op_Lengths_or (ok_Lengths___or__ T) (hr.mono (by decide)) T.bd_Lengths___or__ pass0) (pv 1) (pv 2))) (pe_op (op_own T.op_Lengths_or (ok_Lengths___or__ T) (hr.mono (by decide)) T.bd_Lengths___or__ pass0) (pe_op (op_own T.op_Lengths_and (ok_Lengths___and__ T) (hr.mono (by decide)) T.bd_Lengths___and__ pass0) (pv 0) (pv 1)) (pe_op (op_own T.op_Lengths_and (ok_Lengths___and__ T) (hr.mono (by decide)) T.bd_Lengths___and__ pass0) (pv 0) (pv 2))) (nomark _)) (pw_or1 (pt_cmpR (op_neO T.eq_Lengths (ok_Lengths___eq__ T) (hr.mono (by decide)) T.bd_Lengths___eq__ pass0) (pe_op (op_own T.op_Lengths_or (ok_Lengths___or__ T) (hr.mono (by decide)) T.bd_Lengths___or__ pass0) (pv 0) (pe_op (op_own T.op_Lengths_and (ok_Lengths___and__ T) (hr.mono (by decide)) T.bd_Lengths___and__ pass0) (pv 1) (pv 2))) (pe_op (op_own T.op_Lengths_and (ok_Lengths___and__ T) (hr.mono (by decide)) T.bd_Lengths___and__ pass0) (pe_op (op_own T.op_Lengths_or (ok_Lengths___or__ T) (hr.mono (by decide)) T.bd_Lengths___or__ pass0) (pv 0) (pv 1)) (pe_op (op_own T.op_Lengths_or (ok_Lengths___or__ T) (hr.mono (by decide)) T.bd_Lengths___or__ pass0) (pv 0) (pv 2))) (nomark _)))))
       (pss_one (ps_ret pe_bl))
       pss_nil)
       (pss_cons (ps_if (PW.pt (pw_or (pt_cmpR op_ne (pe_cmpR (op_cmpO (fun _ _ => rfl) T.cm_Lengths_le (ok_Lengths___le__ T) (hr.mono (by decide)) T.bd_Lengths___le__ pass0) (pv 0) (pv 1) (nomark _)) (pe_cmpR (op_eqO T.eq_Lengths (ok_Lengths___eq__ T) (hr.mono (by decide)) T.bd_Lengths___eq__ pass0) (pe_op (op_own T.op_Lengths_and (ok_Lengths___and__ T) (hr.mono (by decide)) T.bd_Lengths___and__ pass0) (pv 0) (pv 1)) (pv 0) (nomark _)) (nomark _)) (pw_or1 (pt_cmpR op_ne (pe_cmpR (op_cmpO (fun _ _ => rfl) T.cm_Lengths_le (ok_Lengths___le__ T) (hr.mono (by decide)) T.bd_Lengths___le__ pass0) (pv 0) (pv 1) (nomark _)) (pe_cmpR (op_eqO T.eq_Lengths (ok_Lengths___eq__ T) (hr.mono (by decide)) T.bd_Lengths___eq__ pass0) (pe_op (op_own T.op_Lengths_sub (ok_Lengths___sub__ T) (hr.mono (by decide)) T.bd_Lengths___sub__ pass0) (pv 0) (pv 1)) (pe_smeth0 (pe_glob (v := .ref T.c_Lengths) (by rfl) T.g_Lengths rfl) T.cr_Lengths T.sme_Lengths_none (oR_Lengths_none T) (hr.mono (by decide)) pass0) (nomark _)) (nomark _)))))
       (pss_one (ps_ret pe_bl))
       pss_nil)
       (pss_cons (ps_if (PW.pt (pw_or (pt_cmpR op_ne (pe_cmpR (op_cmpO (fun _ _ => rfl) T.cm_Lengths_lt (ok_Lengths___lt__ T) (hr.mono (by decide)) T.bd_Lengths___lt__ pass0) (pv 0) (pv 1) (nomark _)) (pe_and (pe_cmpR (op_cmpO (fun _ _ => rfl) T.cm_Lengths_le (ok_Lengths___le__ T) (hr.mono (by decide)) T.bd_Lengths___le__ pass0) (pv 0) (pv 1) (nomark _)) (pe_one (pe_cmpR (op_neO T.eq_Lengths (ok_Lengths___eq__ T) (hr.mono (by decide)) T.bd_Lengths___eq__ pass0) (pv 0) (pv 1) (nomark _)))) (nomark _)) (pw_or1 (pt_cmpR op_ne (pe_cmpR (op_cmpO (fun _ _ => rfl) T.cm_Lengths_ge (ok_Lengths___ge__ T) (hr.mono (by decide)) T.bd_Lengths___ge__ pass0) (pv 0) (pv 1) (nomark _)) (pe_cmpR (op_cmpO (fun _ _ => rfl) T.cm_Lengths_le (ok_Lengths___le__ T) (hr.mono (by decide)) T.bd_Lengths___le__ pass0) (pv 1) (pv 0) (nomark _)) (nomark _)))))
       (pss_one (ps_ret pe_bl))
       pss_nil)
       (pss_cons (ps_if (PW.pt (pw_or (PW.pt (pw_and (pt_cmpR (op_cmpO (fun _ _ => rfl) T.cm_Lengths_le (ok_Lengths___le__ T) (hr.mono (by decide)) T.bd_Lengths___le__ pass0) (pv 0) (pv 1) (nomark _)) (pw_and (pt_cmpR (op_cmpO (fun _ _ => rfl) T.cm_Lengths_le (ok_Lengths___le__ T) (hr.mono (by decide)) T.bd_Lengths___le__ pass0) (pv 1) (pv 2) (nomark _)) (pw_and1 (pt_not (pt_cmpR (op_cmpO (fun _ _ => rfl) T.cm_Lengths_le (ok_Lengths___le__ T) (hr.mono (by decide)) T.bd_Lengths___le__ pass0) (pv 0) (pv 2) (nomark _))))))) (pw_or (pt_not (pt_cmpR (op_cmpO (fun _ _ => rfl) T.cm_Lengths_le (ok_Lengths___le__ T) (hr.mono (by decide)) T.bd_Lengths___le__ pass0) (pe_op (op_own T.op_Lengths_and (ok_Lengths___and__ T) (hr.mono (by decide)) T.bd_Lengths___and__ pass0) (pv 0) (pv 1)) (pv 0) (nomark _))) (pw_or1 (pt_not (pt_cmpR (op_cmpO (fun _ _ => rfl) T.cm_Lengths_le (ok_Lengths___le__ T) (hr.mono (by decide)) T.bd_Lengths___le__ pass0) (pv 0) (pe_op (op_own T.op_Lengths_or (ok_Lengths___or__ T) (hr.mono (by decide)) T.bd_Lengths___or__ pass0) (pv 0) (pv 2)) (nomark _)))))))
       (pss_one (ps_ret pe_bl))
       pss_nil)
       (pss_one (ps_ret (pe_and (pe_cmpR op_eq (pe_cmpR (op_cmpO (fun _ _ => rfl) T.cm_Lengths_le (ok_Lengths___le__ T) (hr.mono (by decide)) T.bd_Lengths___le__ pass0) (pe_un (un_invO T.fi_Lengths___invert__ T.isf_Lengths___invert__ (ok_Lengths___invert__ T) (hr.mono (by decide)) T.bd_Lengths___invert__ pass0) (pv 1)) (pe_un (un_invO T.fi_Lengths___invert__ T.isf_Lengths___invert__ (ok_Lengths___invert__ T) (hr.mono (by decide)) T.bd_Lengths___invert__ pass0) (pv 0)) (nomark _)) (pe_cmpR (op_cmpO (fun _ _ => rfl) T.cm_Lengths_le (ok_Lengths___le__ T) (hr.mono (by decide)) T.bd_Lengths___le__ pass0) (pv 0) (pv 1) (nomark _)) (nomark _)) (pe_one (pe_cmpR op_ne (pe_callTy (c_boolO T.sm_Lengths___bool__ (ok_Lengths___bool__ T) (hr.mono (by decide)) T.bd_Lengths___bool__ pass0) (by rfl) T.b_bool (by decide +kernel) (pa_cons (pe_op (op_own T.op_Lengths_sub (ok_Lengths___sub__ T) (hr.mono (by decide)) T.bd_Lengths___sub__ pass0) (pv 0) (pv 1)) pa_nil)) (pe_cmpR (op_cmpO (fun _ _ => rfl) T.cm_Lengths_le (ok_Lengths___le__ T) (hr.mono (by decide)) T.bd_Lengths___le__ pass0) (pv 0) (pv 1) (nomark _)) (nomark _))))))))))), ?_⟩
    refine body_of (pure_start ex nt) ?_
    refine s_seq (s_if (W.mono (Q := fun b k m => b = false ∧ Ext kn k ∧ m = 0) ?_ fun b k m ⟨eb, e, em⟩ => ?_))
    · walk_at "ss"
      refine ⟨fun _ => ?_, fun z => no_ne (by intro n; first | rfl | ((try dsimp only [andn]); cases PA n <;> cases PB n <;> cases PD n <;> rfl)) z⟩
      walk_at "ss"
      refine ⟨fun _ => ?_, fun z => no_ne (by intro n; first | rfl | ((try dsimp only [andn]); cases PA n <;> cases PB n <;> cases PD n <;> rfl)) z⟩
      walk_at "ss"
      refine ⟨ne_no (by intro n; first | rfl | ((try dsimp only [andn]); cases PA n <;> cases PB n <;> cases PD n <;> rfl)), ?_, rfl⟩
      walk_at "ex"
    subst eb em
    refine ⟨(fun z => nomatch z), fun _ => s_next ?_⟩
    refine s_seq (s_if (W.mono (Q := fun b k m => b = false ∧ Ext kn k ∧ m = 0) ?_ fun b k2 m ⟨eb, e2, em⟩ => ?_))
    · walk_at "ss"
      refine ⟨fun _ => ?_, fun z => no_ne (by intro n; first | rfl | ((try dsimp only [andn]); cases PA n <;> cases PB n <;> cases PD n <;> rfl)) z⟩
      walk_at "ss"
      refine ⟨ne_no (by intro n; first | rfl | ((try dsimp only [andn]); cases PA n <;> cases PB n <;> cases PD n <;> rfl)), ?_, rfl⟩
      walk_at "ex"
    subst eb em
    clear e
    refine ⟨(fun z => nomatch z), fun _ => s_next ?_⟩
    refine s_seq (s_if (W.mono (Q := fun b k m => b = false ∧ Ext kn k ∧ m = 0) ?_ fun b k3 m ⟨eb, e3, em⟩ => ?_))
    · walk_at "ss"
      refine ⟨fun _ => ?_, fun z => no_nb (sub_and PA PB) z⟩
      walk_at "ss"
      refine w_smeth (EA := fun _ _ _ _ => False) mo_new err_no ?_
      walk_at "ss"
      refine ⟨rfl, ?_⟩
      walk_at "ss"
      refine ⟨rfl, fun x k e0 nx l => ?_⟩
      have sx : SetAt T.c_Lengths k x (fun _ => false) := ⟨[], [false], l, by decide, by decide, fun m => by
        rw [inL_nat, if_neg (show ¬ m < ([] : List Bool).length from Nat.not_lt_zero m)]
        show ix [false] (m % 1) = false
        rw [Nat.mod_one]
        rfl⟩
      walk_at "ss"
      refine ⟨nb_no (sub_none PA PB), ?_, rfl⟩
      walk_at "ex"
    subst eb em
    clear e2
    refine ⟨(fun z => nomatch z), fun _ => s_next ?_⟩
    refine s_seq (s_if (W.mono (Q := fun b k m => b = false ∧ Ext kn k ∧ m = 0) ?_ fun b k4 m ⟨eb, e4, em⟩ => ?_))
    · walk_at "ss"
      refine ⟨fun e1 => ?_, fun e1 => ?_⟩
      · walk_at "ss"
        refine ⟨fun _ => ?_, fun z => no_nb (by rw [e1, if_pos rfl, Bool.true_and]) z⟩
        walk_at "ss"
        refine ⟨rfl, ?_, rfl⟩
        walk_at "ex"
      · walk_at "ss"
        refine ⟨fun _ => ?_, fun z => no_nb (by rw [e1, Bool.false_and]) z⟩
        walk_at "ss"
        refine ⟨rfl, ?_, rfl⟩
        walk_at "ex"
    subst eb em
    clear e3
    refine ⟨(fun z => nomatch z), fun _ => s_next ?_⟩
    refine s_seq (s_if (W.mono (Q := fun b k m => b = false ∧ Ext kn k ∧ m = 0) ?_ fun b k5 m ⟨eb, e5, em⟩ => ?_))
    · walk_at "ss"
      refine ⟨fun e1 => ?_, fun e1 => ?_⟩
      · walk_at "ss"
        refine ⟨fun e2 => ?_, fun e2 => ?_⟩
        · walk_at "ss"
          refine ⟨fun _ => ?_, fun z => no_not (sub_tr e1 e2) z⟩
          walk_at "ss"
          refine ⟨fun _ => ?_, fun z => no_not (sub_l PA PB) z⟩
          walk_at "ss"
          refine ⟨not_no (sub_r PA PD), ?_, rfl⟩
          walk_at "ex"
        · walk_at "ss"
          refine ⟨fun _ => ?_, fun z => no_not (sub_l PA PB) z⟩
          walk_at "ss"
          refine ⟨not_no (sub_r PA PD), ?_, rfl⟩
          walk_at "ex"
      · walk_at "ss"
        refine ⟨fun _ => ?_, fun z => no_not (sub_l PA PB) z⟩
        walk_at "ss"
        refine ⟨not_no (sub_r PA PD), ?_, rfl⟩
        walk_at "ex"
    subst eb em
    clear e4
    refine ⟨(fun z => nomatch z), fun _ => s_next ?_⟩
    walk_at "ss"
    refine ⟨fun _ => ?_, fun z => no_eb (sub_inv PA PB) z⟩
    walk_at "ss"
    rw [eb_not (ex_sub PA PB)]
    refine h _ ?_ 0
    walk_at "ex"
end

end NN

namespace NN
open PySem PySem.Spec PyProof.Rows L2 LamX AW ClX
open Tx1 Ln
theorem kput {kb k : Hp} {l : Addr} {o : HO} (h : kb l = none) (e : Ext kb k) : Ext kb (upd k l o) := fun y v hy => by
  rw [upd_ne (fun z => by rw [z, h] at hy; cases hy)]
  exact e y v hy
theorem w_gen {α : Type} {c : Cw} {t : Hp → (α → Hp → Prop) → Prop} {k : Hp} {b : Addr} {o : HO} {n : Nat} {Q : α → Hp → Nat → Prop} (hb : k b = none) (h : ∀ k1, Ext k k1 → k1 b = some o → W c t k1 n Q) : W c t (upd k b o) n Q := h _ (ext_new hb) upd_same
theorem ws_gen {c : Cw} {b : TS} {E : AE} {σ : L2.St} {k : Hp} {a : Addr} {o : HO} {n : Nat} (hb : k a = none) (h : ∀ k1, Ext k k1 → k1 a = some o → WS c b E σ k1 n) : WS c b E σ (upd k a o) n := h _ (ext_new hb) upd_same
section
variable {c : Cw} {kn : Hp} {n : Nat} {σ : L2.St} {Q : V → Hp → Nat → Prop} {K : PySem.W.Frag}
/-- [x for x in numbers if ..], the test may draw -/
theorem w_lcAny {wi : TI} {tt : TT} {m d : Nat}
    (h : WI c (wi σ) kn n fun J kn1 n1 => ∃ (xs : List Nat) (ka : Hp → Prop), Gives J (natV xs) ka ∧ (∀ k, Ext kn1 k → ka k) ∧ xs.length ≤ 1000 ∧ (∀ v : V, wipe ((wipe σ [m]).set m (some v)) [m] = wipe σ [m]) ∧ (∀ v : V, ((wipe σ [m]).set m (some v))[m]? = some (some v)) ∧
      (∀ (x : Nat) (k : Hp) (nn : Nat) (R : Bool → Hp → Nat → Prop), x ∈ xs → Ext kn1 k → nn ≤ n1 + d * xs.length → (∀ b k2 n2, Ext k k2 → n2 ≤ nn + d → R b k2 n2) → W c (tt ((wipe σ [m]).set m (some (.int (x : Int))))) k nn R) ∧
      ∀ (D : Addr) (ys : List Nat) (k : Hp) (nn : Nat), Ext kn1 k → k D = some (.lst (natV ys)) → ys.length ≤ xs.length → (∀ y ∈ ys, y ∈ xs) → nn ≤ n1 + d * xs.length → Q (.ref D) k nn) :
    W c (tLc wi (gName m) tt (tVar m) [m] σ) kn n Q := by
  refine w_lc (fun H g R' q => h H g R' fun J kn1 n1 H1 hJ g1 => q J kn1 n1 H1 ?_ g1)
  obtain ⟨xs, ka, hG, hk, hl, hw, hm, ht, hq⟩ := hJ
  refine ⟨natV xs, ka, fun D i acc k nn => kn1 D = none ∧ Ext kn1 k ∧ k D = some (.lst acc) ∧ nn ≤ n1 + d * i ∧ i ≤ xs.length ∧ ∃ ys : List Nat, acc = natV ys ∧ ys.length ≤ i ∧ ∀ y ∈ ys, y ∈ xs, hG, by rw [List.length_map]; omega, fun D hD => ⟨hD, ext_new hD, upd_same, Nat.le_refl _, Nat.zero_le _, [], rfl, Nat.le_refl _, fun y hy => (by cases hy)⟩, ?_, ?_, ?_⟩
  · rintro D i acc k nn ⟨hD, ek, kD, _, _, ys, rfl, hy, _⟩
    exact ⟨hk _ ek, kD, by rw [List.length_map]; exact hy⟩
  · rintro D i acc x k nn hx ⟨hD, ek, kD, hn, hi, ys, rfl, hy, hB⟩
    rw [List.getElem?_map] at hx
    obtain ⟨j, hj, rfl⟩ := Option.map_eq_some_iff.1 hx
    obtain ⟨hj1, hj2⟩ := List.getElem?_eq_some_iff.1 hj
    have hx : j ∈ xs := List.mem_of_getElem? hj
    have hd : d * (i + 1) ≤ d * xs.length := Nat.mul_le_mul_left d hj1
    rw [Nat.mul_succ] at hd
    refine g_name ⟨hw _, ht j k nn _ hx ek (by omega) fun b k2 n2 e2 hn2 => ⟨fun _ => w_var (hm _) ⟨e2 _ _ kD, hD, kput hD (ext_tr ek e2), upd_same, ?_, hj1, ys ++ [j], ?_, ?_, fun y hy2 => ?_⟩, fun _ => ⟨hD, ext_tr ek e2, e2 _ _ kD, ?_, hj1, ys, rfl, Nat.le_succ_of_le hy, hB⟩⟩⟩
    · rw [Nat.mul_succ]; omega
    · unfold natV; rw [List.map_append]; rfl
    · rw [List.length_append]; exact Nat.succ_le_succ hy
    · rcases List.mem_append.1 hy2 with z | z
      · exact hB y z
      · rw [List.mem_singleton.1 z]; exact hx
    · rw [Nat.mul_succ]; omega
  · rintro D acc k nn ⟨hD, ek, kD, hn, hi, ys, rfl, hy, hB⟩
    rw [List.length_map] at hy hn
    exact hq D ys k nn ek kD hy hB hn
theorem gives_rng0 {L : Nat} : Gives (Itr 0 L) (natV (List.range L)) fun _ => True := by
  have e : natV (List.range L) = (List.range L).map fun i => V.int (0 + (i : Nat)) := List.map_congr_left fun i _ => by rw [Int.zero_add]
  rw [e]
  exact gives_rng
end
theorem s_par3 {c : Cw} {kn : Hp} {n : Nat} {σ : L2.St} {D : AE} {i j l : Nat} {ta : TA} (h : W c (ta σ) kn n fun vs kn1 n1 => ∃ u v w, vs = [u, v, w] ∧ D.nx (((σ.set i (some u)).set j (some v)).set l (some w)) kn1 n1) : WS c (tPar3 i j l ta) D σ kn n :=
  fun H g D' f => h H g _ fun vs kn1 n1 H1 ⟨u, v, w, e, hq⟩ g1 => ⟨u, v, w, e, f.nx _ _ _ _ hq g1⟩
theorem inL_of {xs : List Nat} (hx : ∀ x ∈ xs, x < 400) (n : Nat) : inL (formN 400 1 xs []) (formT 1 []) (n : Int) = decide (n ∈ xs) := by
  rw [inL_args (by decide)]
  by_cases z : n < 400
  · rw [if_pos z]
  · rw [if_neg z, decide_eq_false (fun h => z (hx n h))]
    exact decide_eq_false (by simp)
theorem small_fin {xs : List Nat} (hx : ∀ x ∈ xs, x < 390) : Small 400 1 xs [] := by
  unfold Small
  have h1 : maskOf 1 [] = [false] := rfl
  have h2 : leastP [false] = 1 := by decide
  rw [h1, h2]
  obtain ⟨b1, b2, b3⟩ := begin_spec (maskOf 400 xs) [false] 1
  rcases Nat.lt_or_ge 390 (beginOf (maskOf 400 xs) [false] 1) with z | z
  · exfalso
    rw [mask_len] at b1
    refine b3 (by omega) ?_
    rw [ix_mask (by omega), decide_eq_false (fun h => by have := hx _ h; omega), Nat.mod_one]
    rfl
  · omega
theorem within_fin {r u : List Bool} {xs : List Nat} {t : Nat} (F : Form r u) (h : ∀ m : Nat, inL r u (m : Int) = decide (m ∈ xs)) (hx : ∀ x ∈ xs, x < t) : r.length ≤ t ∧ u.length = 1 := by
  have := form_within F (b := t) (L := 1) (by decide) fun n hn => by
    rw [h, h, decide_eq_false (fun z => by have := hx _ z; omega), decide_eq_false (fun z => by have := hx _ z; omega)]
  exact ⟨this.1, Nat.dvd_one.1 this.2⟩
theorem set_args {C : Addr} {k : Hp} {x : Addr} {st p : Nat} {xs ys : List Nat} (l : LenAt C k x (formN st p xs ys) (formT p ys)) (hp : 1 ≤ p) (hs : st ≤ 20) (hd : p ∣ 12) : SetAt C k x (fun n => if n < st then decide (n ∈ xs) else decide (n % p ∈ ys)) := by
  obtain ⟨w1, w2⟩ := form_within l.form (b := st) (L := p) hp fun n hn => by rw [inL_args hp, inL_args hp, if_neg (by omega), if_neg (by omega), Nat.add_mod_right]
  exact ⟨_, _, l, by omega, Nat.dvd_trans w2 hd, fun n => inL_args hp n⟩
section
variable {c : Cw} {kn : Hp} {n : Nat} {σ : L2.St} {Q : V → Hp → Nat → Prop} {K : PySem.W.Frag} {mg : Str → Option Value}
theorem w_sof (T : Tx K mg) {E : XK} {tA : TA}
    (h : W c (tA σ) kn n fun vs kn1 n1 => ∃ xs : List Nat, vs = natV xs ∧ (∀ x ∈ xs, x < 20) ∧ xs.length ≤ 100 ∧ ∀ s k, Ext kn1 k → SetAt T.c_Lengths k s (fun m => decide (m ∈ xs)) → Q (.ref s) k n1) : W c (tSMeth T.c_Lengths (spStar 0 (bOf T.c_Lengths)) E (tC (.ref T.c_Lengths)) tA σ) kn n Q := by
  refine w_smethS (EA := fun _ _ _ _ => False) mo_of err_no (w_c ⟨rfl, h.mono fun vs kn1 n1 hv => ?_⟩)
  obtain ⟨xs, rfl, hx, hl, q⟩ := hv
  refine ⟨[], natV xs, rfl, rfl, by rw [List.length_map]; omega, fun p5 hp5 => ?_⟩
  refine ⟨p5, xs, rfl, upd_same, by omega, fun x h => by have := hx x h; omega, small_fin fun x h => by have := hx x h; omega, fun s k e _ d => q s k (ext_tr (ext_new hp5) e) ?_⟩
  have io := inL_of (xs := xs) fun x h => by have := hx x h; omega
  obtain ⟨w1, w2⟩ := within_fin d.form io hx
  exact ⟨_, _, d, w1, by rw [w2]; decide, io⟩
theorem w_ssteps (T : Tx K mg) {E : XK} {tA : TA}
    (h : W c (tA σ) kn n fun vs kn1 n1 => ∃ b p : Nat, vs = [.int b, .int p] ∧ 1 ≤ p ∧ b ≤ 20 ∧ p ∣ 12 ∧ ∀ x k, Ext kn1 k → SetAt T.c_Lengths k x (fun n => if n < b then decide (n ∈ ([] : List Nat)) else decide (n % p ∈ [b % p])) → Q (.ref x) k n1) : W c (tSMeth T.c_Lengths (liftX (bSteps T.c_Lengths)) E (tC (.ref T.c_Lengths)) tA σ) kn n Q := by
  refine w_smeth (EA := fun _ _ _ _ => False) mo_steps err_no (w_c ⟨rfl, h.mono fun vs k n1 hv => ?_⟩)
  obtain ⟨b, p, rfl, h1, h2, h3, q⟩ := hv
  have := Nat.le_of_dvd (show 0 < 12 by decide) h3
  exact ⟨b, p, rfl, by omega, h1, by omega, small_of (by omega), fun x k' e _ l => q x k' e (set_args l h1 h2 h3)⟩
theorem w_ssince (T : Tx K mg) {E : XK} {tA : TA}
    (h : W c (tA σ) kn n fun vs kn1 n1 => ∃ b : Nat, vs = [.int b] ∧ b ≤ 20 ∧ ∀ x k, Ext kn1 k → SetAt T.c_Lengths k x (fun n => if n < b then decide (n ∈ ([] : List Nat)) else decide (n % 1 ∈ [0])) → Q (.ref x) k n1) : W c (tSMeth T.c_Lengths (liftX (bSince T.c_Lengths)) E (tC (.ref T.c_Lengths)) tA σ) kn n Q := by
  refine w_smeth (EA := fun _ _ _ _ => False) mo_since err_no (w_c ⟨rfl, h.mono fun vs k n1 hv => ?_⟩)
  obtain ⟨b, rfl, h2, q⟩ := hv
  exact ⟨b, rfl, by omega, fun x k' e _ l => q x k' e (set_args l (Nat.le_refl _) h2 (Nat.one_dvd _))⟩
end

end NN

namespace NN
open PySem PySem.Spec PyProof.Rows L2 LamX AW ClX
open Tx1 Ln
def bSet (C : Addr) : List V → Hp → AK → AXK → Prop := fun vs kn Q _ => vs = [] ∧ ∀ x P k', Ext kn k' → SetAt C k' x P → Q (.ref x) k'
theorem mo_set {C : Addr} : MonoX (bSet C) := by
  rintro vs kn Q R E F h1 h2 ⟨a, h⟩
  exact ⟨a, fun x P k z1 z2 => h1 _ _ (h x P k z1 z2)⟩
def bFar : List V → Hp → AK → AXK → Prop := fun vs kn Q _ => vs = [] ∧ ∀ l k' (x y z : Nat), Ext kn k' → k' l = some (.lst (natV [x, y, z])) → Q (.ref l) k'
theorem mo_far : MonoX bFar := by
  rintro vs kn Q R E F h1 h2 ⟨a, h⟩
  exact ⟨a, fun l k x y z z1 z2 => h1 _ _ (h l k x y z z1 z2)⟩
section
variable {P : Program} {w : World} {K : PySem.W.Frag} {mg : Str → Option Value} {base : Heap}
theorem ok__law_far (T : Tx K mg) : FnOk P w K mg base CX0 2 T.f__law_far T.d__law_far ["pen"] (liftP [] 3 bFar) := by
  refine T.F__law_far.ok sc__law_far (fun vs H Q E h => ?_) (fun cdv A outer s H vs Q E hr h => ?_)
  · obtain ⟨p, a, ns, n, kn, ws, rfl, _, _, rfl, _⟩ := h
    rfl
  · obtain ⟨p, a, ns, n, kn, ws, rfl, g, hn, rfl, h⟩ := h
    refine ⟨_, (pss_one (ps_ret (pe_lst (pa_cons (pe_call (ok__law_draw T) (hr.mono (by decide)) (by rfl) T.g__law_draw T.F__law_draw.kp T.bd__law_draw .nil pass0 (pa_cons (pv 0) (pa_cons pe_int pa_nil))) (pa_cons (pe_op op_add pe_int (pe_call (ok__law_draw T) (hr.mono (by decide)) (by rfl) T.g__law_draw T.F__law_draw.kp T.bd__law_draw .nil pass0 (pa_cons (pv 0) (pa_cons pe_int pa_nil)))) (pa_cons (pe_op op_add (pe_op op_pow pe_int pe_int) (pe_call (ok__law_draw T) (hr.mono (by decide)) (by rfl) T.g__law_draw T.F__law_draw.kp T.bd__law_draw .nil pass0 (pa_cons (pv 0) (pa_cons (pe_op op_pow pe_int pe_int) pa_nil)))) pa_nil)))))), ?_⟩
    refine body_of g ?_
    walk_at "w"
    refine w_draw ?_
    walk_at "w"
    refine ⟨by omega, by decide, by decide, fun x x0 x1 => ?_⟩
    walk_at "w"
    refine w_draw ?_
    walk_at "w"
    refine ⟨by omega, by decide, by decide, fun y y0 y1 => ?_⟩
    walk_at "w"
    refine r_I ⟨by decide, by decide, by decide⟩ ?_
    walk_at "w"
    refine w_draw ?_
    walk_at "w"
    refine r_I ⟨by decide, by decide, by decide⟩ ?_
    walk_at "w"
    refine ⟨by omega, by decide, by decide, fun z z0 z1 => ?_⟩
    obtain ⟨xn, rfl⟩ : ∃ xn : Nat, x = xn := ⟨x.toNat, by omega⟩
    obtain ⟨yn, rfl⟩ : ∃ yn : Nat, y = yn := ⟨y.toNat, by omega⟩
    obtain ⟨zn, rfl⟩ : ∃ zn : Nat, z = zn := ⟨z.toNat, by omega⟩
    walk_at "w"
    refine ⟨show 3 ≤ 1000 by decide, fun q hq => ?_⟩
    have ez : (10 : Int) ^ Int.toNat 39 + (zn : Int) = ((10 ^ 39 + zn : Nat) : Int) := by rw [Int.natCast_add]; rfl
    have ey : (400 : Int) + (yn : Int) = ((400 + yn : Nat) : Int) := by omega
    rw [ez, ey]
    exact fin_at (by omega) (h q _ xn (400 + yn) (10 ^ 39 + zn) (ext_new hq) upd_same)
theorem ok__law_set (T : Tx K mg) : FnOk P w K mg base CX0 12 T.f__law_set T.d__law_set ["pen"] (liftP [] 20 (bSet T.c_Lengths)) := by
  refine T.F__law_set.ok sc__law_set (fun vs H Q E h => ?_) (fun cdv A outer s H vs Q E hr h => ?_)
  · obtain ⟨p, a, ns, n, kn, ws, rfl, _, _, rfl, _⟩ := h
    rfl
  · obtain ⟨p, a, ns, n, kn, ws, rfl, g, hn, rfl, h⟩ := h
    refine ⟨_, (pss_cons (ps_par3 (i := 1) (j := 2) (l := 3) (by rfl) sc__law_set.nd rfl rfl rfl (by decide) (by decide) (by decide) rfl rfl rfl (pa_cons (pe_call (ok__law_draw T) (hr.mono (by decide)) (by rfl) T.g__law_draw T.F__law_draw.kp T.bd__law_draw .nil pass0 (pa_cons (pv 0) (pa_cons pe_int pa_nil))) (pa_cons (pe_call (ok__law_draw T) (hr.mono (by decide)) (by rfl) T.g__law_draw T.F__law_draw.kp T.bd__law_draw .nil pass0 (pa_cons (pv 0) (pa_cons pe_int pa_nil))) (pa_cons (pe_call (ok__law_pick T []) (hr.mono (by decide)) (by rfl) T.g__law_pick T.F__law_pick.kp T.bd__law_pick .nil pass0 (pa_cons (pv 0) (pa_cons (pe_lst (pa_cons pe_int (pa_cons pe_int (pa_cons pe_int (pa_cons pe_int (pa_cons pe_int pa_nil)))))) pa_nil))) pa_nil))) (by rfl))
       (pss_cons (ps_if (pt_cmpR op_eq (pv 1) pe_int (nomark _))
       (pss_one (ps_ret (pe_smeth (pe_glob (v := .ref T.c_Lengths) (by rfl) T.g_Lengths rfl) T.cr_Lengths T.sme_Lengths_of (oR_Lengths_of T) (hr.mono (by decide)) pass0 (pa_cons (pv 2) (pa_cons (pe_op op_add (pv 2) (pv 3)) (pa_cons (pe_call (ok__law_draw T) (hr.mono (by decide)) (by rfl) T.g__law_draw T.F__law_draw.kp T.bd__law_draw .nil pass0 (pa_cons (pv 0) (pa_cons pe_int pa_nil))) pa_nil))))))
       pss_nil)
       (pss_cons (ps_if (pt_cmpR op_eq (pv 1) pe_int (nomark _))
       (pss_one (ps_ret (pe_op (op_own T.op_Lengths_or (ok_Lengths___or__ T) (hr.mono (by decide)) T.bd_Lengths___or__ pass0) (pe_smeth (pe_glob (v := .ref T.c_Lengths) (by rfl) T.g_Lengths rfl) T.cr_Lengths T.sme_Lengths_steps (oR_Lengths_steps T) (hr.mono (by decide)) pass0 (pa_cons (pv 2) (pa_cons (pv 3) pa_nil))) (pe_smeth (pe_glob (v := .ref T.c_Lengths) (by rfl) T.g_Lengths rfl) T.cr_Lengths T.sme_Lengths_of (oR_Lengths_of T) (hr.mono (by decide)) pass0 (pa_cons (pe_call (ok__law_draw T) (hr.mono (by decide)) (by rfl) T.g__law_draw T.F__law_draw.kp T.bd__law_draw .nil pass0 (pa_cons (pv 0) (pa_cons pe_int pa_nil))) pa_nil)))))
       pss_nil)
       (pss_cons (ps_if (pt_cmpR op_eq (pv 1) pe_int (nomark _))
       (pss_one (ps_ret (pe_op (op_own T.op_Lengths_or (ok_Lengths___or__ T) (hr.mono (by decide)) T.bd_Lengths___or__ pass0) (pe_un (un_invO T.fi_Lengths___invert__ T.isf_Lengths___invert__ (ok_Lengths___invert__ T) (hr.mono (by decide)) T.bd_Lengths___invert__ pass0) (pe_smeth (pe_glob (v := .ref T.c_Lengths) (by rfl) T.g_Lengths rfl) T.cr_Lengths T.sme_Lengths_since (oR_Lengths_since T) (hr.mono (by decide)) pass0 (pa_cons (pv 2) pa_nil))) (pe_smeth (pe_glob (v := .ref T.c_Lengths) (by rfl) T.g_Lengths rfl) T.cr_Lengths T.sme_Lengths_steps (oR_Lengths_steps T) (hr.mono (by decide)) pass0 (pa_cons (pe_op op_add (pv 2) (pv 3)) (pa_cons (pe_op op_add pe_int (pe_call (ok__law_draw T) (hr.mono (by decide)) (by rfl) T.g__law_draw T.F__law_draw.kp T.bd__law_draw .nil pass0 (pa_cons (pv 0) (pa_cons pe_int pa_nil)))) pa_nil))))))
       pss_nil)
       (pss_cons (ps_setLc (i := 4) (own := [("n", 5)]) (g := gName 5) (by rfl) sc__law_set.nd rfl rfl (sw_true rfl rfl rfl (by decide +kernel)) (pi_range1 (by rfl) T.b_range (pa_cons (pv 2) pa_nil)) (blkOk_by (own := [("n", 5)]) (N := ["pen", "way", "head", "size", "few", "n", "rest"]) (sc := defScope s__law_set) (by decide +kernel)) (fun _ _ _ _ _ => pg_name (i := 5) sc__law_set.nd rfl (Or.inl rfl)) (fun _ _ _ _ _ => (pts_one (pt_cmpR op_eq (pe_call (ok__law_draw T) (hr.mono (by decide)) (by rfl) T.g__law_draw T.F__law_draw.kp T.bd__law_draw .nil pass0 (pa_cons (pv 0) (pa_cons pe_int pa_nil))) pe_int (nomark _)))) (fun _ _ _ _ _ => (pv 5)))
       (pss_one (ps_ret (pe_make T.mk_Lengths (ok_Lengths___init__ T) (hr.mono (by decide)) (by rfl) T.g_Lengths (Classical.choose_spec T.bd4_Lengths).2 (Classical.choose_spec T.bd4_Lengths).1 pass0 (pa_cons (pv 2) (pa_cons (pv 4) (pa_cons (pv 3) (pa_cons (pe_lc (own := [("rest", 6)]) (g := gName 6) (by rfl) sc__law_set.nd (pi_range1 (by rfl) T.b_range (pa_cons (pv 3) pa_nil)) (blkOk_by (own := [("rest", 6)]) (N := ["pen", "way", "head", "size", "few", "n", "rest"]) (sc := defScope s__law_set) (by decide +kernel)) (fun _ _ _ _ _ => pg_name (i := 6) sc__law_set.nd rfl (Or.inl rfl)) (fun _ _ _ _ _ => (pts_one (pt_cmpR op_eq (pe_call (ok__law_draw T) (hr.mono (by decide)) (by rfl) T.g__law_draw T.F__law_draw.kp T.bd__law_draw .nil pass0 (pa_cons (pv 0) (pa_cons pe_int pa_nil))) pe_int (nomark _)))) (fun _ _ _ _ _ => (pv 6))) pa_nil)))))))))))), ?_⟩
    refine body_of g ?_
    refine s_seq (s_par3 ?_)
    walk_at "w"
    refine w_draw ?_
    walk_at "w"
    refine ⟨by omega, by decide, by decide, fun way w0 w1 => ?_⟩
    walk_at "w"
    refine w_draw ?_
    walk_at "w"
    refine ⟨by omega, by decide, by decide, fun k h0 h1 => ?_⟩
    obtain ⟨hd, rfl⟩ : ∃ hd : Nat, k = hd := ⟨k.toNat, by omega⟩
    walk_at "w"
    refine w_callP mo_pick err_no ?_
    walk_at "w"
    refine ⟨show 5 ≤ 1000 by decide, fun l hl => w_gen hl fun k1 e1 f1 => ?_⟩
    walk_at "w"
    refine ⟨by omega, _, _, rfl, f1, show 0 < 5 by decide, show 5 ≤ 1000 by decide, fun v hv => ?_⟩
    obtain ⟨sz, rfl, s1, s2, s3⟩ : ∃ sz : Nat, v = .int sz ∧ 0 < sz ∧ sz ≤ 6 ∧ sz ∣ 12 := by
      simp only [List.mem_cons, List.mem_nil_iff, or_false] at hv
      rcases hv with rfl | rfl | rfl | rfl | rfl
      · exact ⟨1, rfl, by decide, by decide, by decide⟩
      · exact ⟨2, rfl, by decide, by decide, by decide⟩
      · exact ⟨3, rfl, by decide, by decide, by decide⟩
      · exact ⟨4, rfl, by decide, by decide, by decide⟩
      · exact ⟨6, rfl, by decide, by decide, by decide⟩
    clear hv f1
    walk_at "w"
    refine ⟨_, _, _, rfl, ?_⟩
    walk_at "wi"
    refine ⟨fun hb => ?_, fun hb => ?_⟩
    · walk_at "wi"
      refine w_sof T ?_
      walk_at "w"
      refine w_draw ?_
      walk_at "w"
      refine ⟨by omega, by decide, by decide, fun y y0 y1 => ?_⟩
      obtain ⟨yn, rfl⟩ : ∃ yn : Nat, y = yn := ⟨y.toNat, by omega⟩
      walk_at "w"
      refine ⟨[hd, hd + sz, yn], rfl, fun x hx => ?_, (show 3 ≤ 100 by decide), fun s k e l => ?_⟩
      · simp only [List.mem_cons, List.mem_nil_iff, or_false] at hx
        rcases hx with rfl | rfl | rfl <;> omega
      · exact fin_at (by omega) (h s _ _ (ext_tr e1 e) l)
    walk_at "wi"
    refine ⟨fun hb => ?_, fun hb => ?_⟩
    · walk_at "wi"
      refine w_ssteps T ?_
      walk_at "w"
      refine ⟨hd, sz, rfl, s1, by omega, s3, fun x2 k2 e2 l2 => ?_⟩
      walk_at "w"
      refine w_sof T ?_
      walk_at "w"
      refine w_draw ?_
      walk_at "w"
      refine ⟨by omega, by decide, by decide, fun y y0 y1 => ?_⟩
      obtain ⟨yn, rfl⟩ : ∃ yn : Nat, y = yn := ⟨y.toNat, by omega⟩
      walk_at "w"
      refine ⟨[yn], rfl, fun x hx => by rw [List.mem_singleton.1 hx]; omega, (show 1 ≤ 100 by decide), fun x3 k3 e3 l3 => ?_⟩
      walk_at "w"
      refine r_sop T (SetAt.ext e3 l2) l3 fun x4 k4 e4 l4 => ?_
      exact fin_at (by omega) (h x4 _ _ (ext_tr e1 (ext_tr e2 (ext_tr e3 e4))) l4)
    walk_at "wi"
    refine ⟨fun hb => ?_, fun hb => ?_⟩
    · walk_at "wi"
      refine w_ssince T ?_
      walk_at "w"
      refine ⟨by omega, fun x2 k2 e2 l2 => ?_⟩
      walk_at "w"
      refine r_sinv T l2 fun x3 k3 e3 l3 => ?_
      walk_at "w"
      refine w_ssteps T ?_
      walk_at "w"
      refine w_draw ?_
      walk_at "w"
      refine ⟨by omega, by decide, by decide, fun y y0 y1 => ?_⟩
      obtain ⟨yn, rfl⟩ : ∃ yn : Nat, y = yn := ⟨y.toNat, by omega⟩
      walk_at "w"
      have yd : (1 + yn) ∣ 12 := by
        have : yn = 0 ∨ yn = 1 ∨ yn = 2 := by omega
        rcases this with rfl | rfl | rfl <;> decide
      refine ⟨hd + sz, 1 + yn, rfl, by omega, by omega, yd, fun x4 k4 e4 l4 => ?_⟩
      walk_at "w"
      refine r_sop T (SetAt.ext e4 l3) l4 fun x5 k5 e5 l5 => ?_
      exact fin_at (by omega) (h x5 _ _ (ext_tr e1 (ext_tr e2 (ext_tr e3 (ext_tr e4 e5)))) l5)
    walk_at "w"
    refine w_lcAny (d := 1) (i_rng1 (w_cons (w_var rfl (w_nil ⟨hd, rfl, by omega, by omega, ?_⟩))))
    rw [Int.toNat_natCast]
    refine ⟨List.range hd, _, gives_rng0, fun _ _ => trivial, by rw [List.length_range]; omega, fun _ => rfl, fun _ => rfl, fun x k nn R hx ek hn hR => ?_, fun D few k3 n3 e3 f3 l3 m3 hn3 => ?_⟩
    · rw [List.length_range] at hn
      walk_at "w"
      refine w_draw ?_
      walk_at "w"
      refine ⟨by omega, by decide, by decide, fun y y0 y1 => ?_⟩
      walk_at "w"
      exact hR _ _ _ ext_rf (by omega)
    rw [List.length_range] at l3 hn3
    walk_at "wi"
    refine w_len ?_
    walk_at "w"
    refine w_lcAny (d := 1) (i_rng1 (w_cons (w_var rfl (w_nil ⟨sz, rfl, by omega, by omega, ?_⟩))))
    rw [Int.toNat_natCast]
    refine ⟨List.range sz, _, gives_rng0, fun _ _ => trivial, by rw [List.length_range]; omega, fun _ => rfl, fun _ => rfl, fun x k nn R hx ek hn hR => ?_, fun D2 over k4 n4 e4 f4 l4 m4 hn4 => ?_⟩
    · rw [List.length_range] at hn
      walk_at "w"
      refine w_draw ?_
      walk_at "w"
      refine ⟨by omega, by decide, by decide, fun y y0 y1 => ?_⟩
      walk_at "w"
      exact hR _ _ _ ext_rf (by omega)
    rw [List.length_range] at l4 hn4
    walk_at "w"
    refine ⟨_, _, hd, sz, few, over, rfl, ⟨by omega, by omega, by omega, by omega, by omega, fun x hx => List.mem_range.1 (m3 x hx), fun x hx => List.mem_range.1 (m4 x hx), ⟨D, rfl, .inl (e4 _ _ f3)⟩, ⟨D2, rfl, .inl f4⟩⟩, small_of (by omega), fun x k e nx l => ?_⟩
    exact fin_at (by omega) (h x _ _ (ext_tr e1 (ext_tr e3 (ext_tr e4 e))) (set_args l (by omega) (by omega) s3))
end

end NN

namespace NN
open PySem PySem.Spec PyProof.Rows L2 LamX AW ClX
open Tx1 Ln
/-! ### how many below a number, of joined sets -/
theorem cnt_orand (P R : Nat → Bool) : ∀ n, cnt (fun i => P i || R i) n + cnt (fun i => P i && R i) n = cnt P n + cnt R n
  | 0 => rfl
  | n + 1 => by
    have ih := cnt_orand P R n
    have key : ∀ p r : Bool, (p || r).toNat + (p && r).toNat = p.toNat + r.toNat := by decide
    have k := key (P n) (R n)
    show cnt (fun i => P i || R i) n + (P n || R n).toNat + (cnt (fun i => P i && R i) n + (P n && R n).toNat) = cnt P n + (P n).toNat + (cnt R n + (R n).toNat)
    omega
theorem cnt_sub (P R : Nat → Bool) : ∀ n, cnt (fun i => andn (P i) (R i)) n + cnt (fun i => P i && R i) n = cnt P n
  | 0 => rfl
  | n + 1 => by
    have ih := cnt_sub P R n
    have key : ∀ p r : Bool, (andn p r).toNat + (p && r).toNat = p.toNat := by decide
    have k := key (P n) (R n)
    show cnt (fun i => andn (P i) (R i)) n + (andn (P n) (R n)).toNat + (cnt (fun i => P i && R i) n + (P n && R n).toNat) = cnt P n + (P n).toNat
    omega
theorem cnt_not (P : Nat → Bool) : ∀ n, cnt P n + cnt (fun i => !P i) n = n
  | 0 => rfl
  | n + 1 => by
    have ih := cnt_not P n
    have key : ∀ p : Bool, p.toNat + (!p).toNat = 1 := by decide
    have k := key (P n)
    show cnt P n + (P n).toNat + (cnt (fun i => !P i) n + (!P n).toNat) = n + 1
    omega
theorem cnt_skip {P : Nat → Bool} {n : Nat} : ∀ {d : Nat}, (∀ l, n ≤ l → l < n + d → P l = false) → cnt P (n + d) = cnt P n
  | 0, _ => rfl
  | d + 1, h => by
    have ih := cnt_skip (d := d) fun l h1 h2 => h l h1 (by omega)
    have z := h (n + d) (by omega) (by omega)
    show cnt P (n + d) + (P (n + d)).toNat = cnt P n
    rw [z, ih]
    rfl
theorem cnt_set {C : Addr} {k : Hp} {x : Addr} {P : Nat → Bool} (h : SetAt C k x P) : ∃ nr tn, LenAt C k x nr tn ∧ (∀ n : Nat, inL nr tn (n : Int) = P n) ∧ ∀ n, cntL nr tn n = cnt P n := by
  obtain ⟨nr, tn, l, _, _, e⟩ := h
  exact ⟨nr, tn, l, e, fun n => cnt_congr fun i _ => e i⟩

end NN

namespace NN
open PySem PySem.Spec PyProof.Rows L2 LamX AW ClX
open Tx1 Ln
-- a set that is known at an earlier heap
local macro_rules | `(tactic| walk_at "st") => `(tactic| first
  | assumption
  | ((with_reducible refine' SetAt.ext ?h1 ?h2); (case h1 => assumption); (case h2 => walk_at "st")))
local macro_rules | `(tactic| walk_at "s1") => `(tactic| first
  | ((refine' r_sop _ ?h1 ?h2 (fun _ _ _ _ => ?_)); (case h1 => walk_at "st"); (case h2 => walk_at "st"))
  | ((refine' r_sinv _ ?h1 (fun _ _ _ _ => ?_)); (case h1 => walk_at "st"))
  | ((refine' r_seq _ ?h1 ?h2 ?_); (case h1 => walk_at "st"); (case h2 => walk_at "st"))
  | ((refine' r_sbool _ ?h1 ?_); (case h1 => walk_at "st"))
  | ((refine' r_slt _ ?h1 ?h2 (fun _ _ => ?_)); (case h1 => walk_at "st"); (case h2 => walk_at "st"))
  | ((refine' r_sge _ ?h1 ?h2 (fun _ _ => ?_)); (case h1 => walk_at "st"); (case h2 => walk_at "st"))
  | ((refine' r_sle _ ?h1 ?h2 (fun _ _ => ?_)); (case h1 => walk_at "st"); (case h2 => walk_at "st")))
local macro_rules | `(tactic| walk_at "ss") => `(tactic| repeat (first | walk_at "w1" | walk_at "w2" | dsimp only | walk_at "s1"))
local macro_rules | `(tactic| walk_at "ex") => `(tactic| first
  | exact ext_rf
  | assumption
  | ((with_reducible refine' ext_tr ?h1 ?h2); (case h2 => assumption); (case h1 => walk_at "ex")))

def bNR (C : Addr) : List V → Hp → AK → AXK → Prop := fun vs kn Q _ => ∃ a b P R, vs = [.ref a, .ref b] ∧ SetAt C kn a P ∧ SetAt C kn b R ∧ ∀ k', Ext kn k' → Q (.bl true) k'
theorem mo_NR {C : Addr} : MonoX (bNR C) := by
  rintro vs kn Q R E F h1 h2 ⟨a, b, P, S, e, x, y, h⟩
  exact ⟨a, b, P, S, e, x, y, fun k q => h1 _ _ (h k q)⟩
theorem in_step (P : Nat → Bool) (u : Nat) : (if false = true then !P u else P u) = decide (V.int (cnt P (u + 1) : Nat) = V.int ((cnt P u : Nat) + 1)) := by
  rw [if_neg (by decide)]
  have e : cnt P (u + 1) = cnt P u + (P u).toNat := rfl
  cases h : P u with
  | true => exact (decide_eq_true (by rw [e, h]; rfl)).symm
  | false =>
    refine (decide_eq_false fun z => ?_).symm
    rw [e, h] at z
    have := V.int.inj z
    have t : false.toNat = 0 := rfl
    omega
theorem in_same {P : Nat → Bool} {u k : Nat} (h1 : u ≤ k) (h2 : P k = true) (h3 : ∀ l, u ≤ l → l < k → P l = false) : decide (V.int (k : Nat) = V.int (u : Nat)) = (if false = true then !P u else P u) := by
  rw [if_neg (by decide)]
  cases h : P u with
  | true =>
    refine decide_eq_true ?_
    rcases Nat.lt_or_ge u k with z | z
    · rw [h3 u (Nat.le_refl _) z] at h; cases h
    · rw [Nat.le_antisymm z h1]
  | false =>
    refine decide_eq_false fun z => ?_
    have e := V.int.inj z
    have e : k = u := by omega
    rw [e, h] at h2
    cases h2
theorem in_non {P : Nat → Bool} {u : Nat} (h : P u = false) : decide (V.non = V.int (u : Nat)) = (if false = true then !P u else P u) := by
  rw [if_neg (by decide), h]
  rfl
theorem no_out {X : Prop} {b : Bool} (h : b = true) (z : (if true = true then !b else b) = true) : X := by
  rw [if_pos rfl, h] at z
  cases z
theorem cnt_from {P : Nat → Bool} {u v : Nat} (h1 : u ≤ v) (h : ∀ l, u ≤ l → l < v → P l = false) : cnt P v = cnt P u := by
  obtain ⟨d, rfl⟩ : ∃ d, v = u + d := ⟨v - u, by omega⟩
  exact cnt_skip h
theorem no_neI {X : Prop} {i j : Int} (h : i = j) (z : (!decide (V.int i = V.int j)) = true) : X := by
  subst h
  simp at z
theorem neI_no {i j : Int} (h : i = j) : (!decide (V.int i = V.int j)) = false := by
  subst h
  simp
section
variable {c : Cw} {kn : Hp} {n : Nat} {σ : L2.St} {Q : V → Hp → Nat → Prop} {K : PySem.W.Frag} {mg : Str → Option Value}
theorem w_sbel (T : Tx K mg) {E : XK} {ta : TE} {tA : TA}
    (h : W c (ta σ) kn n fun x kn1 n1 => ∃ a P, x = .ref a ∧ SetAt T.c_Lengths kn1 a P ∧ W c (tA σ) kn1 n1 fun vs kn2 n2 => ∃ m : Nat, vs = [.int m] ∧ SetAt T.c_Lengths kn2 a P ∧ ∀ k', Ext kn2 k' → Q (.int (cnt P m : Nat)) k' n2) : W c (tMeth T.c_Lengths (Str.ofString "below") (liftX (bBel T.c_Lengths)) [] E ta tA σ) kn n Q := by
  refine w_meth (EA := fun _ _ _ _ => False) mo_bel err_no (h.mono fun x kn1 n1 hx => ?_)
  obtain ⟨a, P, rfl, sa, h2⟩ := hx
  obtain ⟨nr, tn, la, lb, lc⟩ := cnt_set sa
  obtain ⟨dx, q1, q2, q3, z1, _⟩ := la.at_
  refine ⟨a, dx, _, rfl, z1, rfl, h2.mono fun vs kn2 n2 hv => ?_⟩
  obtain ⟨m, rfl, sa2, h3⟩ := hv
  obtain ⟨nr2, tn2, la2, lb2, lc2⟩ := cnt_set sa2
  refine ⟨a, nr2, tn2, m, rfl, la2, fun k' e => ?_⟩
  rw [lc2]
  exact h3 k' e
theorem w_satL (T : Tx K mg) {E : XK} {ta : TE} {tA : TA}
    (h : W c (ta σ) kn n fun x kn1 n1 => ∃ a P, x = .ref a ∧ SetAt T.c_Lengths kn1 a P ∧ W c (tA σ) kn1 n1 fun vs kn2 n2 => ∃ m : Nat, vs = [.int m] ∧ SetAt T.c_Lengths kn2 a P ∧
      (∀ k : Nat, m ≤ k → P k = true → (∀ l, m ≤ l → l < k → P l = false) → Q (.int k) kn2 n2) ∧ ((∀ k, m ≤ k → P k = false) → Q .non kn2 n2)) : W c (tMeth T.c_Lengths (Str.ofString "at_least") (liftX (bAtL T.c_Lengths)) [] E ta tA σ) kn n Q := by
  refine w_meth (EA := fun _ _ _ _ => False) mo_atL err_no (h.mono fun x kn1 n1 hx => ?_)
  obtain ⟨a, P, rfl, sa, h2⟩ := hx
  obtain ⟨nr, tn, la, lb, lc⟩ := cnt_set sa
  obtain ⟨dx, q1, q2, q3, z1, _⟩ := la.at_
  refine ⟨a, dx, _, rfl, z1, rfl, h2.mono fun vs kn2 n2 hv => ?_⟩
  obtain ⟨m, rfl, sa2, h3, h4⟩ := hv
  obtain ⟨nr2, tn2, la2, lb2, lc2⟩ := cnt_set sa2
  refine ⟨a, nr2, tn2, m, rfl, la2, fun v hv => ?_⟩
  rcases hv with ⟨k, k1, k2, k3, rfl⟩ | ⟨k1, rfl⟩
  · exact h3 k k1 (by rw [← lb2]; exact k2) fun l l1 l2 => by rw [← lb2]; exact k3 l l1 l2
  · exact h4 fun k z => by rw [← lb2]; exact k1 k z
theorem r_shas (T : Tx K mg) {a : Addr} {P : Nat → Bool} {m : Nat} {neg : Bool} (ha : SetAt T.c_Lengths kn a P) (q : Q (.bl (if neg then !P m else P m)) kn n) : W c (rInO T.c_Lengths (liftX (bHas K T.c_Lengths)) neg (.int m) (.ref a)) kn n Q := by
  obtain ⟨nr, tn, la, lb, lc⟩ := cnt_set ha
  refine r_hasL la ?_
  rw [lb]
  exact q
theorem w_sfinG (T : Tx K mg) {E : XK} {ta : TE} (h : W c (ta σ) kn n fun x k1 n1 => ∃ a P, x = .ref a ∧ SetAt T.c_Lengths k1 a P ∧ ∀ b : Bool, (b = true ↔ ∃ m, ∀ k, m ≤ k → P k = false) → Q (.bl b) k1 n1) : W c (tProp T.c_Lengths (liftX (bFin T.c_Lengths)) [] E ta σ) kn n Q := by
  refine w_prop mo_fin (h.mono fun x k1 n1 hx => ?_)
  obtain ⟨a, P, rfl, ha, q⟩ := hx
  obtain ⟨nr, tn, la, lb, lc⟩ := cnt_set ha
  obtain ⟨dx, q1, q2, q3, a1, a2, a3, a4⟩ := la.at_
  refine ⟨a, dx, _, rfl, a1, _, _, _, rfl, la, q _ ?_⟩
  have tp := la.form.pos
  rw [List.isEmpty_iff]
  constructor
  · intro z
    refine ⟨nr.length, fun k hk => ?_⟩
    rw [← lb, inL_nat, if_neg (by omega)]
    cases e : ix tn (k % tn.length) with
    | false => rfl
    | true =>
      have : k % tn.length ∈ idx tn := mem_idx.2 ⟨Nat.mod_lt _ tp, e⟩
      rw [z] at this
      cases this
  · rintro ⟨m, hm⟩
    refine List.eq_nil_iff_forall_not_mem.2 fun x hx => ?_
    obtain ⟨x1, x2⟩ := mem_idx.1 hx
    have := hm (x + (nr.length + m) * tn.length) (by have := Nat.le_mul_of_pos_right (nr.length + m) tp; omega)
    rw [← lb, inL_nat, if_neg (by have := Nat.le_mul_of_pos_right (nr.length + m) tp; omega), Nat.add_mul_mod_self_right, Nat.mod_eq_of_lt x1, x2] at this
    cases this
theorem w_sfin (T : Tx K mg) {E : XK} {i : Nat} {a : Addr} {P : Nat → Bool} (hv : σ[i]? = some (some (.ref a))) (ha : SetAt T.c_Lengths kn a P) (q : ∀ b : Bool, (b = true ↔ ∃ m, ∀ k, m ≤ k → P k = false) → Q (.bl b) kn n) : W c (tProp T.c_Lengths (liftX (bFin T.c_Lengths)) [] E (tVar i) σ) kn n Q :=
  w_sfinG T (w_var hv ⟨a, P, rfl, ha, q⟩)
end
-- below of a set
local macro_rules | `(tactic| walk_at "sb") => `(tactic| first
  | refine' w_sbel _ ?_
  | ((refine' ⟨_, _, rfl, ?h1, ?_⟩); (case h1 => walk_at "st"))
  | ((refine' ⟨_, rfl, ?h1, fun _ (_ : Ext _ _) => ?_⟩); (case h1 => walk_at "st"))
  | ((refine' r_shas _ ?h1 ?_); (case h1 => walk_at "st"))
  | walk_at "w1" | dsimp only | walk_at "s1")
local macro_rules | `(tactic| walk_at "sn") => `(tactic| repeat (walk_at "sb"))
section
variable {P : Program} {w : World} {K : PySem.W.Frag} {mg : Str → Option Value} {base : Heap}
theorem ok__law_numbers_right (T : Tx K mg) : FnOk P w K mg base CX0 13 T.f__law_numbers_right T.d__law_numbers_right ["pen", "one", "other"] (liftP [] 3 (bNR T.c_Lengths)) := by
  refine T.F__law_numbers_right.ok sc__law_numbers_right (fun vs H Q E h => ?_) (fun cdv A outer s H vs Q E hr h => ?_)
  · obtain ⟨p, a, ns, n, kn, ws, rfl, _, _, a1, b1, _, _, rfl, _⟩ := h
    rfl
  · obtain ⟨p, a, ns, n, kn, ws, rfl, g, hn, x1, x2, PA, PB, rfl, sa, sb, h⟩ := h
    refine ⟨_, (pss_cons (ps_for PassesOwn.never rfl (pi_list (pe_call (ok__law_far T) (hr.mono (by decide)) (by rfl) T.g__law_far T.F__law_far.kp T.bd__law_far .nil pass0 (pa_cons (pv 0) pa_nil))) (pg_name (i := 3) sc__law_numbers_right.nd rfl (by first | exact Or.inl rfl | exact Or.inr rfl))
       (pss_cons (ps_par (i := 4) (j := 5) (by rfl) sc__law_numbers_right.nd rfl rfl (by decide) rfl rfl (pa_cons (pe_meth (pv 1) T.cl_Lengths T.me_Lengths_below (ok_Lengths_below T) (hr.mono (by decide)) T.bd_Lengths_below .nil pass0 (pa_cons (pv 3) pa_nil)) (pa_cons (pe_meth (pv 2) T.cl_Lengths T.me_Lengths_below (ok_Lengths_below T) (hr.mono (by decide)) T.bd_Lengths_below .nil pass0 (pa_cons (pv 3) pa_nil)) pa_nil)) (by rfl))
       (pss_cons (ps_set (i := 6) sc__law_numbers_right.nd rfl (by first | exact Or.inl rfl | exact Or.inr rfl) (pe_meth (pe_op (op_own T.op_Lengths_and (ok_Lengths___and__ T) (hr.mono (by decide)) T.bd_Lengths___and__ pass0) (pv 1) (pv 2)) T.cl_Lengths T.me_Lengths_below (ok_Lengths_below T) (hr.mono (by decide)) T.bd_Lengths_below .nil pass0 (pa_cons (pv 3) pa_nil)))
       (pss_cons (ps_if (PW.pt (pw_or (pt_cmpR op_ne (pe_meth (pe_op (op_own T.op_Lengths_or (ok_Lengths___or__ T) (hr.mono (by decide)) T.bd_Lengths___or__ pass0) (pv 1) (pv 2)) T.cl_Lengths T.me_Lengths_below (ok_Lengths_below T) (hr.mono (by decide)) T.bd_Lengths_below .nil pass0 (pa_cons (pv 3) pa_nil)) (pe_op op_sub (pe_op op_add (pv 4) (pv 5)) (pv 6)) (nomark _)) (pw_or1 (pt_cmpR op_ne (pe_meth (pe_op (op_own T.op_Lengths_sub (ok_Lengths___sub__ T) (hr.mono (by decide)) T.bd_Lengths___sub__ pass0) (pv 1) (pv 2)) T.cl_Lengths T.me_Lengths_below (ok_Lengths_below T) (hr.mono (by decide)) T.bd_Lengths_below .nil pass0 (pa_cons (pv 3) pa_nil)) (pe_op op_sub (pv 4) (pv 6)) (nomark _)))))
       (pss_one (ps_ret pe_bl))
       pss_nil)
       (pss_cons (ps_if (pt_cmpR op_ne (pe_op op_add (pv 4) (pe_meth (pe_un (un_invO T.fi_Lengths___invert__ T.isf_Lengths___invert__ (ok_Lengths___invert__ T) (hr.mono (by decide)) T.bd_Lengths___invert__ pass0) (pv 1)) T.cl_Lengths T.me_Lengths_below (ok_Lengths_below T) (hr.mono (by decide)) T.bd_Lengths_below .nil pass0 (pa_cons (pv 3) pa_nil))) (pv 3) (nomark _))
       (pss_one (ps_ret pe_bl))
       pss_nil)
       (pss_cons (ps_set (i := 7) sc__law_numbers_right.nd rfl (by first | exact Or.inl rfl | exact Or.inr rfl) (pe_meth (pv 1) T.cl_Lengths T.me_Lengths_at_least (ok_Lengths_at_least T) (hr.mono (by decide)) T.bd_Lengths_at_least .nil pass0 (pa_cons (pv 3) pa_nil)))
       (pss_cons (ps_if (PW.pt (pw_or (pt_cmpR op_ne (pe_cmpR (op_inO T.sm_Lengths___contains__ (ok_Lengths___contains__ T) (hr.mono (by decide)) T.bd_Lengths___contains__ pass0) (pv 3) (pv 1) (by rfl)) (pe_cmpR op_eq (pe_meth (pv 1) T.cl_Lengths T.me_Lengths_below (ok_Lengths_below T) (hr.mono (by decide)) T.bd_Lengths_below .nil pass0 (pa_cons (pe_op op_add (pv 3) pe_int) pa_nil)) (pe_op op_add (pe_meth (pv 1) T.cl_Lengths T.me_Lengths_below (ok_Lengths_below T) (hr.mono (by decide)) T.bd_Lengths_below .nil pass0 (pa_cons (pv 3) pa_nil)) pe_int) (nomark _)) (nomark _)) (pw_or1 (pt_cmpR op_ne (pe_cmpR op_eq (pv 7) (pv 3) (nomark _)) (pe_cmpR (op_inO T.sm_Lengths___contains__ (ok_Lengths___contains__ T) (hr.mono (by decide)) T.bd_Lengths___contains__ pass0) (pv 3) (pv 1) (by rfl)) (nomark _)))))
       (pss_one (ps_ret pe_bl))
       pss_nil)
       (pss_cons (ps_if (PW.pt (pw_and (pt_cmpR c_notN (pv 7) pe_non (nomark _)) (pw_and1 (PW.pt (pw_or (pt_cmpR (op_notInO T.sm_Lengths___contains__ (ok_Lengths___contains__ T) (hr.mono (by decide)) T.bd_Lengths___contains__ pass0) (pv 7) (pv 1) (by rfl)) (pw_or1 (pt_cmpR op_ne (pe_meth (pv 1) T.cl_Lengths T.me_Lengths_below (ok_Lengths_below T) (hr.mono (by decide)) T.bd_Lengths_below .nil pass0 (pa_cons (pv 7) pa_nil)) (pe_meth (pv 1) T.cl_Lengths T.me_Lengths_below (ok_Lengths_below T) (hr.mono (by decide)) T.bd_Lengths_below .nil pass0 (pa_cons (pv 3) pa_nil)) (nomark _))))))))
       (pss_one (ps_ret pe_bl))
       pss_nil)
       (pss_one (ps_if (PW.pt (pw_and (pt_cmpR c_isN (pv 7) pe_non (nomark _)) (pw_and1 (PW.pt (pw_or (pt_not (pt_val (pe_prop (pv 1) T.cl_Lengths T.pp_Lengths_is_finite (ok_Lengths_is_finite T) (hr.mono (by decide)) T.bd_Lengths_is_finite .nil pass0 (by rfl)))) (pw_or1 (pt_cmpR op_ne (pe_meth (pv 1) T.cl_Lengths T.me_Lengths_below (ok_Lengths_below T) (hr.mono (by decide)) T.bd_Lengths_below .nil pass0 (pa_cons (pv 3) pa_nil)) (pe_meth (pv 1) T.cl_Lengths T.me_Lengths_below (ok_Lengths_below T) (hr.mono (by decide)) T.bd_Lengths_below .nil pass0 (pa_cons (pe_op op_add (pv 3) (pe_op op_pow pe_int pe_int)) pa_nil)) (nomark _))))))))
       (pss_one (ps_ret pe_bl))
       pss_nil))))))))))
       (pss_one (ps_ret pe_bl))), ?_⟩
    refine body_of g ?_
    refine s_seq (s_forJ (i_list ?_))
    walk_at "w"
    refine w_callP mo_far err_no ?_
    walk_at "w"
    refine ⟨by omega, rfl, fun l k1 f1 f2 f3 e1 fl => ?_⟩
    refine ⟨l, _, rfl, fl, ?_⟩
    refine ⟨_, _, fun j σ' k m => m = n + 3 ∧ Ext k1 k ∧ ∃ y1 y2 y3 y4 y5, σ' = [some (.ref p), some (.ref x1), some (.ref x2), y1, y2, y3, y4, y5], gives_lst, ⟨rfl, ext_rf, _, _, _, _, _, rfl⟩, fun j σ' k m hh => hh.2.1 _ _ fl, ?_, ?_⟩
    · rintro j x σ' k m hj ⟨rfl, ek, y1, y2, y3, y4, y5, rfl⟩
      rw [List.getElem?_map] at hj
      obtain ⟨u, hu, rfl⟩ := Option.map_eq_some_iff.1 hj
      walk_at "sn"
      refine ⟨_, _, rfl, ?_⟩
      walk_at "sn"
      refine s_if (W.mono (Q := fun b k' m => b = false ∧ Ext k k' ∧ m = n + 3) ?_ fun b k6 m ⟨eb, e6, em⟩ => ?_)
      · walk_at "sn"
        refine ⟨fun _ => ?_, fun z => no_neI (by have := cnt_orand PA PB u; omega) z⟩
        walk_at "sn"
        refine ⟨neI_no (by have := cnt_sub PA PB u; omega), ?_, rfl⟩
        walk_at "ex"
      subst eb em
      refine ⟨(fun z => nomatch z), fun _ => s_next ?_⟩
      refine s_seq (s_if (W.mono (Q := fun b k' m => b = false ∧ Ext k k' ∧ m = n + 3) ?_ fun b k7 m ⟨eb, e7, em⟩ => ?_))
      · walk_at "sn"
        refine ⟨neI_no (by have := cnt_not PA u; omega), ?_, rfl⟩
        walk_at "ex"
      subst eb em
      refine ⟨(fun z => nomatch z), fun _ => s_next ?_⟩
      walk_at "w"
      refine w_satL T ?_
      walk_at "sn"
      refine ⟨SetAt.ext (ext_tr e1 (ext_tr ek e7)) sa, fun v v1 v2 v3 => ?_, fun v1 => ?_⟩
      · walk_at "sn"
        refine s_if (W.mono (Q := fun b k' m => b = false ∧ Ext k k' ∧ m = n + 3) ?_ fun b k8 m ⟨eb, e8, em⟩ => ?_)
        · walk_at "sn"
          refine ⟨fun _ => ?_, fun z => no_nb (in_step PA u) z⟩
          walk_at "sn"
          refine ⟨nb_no (in_same v1 v2 v3), ?_, rfl⟩
          walk_at "ex"
        subst eb em
        refine ⟨(fun z => nomatch z), fun _ => s_next ?_⟩
        refine s_seq (s_if (W.mono (Q := fun b k' m => b = false ∧ Ext k k' ∧ m = n + 3) ?_ fun b k9 m ⟨eb, e9, em⟩ => ?_))
        · walk_at "sn"
          refine r_notN ?_
          walk_at "sn"
          refine ⟨fun _ => ?_, fun _ => ⟨rfl, e8, rfl⟩⟩
          walk_at "sn"
          refine ⟨fun _ => ?_, fun z => no_out v2 z⟩
          walk_at "sn"
          refine ⟨neI_no (by rw [cnt_from v1 v3]), ?_, rfl⟩
          walk_at "ex"
        subst eb em
        refine ⟨(fun z => nomatch z), fun _ => s_next ?_⟩
        refine s_if (W.mono (Q := fun b k' m => b = false ∧ Ext k k' ∧ m = n + 3) ?_ fun b k10 m ⟨eb, e10, em⟩ => ?_)
        · walk_at "sn"
          refine r_isN ?_
          walk_at "sn"
          refine ⟨fun z => (by cases z), fun _ => ⟨rfl, e9, rfl⟩⟩
        subst eb em
        refine ⟨(fun z => nomatch z), fun _ => s_next ?_⟩
        exact ⟨rfl, ext_tr ek e10, _, _, _, _, _, rfl⟩
      · walk_at "sn"
        refine s_if (W.mono (Q := fun b k' m => b = false ∧ Ext k k' ∧ m = n + 3) ?_ fun b k8 m ⟨eb, e8, em⟩ => ?_)
        · walk_at "sn"
          refine ⟨fun _ => ?_, fun z => no_nb (in_step PA u) z⟩
          walk_at "sn"
          refine ⟨nb_no (in_non (v1 u (Nat.le_refl _))), ?_, rfl⟩
          walk_at "ex"
        subst eb em
        refine ⟨(fun z => nomatch z), fun _ => s_next ?_⟩
        refine s_seq (s_if (W.mono (Q := fun b k' m => b = false ∧ Ext k k' ∧ m = n + 3) ?_ fun b k9 m ⟨eb, e9, em⟩ => ?_))
        · walk_at "sn"
          refine r_notN ?_
          walk_at "sn"
          refine ⟨fun z => (by cases z), fun _ => ⟨rfl, e8, rfl⟩⟩
        subst eb em
        refine ⟨(fun z => nomatch z), fun _ => s_next ?_⟩
        refine s_if (W.mono (Q := fun b k' m => b = false ∧ Ext k k' ∧ m = n + 3) ?_ fun b k10 m ⟨eb, e10, em⟩ => ?_)
        · walk_at "sn"
          refine w_sfin T rfl (SetAt.ext (ext_tr e1 (ext_tr ek e9)) sa) fun bf hf => ?_
          have hb := hf.2 ⟨u, v1⟩
          subst hb
          walk_at "sn"
          refine r_I ⟨by decide, by decide, by decide⟩ (r_I0 (w_nil ⟨u + 10 ^ 30, by rw [Int.natCast_add]; rfl, by walk_at "st", fun k' e' => ?_⟩))
          walk_at "sn"
          refine ⟨neI_no (by rw [cnt_from (Nat.le_add_right u (10 ^ 30)) fun l z _ => v1 l z]), ?_, rfl⟩
          walk_at "ex"
        subst eb em
        refine ⟨(fun z => nomatch z), fun _ => s_next ?_⟩
        exact ⟨rfl, ext_tr ek e10, _, _, _, _, _, rfl⟩
    · rintro σ' k m ⟨rfl, ek, y1, y2, y3, y4, y5, rfl⟩
      walk_at "wi"
      exact h _ (ext_tr e1 ek)
end

end NN

namespace NN
open PySem PySem.Spec PyProof.Rows L2 LamX AW ClX
open Tx1 Ln
/-! ### a set is put together again: pure facts -/
theorem SetAt.cg {C : Addr} {k : Hp} {x : Addr} {P R : Nat → Bool} (h : SetAt C k x P) (e : ∀ n, P n = R n) : SetAt C k x R := by
  obtain ⟨nr, tn, a, b, d, i⟩ := h
  exact ⟨nr, tn, a, b, d, fun n => (i n).trans (e n)⟩
theorem full_or (tn : List Bool) : (idx tn).length < tn.length ∧ (∃ i, i < tn.length ∧ ix tn i = false) ∨ (¬ (idx tn).length < tn.length ∧ ∀ i, i < tn.length → ix tn i = true) := by
  by_cases h : ∀ i, i < tn.length → ix tn i = true
  · refine .inr ⟨?_, h⟩
    have : idx tn = List.range tn.length := List.filter_eq_self.2 fun i hi => h i (List.mem_range.1 hi)
    rw [this, List.length_range]
    omega
  · obtain ⟨i, hi⟩ := Classical.not_forall.1 h
    obtain ⟨h1, h2⟩ := Classical.not_imp.1 hi
    refine .inl ⟨?_, i, h1, by simpa using h2⟩
    rcases Nat.lt_or_ge (idx tn).length tn.length with z | z
    · exact z
    · exfalso
      have l : (idx tn).length = (List.range tn.length).length := Nat.le_antisymm (List.length_filter_le _ _) (by rw [List.length_range]; exact z)
      exact h2 (List.length_filter_eq_length_iff.1 l i (List.mem_range.2 h1))
theorem gap_cases {nr tn : List Bool} (F : Form nr tn) : (gapV nr tn = .non ∧ ∀ m : Nat, ∃ k : Nat, m ≤ k ∧ inL nr tn (k : Int) = false) ∨
    (gapV nr tn = .int ((nr.length : Int) - 1) ∧ (∀ k : Nat, nr.length ≤ k → inL nr tn (k : Int) = true) ∧ (0 < nr.length → inL nr tn ((nr.length : Int) - 1) = false)) := by
  have tp := F.pos
  unfold gapV
  rcases full_or tn with ⟨h1, i, h2, h3⟩ | ⟨h1, h2⟩
  · rw [if_pos h1]
    refine .inl ⟨rfl, fun m => ⟨i + (nr.length + m) * tn.length, ?_, ?_⟩⟩
    · have := Nat.le_mul_of_pos_right (nr.length + m) tp; omega
    · rw [inL_nat, if_neg (by have := Nat.le_mul_of_pos_right (nr.length + m) tp; omega), Nat.add_mul_mod_self_right, Nat.mod_eq_of_lt h2, h3]
  · rw [if_neg h1]
    refine .inr ⟨rfl, fun k hk => ?_, fun hp => ?_⟩
    · rw [inL_nat, if_neg (by omega)]
      exact h2 _ (Nat.mod_lt _ tp)
    · have b := F.beg hp
      rw [h2 _ (Nat.mod_lt _ tp)] at b
      rw [show ((nr.length : Int) - 1) = ((nr.length - 1 : Nat) : Int) by omega, inL_nat, if_pos (by omega)]
      simpa using b
theorem every_form {nr tn : List Bool} (F : Form nr tn) (h0 : nr.length = 0) (h : ∀ k : Nat, nr.length ≤ k → inL nr tn (k : Int) = true) : nr = [] ∧ tn = [true] := by
  refine form_uniq F ⟨by decide, by decide, fun z => absurd z (by decide), by decide⟩ fun n => ?_
  rw [h n (by omega), inL_nat, if_neg (show ¬ n < ([] : List Bool).length from Nat.not_lt_zero n)]
  show true = ix [true] (n % 1)
  rw [Nat.mod_one]
  rfl
theorem one_begin {s p r : Nat} (hr : r < p) : ∃ x xs, ((List.range p).map (s + ·)).filter (fun n => decide (n % p = r)) = x :: xs ∧ s ≤ x ∧ x < s + p ∧ x % p = r := by
  have hm : s + (r + p - s % p) % p ∈ ((List.range p).map (s + ·)).filter (fun n => decide (n % p = r)) := by
    refine List.mem_filter.2 ⟨List.mem_map.2 ⟨(r + p - s % p) % p, List.mem_range.2 (Nat.mod_lt _ (by omega)), rfl⟩, decide_eq_true ?_⟩
    have h1 := Nat.mod_lt s (show p > 0 by omega)
    rw [Nat.add_mod_mod]
    have e : s + (r + p - s % p) = r + p * (s / p + 1) := by
      have := Nat.mod_add_div s p
      rw [Nat.mul_succ]
      omega
    rw [e, Nat.add_mul_mod_self_left, Nat.mod_eq_of_lt hr]
  cases e : ((List.range p).map (s + ·)).filter (fun n => decide (n % p = r)) with
  | nil => rw [e] at hm; cases hm
  | cons x xs =>
    have hx : x ∈ ((List.range p).map (s + ·)).filter (fun n => decide (n % p = r)) := by rw [e]; exact .head _
    obtain ⟨h1, h2⟩ := List.mem_filter.1 hx
    obtain ⟨i, hi, rfl⟩ := List.mem_map.1 h1
    have hi := List.mem_range.1 hi
    exact ⟨_, _, rfl, Nat.le_add_right _ _, by omega, of_decide_eq_true h2⟩
theorem mod_between {i x p : Nat} (h1 : i < x) (h2 : x < i + p) : i % p ≠ x % p := fun e => by
  have hp : 0 < p := by omega
  have a := Nat.mod_add_div i p
  have b := Nat.mod_add_div x p
  rw [e] at a
  rcases Nat.lt_or_ge (i / p) (x / p) with z | z
  · have := Nat.mul_le_mul_left p (show i / p + 1 ≤ x / p from z)
    rw [Nat.mul_succ] at this
    omega
  · have := Nat.mul_le_mul_left p z
    omega
theorem set_steps {C : Addr} {k : Hp} {x : Addr} {b p s : Nat} (l : LenAt C k x (formN b p [] [b % p]) (formT p [b % p])) (hp : 1 ≤ p) (hs : s ≤ 20) (hb : b < s + p) (hd : p ∣ 12) : SetAt C k x (fun n => decide (b ≤ n) && decide (n % p = b % p)) := by
  have key : ∀ n : Nat, inL (formN b p [] [b % p]) (formT p [b % p]) (n : Int) = (decide (b ≤ n) && decide (n % p = b % p)) := fun n => by
    rw [inL_args hp]
    by_cases z : n < b
    · rw [if_pos z, decide_eq_false (show ¬ b ≤ n by omega)]
      rfl
    · rw [if_neg z, decide_eq_true (show b ≤ n by omega), Bool.true_and]
      simp
  obtain ⟨w1, w2⟩ := form_within l.form (b := s) (L := p) hp fun n hn => by
    rw [key, key, Nat.add_mod_right, decide_eq_true (show b ≤ n + p by omega), Bool.true_and]
    by_cases z : b ≤ n
    · rw [decide_eq_true z, Bool.true_and]
    · rw [decide_eq_false z, Bool.false_and, decide_eq_false (mod_between (by omega) (by omega))]
  exact ⟨_, _, l, by omega, Nat.dvd_trans w2 hd, key⟩
theorem take_dec {xs : List Nat} {j y : Nat} (h : xs[j]? = some y) (i : Nat) : decide (i ∈ xs.take (j + 1)) = (decide (i ∈ xs.take j) || decide (i = y)) := by
  rw [List.take_add_one, h]
  rw [Bool.eq_iff_iff, Bool.or_eq_true, decide_eq_true_eq, decide_eq_true_eq, decide_eq_true_eq, List.mem_append]
  simp
theorem low_step {xs : List Nat} {j y : Nat} (h : xs[j]? = some y) (i : Nat) : (decide (i ∈ xs.take j) || decide (i ∈ [y])) = decide (i ∈ xs.take (j + 1)) := by
  rw [take_dec h]
  congr 1
  simp
theorem rest_step {P : Nat → Bool} {xs : List Nat} {j y x s p : Nat} (h : xs[j]? = some y) (h1 : s ≤ x) (h2 : x < s + p) (h3 : x % p = y) (i : Nat) :
    ((P i || (decide (s ≤ i) && decide (i % p ∈ xs.take j))) || (decide (x ≤ i) && decide (i % p = x % p))) = (P i || (decide (s ≤ i) && decide (i % p ∈ xs.take (j + 1)))) := by
  rw [take_dec h, h3]
  by_cases z : s ≤ i
  · by_cases e : i % p = y
    · have : x ≤ i := by
        rcases Nat.lt_or_ge i x with q | q
        · exact absurd (e.trans h3.symm) (mod_between q (by omega))
        · exact q
      rw [decide_eq_true z, decide_eq_true e, decide_eq_true this]
      cases P i <;> cases decide (i % p ∈ List.take j xs) <;> rfl
    · rw [decide_eq_false e, Bool.and_false, Bool.or_false, Bool.or_false]
  · rw [decide_eq_false z, decide_eq_false (show ¬ x ≤ i by omega), Bool.false_and, Bool.false_and, Bool.false_and]
    simp
theorem all_made {nr tn : List Bool} (F : Form nr tn) (i : Nat) : (decide (i ∈ idx nr) || (decide (nr.length ≤ i) && decide (i % tn.length ∈ (idx tn).take (idx tn).length))) = inL nr tn (i : Int) := by
  rw [List.take_length, inL_nat]
  by_cases z : i < nr.length
  · rw [if_pos z, decide_eq_false (show ¬ nr.length ≤ i by omega), Bool.false_and, Bool.or_false]
    rw [Bool.eq_iff_iff, decide_eq_true_eq, mem_idx]
    exact ⟨fun h => h.2, fun h => ⟨z, h⟩⟩
  · rw [if_neg z, decide_eq_true (show nr.length ≤ i by omega), Bool.true_and, decide_eq_false (fun h => z (mem_idx.1 h).1), Bool.false_or]
    rw [Bool.eq_iff_iff, decide_eq_true_eq, mem_idx]
    exact ⟨fun h => h.2, fun h => ⟨Nat.mod_lt _ F.pos, h⟩⟩

end NN

namespace NN
open PySem PySem.Spec PyProof.Rows L2 LamX AW ClX
open Tx1 Ln
-- a set that is known at an earlier heap
local macro_rules | `(tactic| walk_at "st") => `(tactic| first
  | assumption
  | ((with_reducible refine' SetAt.ext ?h1 ?h2); (case h1 => assumption); (case h2 => walk_at "st")))
local macro_rules | `(tactic| walk_at "s1") => `(tactic| first
  | ((refine' r_sop _ ?h1 ?h2 (fun _ _ _ _ => ?_)); (case h1 => walk_at "st"); (case h2 => walk_at "st"))
  | ((refine' r_sinv _ ?h1 (fun _ _ _ _ => ?_)); (case h1 => walk_at "st"))
  | ((refine' r_seq _ ?h1 ?h2 ?_); (case h1 => walk_at "st"); (case h2 => walk_at "st"))
  | ((refine' r_sbool _ ?h1 ?_); (case h1 => walk_at "st"))
  | ((refine' r_slt _ ?h1 ?h2 (fun _ _ => ?_)); (case h1 => walk_at "st"); (case h2 => walk_at "st"))
  | ((refine' r_sge _ ?h1 ?h2 (fun _ _ => ?_)); (case h1 => walk_at "st"); (case h2 => walk_at "st"))
  | ((refine' r_sle _ ?h1 ?h2 (fun _ _ => ?_)); (case h1 => walk_at "st"); (case h2 => walk_at "st")))
local macro_rules | `(tactic| walk_at "ss") => `(tactic| repeat (first | walk_at "w1" | walk_at "w2" | dsimp only | walk_at "s1"))
local macro_rules | `(tactic| walk_at "ex") => `(tactic| first
  | exact ext_rf
  | assumption
  | ((with_reducible refine' ext_tr ?h1 ?h2); (case h2 => assumption); (case h1 => walk_at "ex")))

def bPR (C : Addr) : List V → Hp → AK → AXK → Prop := fun vs kn Q _ => ∃ a P, vs = [.ref a] ∧ SetAt C kn a P ∧ ∀ k', Ext kn k' → Q (.bl true) k'
theorem mo_PR {C : Addr} : MonoX (bPR C) := by
  rintro vs kn Q R E F h1 h2 ⟨a, P, e, x, h⟩
  exact ⟨a, P, e, x, fun k q => h1 _ _ (h k q)⟩
section
variable {c : Cw} {kn : Hp} {n : Nat} {σ : L2.St} {Q : V → Hp → Nat → Prop} {K : PySem.W.Frag} {mg : Str → Option Value}
theorem w_gapS {C : Addr} {E : XK} {i : Nat} {a : Addr} {nr tn : List Bool} (hv : σ[i]? = some (some (.ref a))) (l : LenAt C kn a nr tn) (q : Q (gapV nr tn) kn n) : W c (tProp C (liftX (bGap C)) [] E (tVar i) σ) kn n Q := by
  obtain ⟨dx, q1, q2, q3, a1, a2, a3, a4⟩ := l.at_
  exact w_prop mo_gap (w_var hv ⟨a, dx, _, rfl, a1, _, nr, tn, rfl, l, q⟩)
theorem w_lcRng2 {tA : TA} {tt : TT} {m s L : Nat} {pr : Nat → Bool} (hte : ∀ R : List V → Hp → Nat → Prop, R [.int s, .int ((s : Int) + (L : Int))] kn n → W c (tA σ) kn n R) (hs : s ≤ 1000) (hL : L ≤ 1000)
    (h9 : ∀ v : V, ((wipe σ [m]).set m (some v))[m]? = some (some v)) (hw : ∀ v : V, wipe ((wipe σ [m]).set m (some v)) [m] = wipe σ [m])
    (ht : ∀ (i : Nat) (k : Hp) (R : Bool → Hp → Nat → Prop), Ext kn k → R (pr i) k n → W c (tt ((wipe σ [m]).set m (some (.int (i : Int))))) k n R)
    (hq : ∀ D, kn D = none → Q (.ref D) (upd kn D (.lst (natV (((List.range L).map (s + ·)).filter pr)))) n) :
    W c (tLc (iRng2 tA) (gName m) tt (tVar m) [m] σ) kn n Q := by
  refine w_lcP (i_rng2 (hte _ ⟨s, (s : Int) + (L : Int), rfl, by omega, ?_⟩))
  rw [show ((s : Int) + (L : Int) - (s : Int)).toNat = L by omega]
  refine ⟨_, (fun _ => True), (fun v => v), (fun v => match v with | .int i => pr i.toNat | _ => false), gives_rng, by rw [List.length_map, List.length_range]; omega, fun _ _ => trivial, fun x hx k ek => ?_, fun D hD => ?_⟩
  · obtain ⟨i, hm, rfl⟩ := List.mem_map.1 hx
    rw [← Int.natCast_add]
    refine g_name ⟨rfl, rfl, hw _, ?_⟩
    exact ht (s + i) k _ ek ⟨rfl, rfl, rfl, fun _ => w_var (h9 _) ⟨rfl, rfl, rfl⟩⟩
  · rw [List.map_id']
    have e : ((List.range L).map fun i => V.int ((s : Int) + (i : Nat))) = natV ((List.range L).map (s + ·)) := by
      unfold natV
      rw [List.map_map]
      refine List.map_congr_left fun i _ => ?_
      show V.int _ = V.int ((s + i : Nat) : Int)
      rw [Int.natCast_add]
    rw [e]
    unfold natV
    rw [List.filter_map]
    exact hq D hD
end
section
variable {P : Program} {w : World} {K : PySem.W.Frag} {mg : Str → Option Value} {base : Heap}
theorem ok__law_parts_right (T : Tx K mg) : FnOk P w K mg base CX0 13 T.f__law_parts_right T.d__law_parts_right ["one"] (liftX (bPR T.c_Lengths)) := by
  refine T.F__law_parts_right.ok sc__law_parts_right (fun vs H Q E h => ?_) (fun cdv A outer s H vs Q E hr h => ?_)
  · obtain ⟨kn, _, _, a, _, rfl, _⟩ := h
    rfl
  · obtain ⟨kn, ex, nt, x1, PA, rfl, sa, h⟩ := h
    obtain ⟨nr, tn, la, l20, l12, hin⟩ := id sa
    refine ⟨_, (pss_cons (ps_if (PW.pt (pw_or (pt_cmpR (op_neO T.eq_Lengths (ok_Lengths___eq__ T) (hr.mono (by decide)) T.bd_Lengths___eq__ pass0) (pe_make T.mk_Lengths (ok_Lengths___init__ T) (hr.mono (by decide)) (by rfl) T.g_Lengths (Classical.choose_spec T.bd4_Lengths).2 (Classical.choose_spec T.bd4_Lengths).1 pass0 (pa_cons (pe_prop (pv 0) T.cl_Lengths T.pp_Lengths_start (ok_Lengths_start T) (hr.mono (by decide)) T.bd_Lengths_start .nil pass0 (by rfl)) (pa_cons (pe_prop (pv 0) T.cl_Lengths T.pp_Lengths_low (ok_Lengths_low T) (hr.mono (by decide)) T.bd_Lengths_low .nil pass0 (by rfl)) (pa_cons (pe_prop (pv 0) T.cl_Lengths T.pp_Lengths_period (ok_Lengths_period T) (hr.mono (by decide)) T.bd_Lengths_period .nil pass0 (by rfl)) (pa_cons (pe_prop (pv 0) T.cl_Lengths T.pp_Lengths_rests (ok_Lengths_rests T) (hr.mono (by decide)) T.bd_Lengths_rests .nil pass0 (by rfl)) pa_nil))))) (pv 0) (nomark _)) (pw_or1 (pt_cmpR (op_neO T.eq_Lengths (ok_Lengths___eq__ T) (hr.mono (by decide)) T.bd_Lengths___eq__ pass0) (pe_cmeth (pe_glob (v := .ref T.c_Lengths) (by rfl) T.g_Lengths rfl) T.cr_Lengths T.cm_Lengths_read (oR_Lengths_read T) (hr.mono (by decide)) pass0 (pa_cons (pe_callTy (c_strO T.sm_Lengths___str__ (ok_Lengths___str__ T) (hr.mono (by decide)) T.bd_Lengths___str__ pass0) (by rfl) T.b_str (by decide +kernel) (pa_cons (pv 0) pa_nil)) pa_nil)) (pv 0) (nomark _)))))
       (pss_one (ps_ret pe_bl))
       pss_nil)
       (pss_cons (ps_set (i := 1) sc__law_parts_right.nd rfl (by first | exact Or.inl rfl | exact Or.inr rfl) (pe_smeth0 (pe_glob (v := .ref T.c_Lengths) (by rfl) T.g_Lengths rfl) T.cr_Lengths T.sme_Lengths_none (oR_Lengths_none T) (hr.mono (by decide)) pass0))
       (pss_cons (ps_for PassesOwn.never rfl (pi_tup (pe_prop (pv 0) T.cl_Lengths T.pp_Lengths_low (ok_Lengths_low T) (hr.mono (by decide)) T.bd_Lengths_low .nil pass0 (by rfl))) (pg_name (i := 2) sc__law_parts_right.nd rfl (by first | exact Or.inl rfl | exact Or.inr rfl))
       (pss_one (ps_aug (i := 1) sc__law_parts_right.nd rfl (by first | exact Or.inl rfl | exact Or.inr rfl) (pe_smeth (pe_glob (v := .ref T.c_Lengths) (by rfl) T.g_Lengths rfl) T.cr_Lengths T.sme_Lengths_of (oR_Lengths_of T) (hr.mono (by decide)) pass0 (pa_cons (pv 2) pa_nil)) (ip_own T.op_Lengths_or T.ip_Lengths_or (ok_Lengths___or__ T) (hr.mono (by decide)) T.bd_Lengths___or__ pass0))))
       (pss_cons (ps_for PassesOwn.never rfl (pi_tup (pe_prop (pv 0) T.cl_Lengths T.pp_Lengths_rests (ok_Lengths_rests T) (hr.mono (by decide)) T.bd_Lengths_rests .nil pass0 (by rfl))) (pg_name (i := 3) sc__law_parts_right.nd rfl (by first | exact Or.inl rfl | exact Or.inr rfl))
       (pss_cons (ps_set (i := 4) sc__law_parts_right.nd rfl (by first | exact Or.inl rfl | exact Or.inr rfl) (pe_ix (show IxR _ (rIxL K) from ix_list) (pe_lc (own := [("n", 2)]) (g := gName 2) (by rfl) sc__law_parts_right.nd (pi_range2 (by rfl) T.b_range (pa_cons (pe_prop (pv 0) T.cl_Lengths T.pp_Lengths_start (ok_Lengths_start T) (hr.mono (by decide)) T.bd_Lengths_start .nil pass0 (by rfl)) (pa_cons (pe_op op_add (pe_prop (pv 0) T.cl_Lengths T.pp_Lengths_start (ok_Lengths_start T) (hr.mono (by decide)) T.bd_Lengths_start .nil pass0 (by rfl)) (pe_prop (pv 0) T.cl_Lengths T.pp_Lengths_period (ok_Lengths_period T) (hr.mono (by decide)) T.bd_Lengths_period .nil pass0 (by rfl))) pa_nil))) (blkOk_by (own := [("n", 2)]) (N := ["one", "made", "n", "rest", "begin"]) (sc := defScope s__law_parts_right) (by decide +kernel)) (fun _ _ _ _ _ => pg_name (i := 2) sc__law_parts_right.nd rfl (Or.inl rfl)) (fun _ _ _ _ _ => (pts_one (pt_cmpR op_eq (pe_op op_mod (pe_callTy c_int (by rfl) T.b_int boot_int (pa_cons (pv 2) pa_nil)) (pe_prop (pv 0) T.cl_Lengths T.pp_Lengths_period (ok_Lengths_period T) (hr.mono (by decide)) T.bd_Lengths_period .nil pass0 (by rfl))) (pv 3) (nomark _)))) (fun _ _ _ _ _ => (pv 2))) pe_int (fun _ _ => rfl)))
       (pss_one (ps_aug (i := 1) sc__law_parts_right.nd rfl (by first | exact Or.inl rfl | exact Or.inr rfl) (pe_smeth (pe_glob (v := .ref T.c_Lengths) (by rfl) T.g_Lengths rfl) T.cr_Lengths T.sme_Lengths_steps (oR_Lengths_steps T) (hr.mono (by decide)) pass0 (pa_cons (pv 4) (pa_cons (pe_prop (pv 0) T.cl_Lengths T.pp_Lengths_period (ok_Lengths_period T) (hr.mono (by decide)) T.bd_Lengths_period .nil pass0 (by rfl)) pa_nil))) (ip_own T.op_Lengths_or T.ip_Lengths_or (ok_Lengths___or__ T) (hr.mono (by decide)) T.bd_Lengths___or__ pass0)))))
       (pss_cons (ps_if (PW.pt (pw_or (pt_cmpR (op_neO T.eq_Lengths (ok_Lengths___eq__ T) (hr.mono (by decide)) T.bd_Lengths___eq__ pass0) (pv 1) (pv 0) (nomark _)) (pw_or1 (pt_cmpR op_eq (pe_cmpR c_isN (pe_prop (pv 0) T.cl_Lengths T.pp_Lengths_last_gap (ok_Lengths_last_gap T) (hr.mono (by decide)) T.bd_Lengths_last_gap .nil pass0 (by rfl)) pe_non (nomark _)) (pe_prop (pe_un (un_invO T.fi_Lengths___invert__ T.isf_Lengths___invert__ (ok_Lengths___invert__ T) (hr.mono (by decide)) T.bd_Lengths___invert__ pass0) (pv 0)) T.cl_Lengths T.pp_Lengths_is_finite (ok_Lengths_is_finite T) (hr.mono (by decide)) T.bd_Lengths_is_finite .nil pass0 (by rfl)) (nomark _)))))
       (pss_one (ps_ret pe_bl))
       pss_nil)
       (pss_one (ps_ret (pe_or (pe_cmpR c_isN (pe_prop (pv 0) T.cl_Lengths T.pp_Lengths_last_gap (ok_Lengths_last_gap T) (hr.mono (by decide)) T.bd_Lengths_last_gap .nil pass0 (by rfl)) pe_non (nomark _)) (pe_or (pe_and (pe_cmpR op_eq (pe_prop (pv 0) T.cl_Lengths T.pp_Lengths_last_gap (ok_Lengths_last_gap T) (hr.mono (by decide)) T.bd_Lengths_last_gap .nil pass0 (by rfl)) (pe_un un_neg pe_int) (nomark _)) (pe_one (pe_cmpR (op_eqO T.eq_Lengths (ok_Lengths___eq__ T) (hr.mono (by decide)) T.bd_Lengths___eq__ pass0) (pv 0) (pe_smeth0 (pe_glob (v := .ref T.c_Lengths) (by rfl) T.g_Lengths rfl) T.cr_Lengths T.sme_Lengths_every (oR_Lengths_every T) (hr.mono (by decide)) pass0) (nomark _)))) (pe_one (pe_cmpR (op_notInO T.sm_Lengths___contains__ (ok_Lengths___contains__ T) (hr.mono (by decide)) T.bd_Lengths___contains__ pass0) (pe_prop (pv 0) T.cl_Lengths T.pp_Lengths_last_gap (ok_Lengths_last_gap T) (hr.mono (by decide)) T.bd_Lengths_last_gap .nil pass0 (by rfl)) (pv 0) (by rfl)))))))))))), ?_⟩
    refine body_of (pure_start ex nt) ?_
    have tp := la.form.pos
    have t12 := Nat.le_of_dvd (show 0 < 12 by decide) l12
    have F := la.form
    refine s_seq (s_if (W.mono (Q := fun b k m => b = false ∧ Ext kn k ∧ m = 0) ?_ fun b k1 m ⟨eb, e1, em⟩ => ?_))
    · walk_at "w"
      refine w_len ?_
      walk_at "w"
      refine w_pr rfl la fun _ _ _ _ => ?_
      walk_at "w"
      refine w_pr rfl la fun q1 _ z1 _ => ?_
      walk_at "w"
      refine w_pr rfl la fun _ _ _ _ => ?_
      walk_at "w"
      refine w_pr rfl la fun _ q2 _ z2 => ?_
      walk_at "w"
      have i1 := idx_len nr
      have i2 := idx_len tn
      refine ⟨_, _, nr.length, tn.length, idx nr, idx tn, rfl, ⟨by omega, by omega, by omega, by omega, by omega, fun n hn => (mem_idx.1 hn).1, fun n hn => (mem_idx.1 hn).1, ⟨q1, rfl, .inr (.inl z1)⟩, ⟨q2, rfl, .inr (.inl z2)⟩⟩, again_small F, fun x k e nx l => ?_⟩
      rw [again_N F, again_T F] at l
      walk_at "w"
      refine r_eqLL T l (LenAt.ext e la) ?_
      rw [decide_eq_true (show nr = nr ∧ tn = tn from ⟨rfl, rfl⟩)]
      walk_at "w"
      refine ⟨fun _ => ?_, fun z => (by cases z)⟩
      walk_at "w"
      refine w_cmeth (EA := fun _ _ _ _ => False) mo_read err_no ?_
      walk_at "w"
      refine ⟨rfl, ?_⟩
      obtain ⟨dx, q3, q4, q5, a1, _⟩ := (LenAt.ext e la).at_
      walk_at "w"
      refine r_strO mo_str a1 ⟨x1, nr, tn, rfl, LenAt.ext e la, fun k3 e3 => ⟨_, rfl, ?_⟩⟩
      walk_at "w"
      refine ⟨nr, tn, rfl, F, fun s1 k4 e4 n4 l4 => ?_⟩
      walk_at "w"
      refine r_eqLL T l4 (LenAt.ext (ext_tr e (ext_tr e3 e4)) la) ?_
      rw [decide_eq_true (show nr = nr ∧ tn = tn from ⟨rfl, rfl⟩)]
      walk_at "w"
      exact ⟨rfl, ext_tr e (ext_tr e3 e4), rfl⟩
    subst eb em
    refine ⟨(fun z => nomatch z), fun _ => s_next ?_⟩
    walk_at "w"
    refine w_smeth (EA := fun _ _ _ _ => False) mo_new err_no ?_
    walk_at "w"
    refine ⟨rfl, ?_⟩
    walk_at "w"
    refine ⟨rfl, fun m0 k2 e2 nx2 l2 => ?_⟩
    have e12 := ext_tr e1 e2
    have sm : SetAt T.c_Lengths k2 m0 (fun i => decide (i ∈ (idx nr).take 0)) := ⟨[], [false], l2, by decide, by decide, fun m => by
      rw [inL_nat, if_neg (show ¬ m < ([] : List Bool).length from Nat.not_lt_zero m)]
      show ix [false] (m % 1) = false
      rw [Nat.mod_one]
      rfl⟩
    refine s_seq (s_forJ (i_tup (w_pr rfl (LenAt.ext e12 la) fun q1 _ z1 _ => ⟨q1, _, rfl, z1, ?_⟩)))
    refine ⟨_, _, fun j σ' k m => m = 0 ∧ Ext k2 k ∧ ∃ s y, σ' = [some (.ref x1), some (.ref s), y, none, none] ∧ SetAt T.c_Lengths k s (fun i => decide (i ∈ (idx nr).take j)), gives_tup, ⟨rfl, ext_rf, m0, _, rfl, sm⟩, fun j σ' k m hh => hh.2.1 _ _ z1, ?_, ?_⟩
    · rintro j x σ' k m hj ⟨rfl, ek, s, y, rfl, ss⟩
      rw [List.getElem?_map] at hj
      obtain ⟨u, hu, rfl⟩ := Option.map_eq_some_iff.1 hj
      have hu2 := (mem_idx.1 (List.mem_of_getElem? hu)).1
      walk_at "w"
      refine w_sof T ?_
      walk_at "w"
      refine ⟨[u], rfl, fun x hx => by rw [List.mem_singleton.1 hx]; omega, (show 1 ≤ 100 by decide), fun x3 k3 e3 l3 => ?_⟩
      walk_at "w"
      refine r_sop T (SetAt.ext e3 ss) l3 fun x4 k4 e4 l4 => ?_
      walk_at "w"
      exact ⟨rfl, ext_tr ek (ext_tr e3 e4), _, _, rfl, l4.cg (low_step hu)⟩
    rintro σ' k3 m ⟨rfl, e3, s, y, rfl, ss⟩
    have e13 := ext_tr e12 e3
    have la3 := LenAt.ext e13 la
    rw [List.length_map, List.take_length] at ss
    refine s_seq (s_forJ (i_tup (w_pr rfl la3 fun _ q2 _ z2 => ⟨q2, _, rfl, z2, ?_⟩)))
    refine ⟨_, _, fun j σ' k m => m = 0 ∧ Ext k3 k ∧ ∃ s y y2 y3, σ' = [some (.ref x1), some (.ref s), y, y2, y3] ∧ SetAt T.c_Lengths k s (fun i => decide (i ∈ idx nr) || (decide (nr.length ≤ i) && decide (i % tn.length ∈ (idx tn).take j))), gives_tup, ⟨rfl, ext_rf, s, _, _, _, rfl, ss.cg fun i => by simp⟩, fun j σ' k m hh => hh.2.1 _ _ z2, ?_, ?_⟩
    · rintro j x σ' k m hj ⟨rfl, ek, s, y, y2, y3, rfl, ss⟩
      rw [List.getElem?_map] at hj
      obtain ⟨u, hu, rfl⟩ := Option.map_eq_some_iff.1 hj
      have hu2 := (mem_idx.1 (List.mem_of_getElem? hu)).1
      have lak := LenAt.ext ek la3
      walk_at "w"
      refine w_lcRng2 (s := nr.length) (L := tn.length) (pr := fun n => decide (n % tn.length = u)) (fun R hR => ?_) (by omega) (by omega) (fun _ => rfl) (fun _ => rfl) (fun i k' R e' hR => ?_) (fun D hD => ?_)
      · refine w_cons (w_pr rfl lak fun _ _ _ _ => w_cons (w_op (w_pr rfl lak fun _ _ _ _ => w_pr rfl lak fun _ _ _ _ => ?_)))
        walk_at "w"
        exact hR
      · walk_at "w"
        refine w_pr rfl (LenAt.ext e' lak) fun _ _ _ _ => ?_
        walk_at "w"
        refine r_I (by omega) ?_
        walk_at "w"
        have ed : decide (V.int ((i : Int) % (tn.length : Int)) = V.int (u : Int)) = decide (i % tn.length = u) := decide_eq_decide.2 ⟨fun h => by have := V.int.inj h; omega, fun h => by rw [← Int.natCast_emod, h]⟩
        rw [ed]
        exact hR
      obtain ⟨b, bs, b1, b2, b3, b4⟩ := one_begin (s := nr.length) hu2
      refine w_gen hD fun k5 e5 f5 => ?_
      rw [b1] at f5
      walk_at "w"
      refine r_ixL f5 (show atI (natV (b :: bs)) ((0 : Nat) : Int) = some (V.int b) from atI_nat rfl) ?_
      walk_at "w"
      refine w_smeth (EA := fun _ _ _ _ => False) mo_steps err_no ?_
      walk_at "w"
      refine ⟨rfl, ?_⟩
      walk_at "w"
      refine w_pr rfl (LenAt.ext e5 lak) fun _ _ _ _ => ?_
      walk_at "w"
      refine ⟨b, tn.length, rfl, by omega, tp, by omega, small_of (by omega), fun x k6 e6 _ l6 => ?_⟩
      walk_at "w"
      refine r_sop T (SetAt.ext (ext_tr e5 e6) ss) (set_steps l6 tp l20 b3 l12) fun x7 k7 e7 l7 => ?_
      exact ⟨rfl, ext_tr ek (ext_tr e5 (ext_tr e6 e7)), _, _, _, _, rfl, l7.cg (rest_step hu b2 b3 b4)⟩
    rintro σ' k4 m ⟨rfl, e4, s, y, y2, y3, rfl, ss⟩
    have e14 := ext_tr e13 e4
    have la4 := LenAt.ext e14 la
    have sa4 := SetAt.ext e14 sa
    rw [List.length_map] at ss
    have same : ∀ i : Nat, (decide (i ∈ idx nr) || (decide (nr.length ≤ i) && decide (i % tn.length ∈ (idx tn).take (idx tn).length))) = PA i := fun i => (all_made F i).trans (hin i)
    have gc := gap_cases F
    refine s_seq (s_if (W.mono (Q := fun b k m => b = false ∧ Ext kn k ∧ m = 0) ?_ fun b k5 m ⟨eb, e5, em⟩ => ?_))
    · walk_at "w"
      refine r_seq T ss sa4 ?_
      walk_at "w"
      refine ⟨fun _ => ?_, fun z => no_ne same z⟩
      walk_at "w"
      refine w_gapS rfl la4 ?_
      walk_at "w"
      refine r_isN ?_
      walk_at "w"
      refine w_sfinG T ?_
      walk_at "w"
      refine r_sinv T sa4 fun x6 k6 e6 l6 => ?_
      walk_at "w"
      refine ⟨_, _, rfl, l6, fun b hb => ?_⟩
      walk_at "w"
      have ev : decide (V.bl (decide (gapV nr tn = V.non)) = V.bl b) = false := by
        rcases gc with ⟨g1, g2⟩ | ⟨g1, g2, g3⟩
        · have hb0 : b = false := by
            cases b with
            | false => rfl
            | true =>
              obtain ⟨m, hm⟩ := hb.1 rfl
              obtain ⟨k, hk, hk2⟩ := g2 m
              have := hm k hk
              rw [← hin, hk2] at this
              cases this
          rw [g1, hb0]
          rfl
        · have hb0 : b = true := hb.2 ⟨nr.length, fun k hk => by rw [← hin, g2 k hk]; rfl⟩
          rw [g1, hb0]
          rfl
      rw [ev]
      exact ⟨rfl, ext_tr e14 e6, rfl⟩
    subst eb em
    refine ⟨(fun z => nomatch z), fun _ => s_next ?_⟩
    have la5 := LenAt.ext e5 la
    rcases gc with ⟨g1, g2⟩ | ⟨g1, g2, g3⟩
    · walk_at "w"
      refine w_gapS rfl la5 ?_
      rw [g1]
      walk_at "w"
      exact h _ e5 0
    · walk_at "w"
      refine w_gapS rfl la5 ?_
      rw [g1]
      walk_at "w"
      refine r_isN ?_
      walk_at "w"
      refine ⟨fun _ => ?_, fun z => (by cases z)⟩
      walk_at "w"
      refine w_gapS rfl la5 ?_
      rw [g1]
      walk_at "w"
      by_cases hz : nr.length = 0
      · have h0 : (nr.length : Int) - 1 = -1 := by omega
        obtain ⟨ee1, ee2⟩ := every_form F hz g2
        rw [h0]
        walk_at "w"
        refine ⟨fun _ => ?_, fun z => (by cases z)⟩
        walk_at "w"
        refine w_smeth (EA := fun _ _ _ _ => False) mo_new err_no ?_
        walk_at "w"
        refine ⟨rfl, ?_⟩
        walk_at "w"
        refine ⟨rfl, fun x6 k6 e6 n6 l6 => ?_⟩
        walk_at "w"
        refine r_eqLL T (LenAt.ext e6 la5) l6 ?_
        walk_at "w"
        have ee : (if false = true then !decide (nr = [] ∧ tn = [true]) else decide (nr = [] ∧ tn = [true])) = true := by rw [if_neg (by decide), decide_eq_true ⟨ee1, ee2⟩]
        rw [ee]
        refine ⟨fun z => (by cases z), fun _ => ?_⟩
        exact h _ (ext_tr e5 e6) 0
      · have h0 : decide (V.int ((nr.length : Int) - 1) = V.int (-1)) = false := decide_eq_false fun e => by have := V.int.inj e; omega
        walk_at "w"
        rw [h0]
        refine ⟨fun z => (by cases z), fun _ => ⟨_, rfl, fun _ => ?_, fun z => (by cases z)⟩⟩
        walk_at "w"
        refine w_gapS rfl la5 ?_
        rw [g1]
        walk_at "w"
        refine r_hasL la5 ?_
        rw [g3 (by omega)]
        exact h _ e5 0
end

end NN

namespace NN
open PySem PySem.Spec PyProof.Rows L2 LamX AW ClX
open Tx1 Ln
-- a set that is known at an earlier heap
local macro_rules | `(tactic| walk_at "st") => `(tactic| first
  | assumption
  | ((with_reducible refine' SetAt.ext ?h1 ?h2); (case h1 => assumption); (case h2 => walk_at "st")))
local macro_rules | `(tactic| walk_at "s1") => `(tactic| first
  | ((refine' r_sop _ ?h1 ?h2 (fun _ _ _ _ => ?_)); (case h1 => walk_at "st"); (case h2 => walk_at "st"))
  | ((refine' r_sinv _ ?h1 (fun _ _ _ _ => ?_)); (case h1 => walk_at "st"))
  | ((refine' r_seq _ ?h1 ?h2 ?_); (case h1 => walk_at "st"); (case h2 => walk_at "st"))
  | ((refine' r_sbool _ ?h1 ?_); (case h1 => walk_at "st"))
  | ((refine' r_slt _ ?h1 ?h2 (fun _ _ => ?_)); (case h1 => walk_at "st"); (case h2 => walk_at "st"))
  | ((refine' r_sge _ ?h1 ?h2 (fun _ _ => ?_)); (case h1 => walk_at "st"); (case h2 => walk_at "st"))
  | ((refine' r_sle _ ?h1 ?h2 (fun _ _ => ?_)); (case h1 => walk_at "st"); (case h2 => walk_at "st")))
local macro_rules | `(tactic| walk_at "ss") => `(tactic| repeat (first | walk_at "w1" | walk_at "w2" | dsimp only | walk_at "s1"))
local macro_rules | `(tactic| walk_at "ex") => `(tactic| first
  | exact ext_rf
  | assumption
  | ((with_reducible refine' ext_tr ?h1 ?h2); (case h2 => assumption); (case h1 => walk_at "ex")))

/-! ### the law -/
def spLaw {K : PySem.W.Frag} {mg : Str → Option Value} (_ : Tx K mg) : Sp := fun vs H Q _ => ∃ (sc : Addr) (ns : List Int), vs = [.ref sc] ∧ SqL K H sc (ns.map V.int) ∧ ∀ H', Q (.bl true) H'
theorem gname_run {i : Nat} {v : V} {σ : L2.St} {H : Hp} {N : L2.St → Hp → Prop} (h : N (σ.set i (some v)) H) : gName i v σ H N := h
theorem tabs_nil {H : Hp} : Tabs [] H := fun p hp => by cases hp
section
variable {P : Program} {w : World} {K : PySem.W.Frag} {mg : Str → Option Value} {base : Heap}
theorem ok_law (T : Tx K mg) : FnOk P w K mg base CX0 40 T.f_law T.d_law ["script"] (spLaw T) := by
  refine T.F_law.ok sc_law (fun vs H Q E h => ?_) (fun cdv A outer s H vs Q E hr h => ?_)
  · obtain ⟨sc, ns, rfl, _⟩ := h
    rfl
  · obtain ⟨sc, ns, rfl, hs, h⟩ := h
    refine ⟨_, (pss_cons (ps_set (i := 1) sc_law.nd rfl (by first | exact Or.inl rfl | exact Or.inr rfl) (pe_call (ok__law_pen T) (hr.mono (by decide)) (by rfl) T.g__law_pen T.F__law_pen.kp T.bd__law_pen .nil pass0 (pa_cons (pv 0) pa_nil)))
       (pss_cons (ps_for PassesOwn.never rfl (pi_range1 (by rfl) T.b_range (pa_cons pe_int pa_nil)) (pg_name (i := 2) sc_law.nd rfl (by first | exact Or.inl rfl | exact Or.inr rfl))
       (pss_cons (ps_par3 (i := 3) (j := 4) (l := 5) (by rfl) sc_law.nd rfl rfl rfl (by decide) (by decide) (by decide) rfl rfl rfl (pa_cons (pe_call (ok__law_set T) (hr.mono (by decide)) (by rfl) T.g__law_set T.F__law_set.kp T.bd__law_set .nil pass0 (pa_cons (pv 1) pa_nil)) (pa_cons (pe_call (ok__law_set T) (hr.mono (by decide)) (by rfl) T.g__law_set T.F__law_set.kp T.bd__law_set .nil pass0 (pa_cons (pv 1) pa_nil)) (pa_cons (pe_call (ok__law_set T) (hr.mono (by decide)) (by rfl) T.g__law_set T.F__law_set.kp T.bd__law_set .nil pass0 (pa_cons (pv 1) pa_nil)) pa_nil))) (by rfl))
       (pss_cons (ps_if (PW.pt (pw_or (pt_not (pt_val (pe_call (ok__law_sets_right T) (hr.mono (by decide)) (by rfl) T.g__law_sets_right T.F__law_sets_right.kp T.bd__law_sets_right .nil pass0 (pa_cons (pv 3) (pa_cons (pv 4) (pa_cons (pv 5) pa_nil)))))) (pw_or1 (pt_not (pt_val (pe_call (ok__law_numbers_right T) (hr.mono (by decide)) (by rfl) T.g__law_numbers_right T.F__law_numbers_right.kp T.bd__law_numbers_right .nil pass0 (pa_cons (pv 1) (pa_cons (pv 3) (pa_cons (pv 4) pa_nil)))))))))
       (pss_one (ps_ret pe_bl))
       pss_nil)
       (pss_one (ps_if (PW.pt (pw_or (pt_not (pt_val (pe_call (ok__law_parts_right T) (hr.mono (by decide)) (by rfl) T.g__law_parts_right T.F__law_parts_right.kp T.bd__law_parts_right .nil pass0 (pa_cons (pv 3) pa_nil)))) (pw_or1 (pt_not (pt_val (pe_call (ok__law_parts_right T) (hr.mono (by decide)) (by rfl) T.g__law_parts_right T.F__law_parts_right.kp T.bd__law_parts_right .nil pass0 (pa_cons (pe_op (op_own T.op_Lengths_sub (ok_Lengths___sub__ T) (hr.mono (by decide)) T.bd_Lengths___sub__ pass0) (pv 3) (pv 5)) pa_nil)))))))
       (pss_one (ps_ret pe_bl))
       pss_nil)))))
       (pss_one (ps_ret pe_bl)))), ?_⟩
    refine ⟨_, rfl, sc, ns, rfl, hs, fun p a ns' H1 pa hp ha h1 h2 eH => ?_⟩
    have g1 : AW.Good (penC p a ns' []) (fun _ => none) 0 H1 := ⟨fun x o z => (by cases z), ⟨⟨⟨0, 0, h1, by omega, by omega, by omega⟩, h2, pa⟩, tabs_nil⟩, fun _ _ => rfl, fun x o z => (by cases z)⟩
    refine gname_run ?_
    dsimp only
    refine body_of g1 ?_
    refine s_seq ?_
    refine s_join (fun σ' kn' n' => n' ≤ 1000 ∧ ∃ x0 x2 x3 x4 x5, σ' = [x0, some (.ref p), x2, x3, x4, x5]) ?_ ?_
    · refine s_forR1 (j := 5) (fun i σ' kn' n' => n' ≤ 63 * i ∧ ∃ x0 x2 x3 x4 x5, σ' = [x0, some (.ref p), x2, x3, x4, x5]) ?_ ?_ ?_
      · walk_at "w"
        refine ⟨rfl, by decide, by decide, by omega, ?_⟩
        exact ⟨_, _, _, _, _, rfl⟩
      · rintro i σ' kn n hi ⟨hn, x0, x2, x3, x4, x5, rfl⟩
        have hi8 : i < 5 := hi
        refine g_name ?_
        refine s_seq (s_par3 ?_)
        walk_at "w"
        refine w_callP mo_set err_no ?_
        walk_at "w"
        refine ⟨by omega, rfl, fun y1 P1 k1 e1 s1 => ?_⟩
        walk_at "w"
        refine w_callP mo_set err_no ?_
        walk_at "w"
        refine ⟨by omega, rfl, fun y2 P2 k2 e2 s2 => ?_⟩
        walk_at "w"
        refine w_callP mo_set err_no ?_
        walk_at "w"
        refine ⟨by omega, rfl, fun y3 P3 k3 e3 s3 => ?_⟩
        walk_at "w"
        refine ⟨_, _, _, rfl, ?_⟩
        replace s1 := SetAt.ext (ext_tr e2 e3) s1
        replace s2 := SetAt.ext e3 s2
        walk_at "wi"
        refine w_call (EA := fun _ _ _ _ => False) mo_SR err_no ?_
        walk_at "w"
        refine ⟨_, _, _, _, _, _, rfl, s1, s2, s3, fun k4 e4 => ?_⟩
        walk_at "wi"
        refine w_callP mo_NR err_no ?_
        walk_at "w"
        refine ⟨by omega, _, _, _, _, rfl, SetAt.ext e4 s1, SetAt.ext e4 s2, fun k5 e5 => ?_⟩
        walk_at "wi"
        refine w_call (EA := fun _ _ _ _ => False) mo_PR err_no ?_
        walk_at "w"
        refine ⟨_, _, rfl, SetAt.ext (ext_tr e4 e5) s1, fun k6 e6 => ?_⟩
        walk_at "wi"
        refine w_call (EA := fun _ _ _ _ => False) mo_PR err_no ?_
        walk_at "w"
        refine r_sop T (SetAt.ext (ext_tr e4 (ext_tr e5 e6)) s1) (SetAt.ext (ext_tr e4 (ext_tr e5 e6)) s3) fun x7 k7 e7 l7 => ?_
        walk_at "w"
        refine ⟨_, _, rfl, l7, fun k8 e8 => ?_⟩
        walk_at "wi"
        refine ⟨by omega, _, _, _, _, _, rfl⟩
      · rintro σ' kn n ⟨hn, x0, x2, x3, x4, x5, rfl⟩
        exact ⟨by omega, _, _, _, _, _, rfl⟩
    · rintro σ' kn n ⟨hn, x0, x2, x3, x4, x5, rfl⟩
      walk_at "w"
      exact fun H' _ => h H'
end
/-- the law at its head -/
theorem law_at {l : PySem.W.OpenLaw} {w : World} {K : PySem.W.Frag} {mg : Str → Option Value} {h : Heap} {fa : Addr} (T : Tx K mg) (hfa : T.f_law = fa) : LawAtG l w K CX0 40 63 "script" mg fa h := by
  subst hfa
  refine ⟨T.d_law, [], spLaw T, fun p hp => (by cases hp), fun p hp => (by cases hp), fun p hp => (by cases hp), ?_, ?_, ?_⟩
  · intro s u
    obtain ⟨oc, od, kV, doc, pm, an, cdv, ct, osl, hfd, _, _⟩ := T.F_law.ex
    rw [hfd]
    exact BindsTo.of_eq (by rfl)
  · intro H a nums hl hb ht hs
    exact ⟨a, nums, rfl, hs, fun H' => rfl⟩
  · intro base hK hNs ht
    exact (ok_law T).g

end NN

namespace NN
open PySem PySem.Spec PyProof.Rows L2 LamX AW ClX
theorem all_mk {K : PySem.W.Frag} {h : Heap} {mg : Str → Option Value} {l : PySem.W.OpenLaw} {w : World} {fa : Addr} (hfa : mg "law" = some (.ref fa)) (X : K.In h) (G : h.Ns mainGlobals mg)
    {f_is_whole : Addr}
    {oc_is_whole : Value}
    {kV_is_whole : Value}
    {dc_is_whole : Value}
    {pm_is_whole : Value}
    {cd_is_whole : Value}
    {ct_is_whole : Value}
    {od_is_whole : Option Addr}
    {an_is_whole : Option Addr}
    {sl_is_whole : Array (Option Value)}
    {f_is_from : Addr}
    {oc_is_from : Value}
    {kV_is_from : Value}
    {dc_is_from : Value}
    {pm_is_from : Value}
    {cd_is_from : Value}
    {ct_is_from : Value}
    {od_is_from : Option Addr}
    {an_is_from : Option Addr}
    {sl_is_from : Array (Option Value)}
    {f_are_from : Addr}
    {oc_are_from : Value}
    {kV_are_from : Value}
    {dc_are_from : Value}
    {pm_are_from : Value}
    {cd_are_from : Value}
    {ct_are_from : Value}
    {od_are_from : Option Addr}
    {an_are_from : Option Addr}
    {sl_are_from : Array (Option Value)}
    {f_read_number : Addr}
    {oc_read_number : Value}
    {kV_read_number : Value}
    {dc_read_number : Value}
    {pm_read_number : Value}
    {cd_read_number : Value}
    {ct_read_number : Value}
    {od_read_number : Option Addr}
    {an_read_number : Option Addr}
    {sl_read_number : Array (Option Value)}
    {f_marked : Addr}
    {oc_marked : Value}
    {kV_marked : Value}
    {dc_marked : Value}
    {pm_marked : Value}
    {cd_marked : Value}
    {ct_marked : Value}
    {od_marked : Option Addr}
    {an_marked : Option Addr}
    {sl_marked : Array (Option Value)}
    {f_least_period : Addr}
    {oc_least_period : Value}
    {kV_least_period : Value}
    {dc_least_period : Value}
    {pm_least_period : Value}
    {cd_least_period : Value}
    {ct_least_period : Value}
    {od_least_period : Option Addr}
    {an_least_period : Option Addr}
    {sl_least_period : Array (Option Value)}
    {f_check_parts : Addr}
    {oc_check_parts : Value}
    {kV_check_parts : Value}
    {dc_check_parts : Value}
    {pm_check_parts : Value}
    {cd_check_parts : Value}
    {ct_check_parts : Value}
    {od_check_parts : Option Addr}
    {an_check_parts : Option Addr}
    {sl_check_parts : Array (Option Value)}
    {f_check_size : Addr}
    {oc_check_size : Value}
    {kV_check_size : Value}
    {dc_check_size : Value}
    {pm_check_size : Value}
    {cd_check_size : Value}
    {ct_check_size : Value}
    {od_check_size : Option Addr}
    {an_check_size : Option Addr}
    {sl_check_size : Array (Option Value)}
    {f_check_argument : Addr}
    {oc_check_argument : Value}
    {kV_check_argument : Value}
    {dc_check_argument : Value}
    {pm_check_argument : Value}
    {cd_check_argument : Value}
    {ct_check_argument : Value}
    {od_check_argument : Option Addr}
    {an_check_argument : Option Addr}
    {sl_check_argument : Array (Option Value)}
    {f_check_number : Addr}
    {oc_check_number : Value}
    {kV_check_number : Value}
    {dc_check_number : Value}
    {pm_check_number : Value}
    {cd_check_number : Value}
    {ct_check_number : Value}
    {od_check_number : Option Addr}
    {an_check_number : Option Addr}
    {sl_check_number : Array (Option Value)}
    {f_common_form : Addr}
    {oc_common_form : Value}
    {kV_common_form : Value}
    {dc_common_form : Value}
    {pm_common_form : Value}
    {cd_common_form : Value}
    {ct_common_form : Value}
    {od_common_form : Option Addr}
    {an_common_form : Option Addr}
    {sl_common_form : Array (Option Value)}
    {f_gathered : Addr}
    {oc_gathered : Value}
    {kV_gathered : Value}
    {dc_gathered : Value}
    {pm_gathered : Value}
    {cd_gathered : Value}
    {ct_gathered : Value}
    {od_gathered : Option Addr}
    {an_gathered : Option Addr}
    {sl_gathered : Array (Option Value)}
    {f_have_common : Addr}
    {oc_have_common : Value}
    {kV_have_common : Value}
    {dc_have_common : Value}
    {pm_have_common : Value}
    {cd_have_common : Value}
    {ct_have_common : Value}
    {od_have_common : Option Addr}
    {an_have_common : Option Addr}
    {sl_have_common : Array (Option Value)}
    {f_read_parts : Addr}
    {oc_read_parts : Value}
    {kV_read_parts : Value}
    {dc_read_parts : Value}
    {pm_read_parts : Value}
    {cd_read_parts : Value}
    {ct_read_parts : Value}
    {od_read_parts : Option Addr}
    {an_read_parts : Option Addr}
    {sl_read_parts : Array (Option Value)}
    {c_Lengths : Addr}
    {f_Lengths___init__ : Addr}
    {oc_Lengths___init__ : Value}
    {kV_Lengths___init__ : Value}
    {dc_Lengths___init__ : Value}
    {pm_Lengths___init__ : Value}
    {cd_Lengths___init__ : Value}
    {ct_Lengths___init__ : Value}
    {od_Lengths___init__ : Option Addr}
    {an_Lengths___init__ : Option Addr}
    {sl_Lengths___init__ : Array (Option Value)}
    {dt_Lengths___init__ : Addr}
    {tk_Lengths___init__ : Tok}
    {nt_Lengths___init__ : Nat}
    {ot_Lengths___init__ : Option Addr}
    {st_Lengths___init__ : Array (Option Value)}
    {dl_Lengths___init__ : Addr}
    {dr_Lengths___init__ : Addr}
    {ndl_Lengths___init__ : Nat}
    {odl_Lengths___init__ : Option Addr}
    {sdl_Lengths___init__ : Array (Option Value)}
    {ndr_Lengths___init__ : Nat}
    {odr_Lengths___init__ : Option Addr}
    {sdr_Lengths___init__ : Array (Option Value)}
    {f_Lengths___eq__ : Addr}
    {oc_Lengths___eq__ : Value}
    {kV_Lengths___eq__ : Value}
    {dc_Lengths___eq__ : Value}
    {pm_Lengths___eq__ : Value}
    {cd_Lengths___eq__ : Value}
    {ct_Lengths___eq__ : Value}
    {od_Lengths___eq__ : Option Addr}
    {an_Lengths___eq__ : Option Addr}
    {sl_Lengths___eq__ : Array (Option Value)}
    {f_Lengths___contains__ : Addr}
    {oc_Lengths___contains__ : Value}
    {kV_Lengths___contains__ : Value}
    {dc_Lengths___contains__ : Value}
    {pm_Lengths___contains__ : Value}
    {cd_Lengths___contains__ : Value}
    {ct_Lengths___contains__ : Value}
    {od_Lengths___contains__ : Option Addr}
    {an_Lengths___contains__ : Option Addr}
    {sl_Lengths___contains__ : Array (Option Value)}
    {f_Lengths___and__ : Addr}
    {oc_Lengths___and__ : Value}
    {kV_Lengths___and__ : Value}
    {dc_Lengths___and__ : Value}
    {pm_Lengths___and__ : Value}
    {cd_Lengths___and__ : Value}
    {ct_Lengths___and__ : Value}
    {od_Lengths___and__ : Option Addr}
    {an_Lengths___and__ : Option Addr}
    {sl_Lengths___and__ : Array (Option Value)}
    {f_Lengths___or__ : Addr}
    {oc_Lengths___or__ : Value}
    {kV_Lengths___or__ : Value}
    {dc_Lengths___or__ : Value}
    {pm_Lengths___or__ : Value}
    {cd_Lengths___or__ : Value}
    {ct_Lengths___or__ : Value}
    {od_Lengths___or__ : Option Addr}
    {an_Lengths___or__ : Option Addr}
    {sl_Lengths___or__ : Array (Option Value)}
    {f_Lengths___sub__ : Addr}
    {oc_Lengths___sub__ : Value}
    {kV_Lengths___sub__ : Value}
    {dc_Lengths___sub__ : Value}
    {pm_Lengths___sub__ : Value}
    {cd_Lengths___sub__ : Value}
    {ct_Lengths___sub__ : Value}
    {od_Lengths___sub__ : Option Addr}
    {an_Lengths___sub__ : Option Addr}
    {sl_Lengths___sub__ : Array (Option Value)}
    {f_Lengths___invert__ : Addr}
    {oc_Lengths___invert__ : Value}
    {kV_Lengths___invert__ : Value}
    {dc_Lengths___invert__ : Value}
    {pm_Lengths___invert__ : Value}
    {cd_Lengths___invert__ : Value}
    {ct_Lengths___invert__ : Value}
    {od_Lengths___invert__ : Option Addr}
    {an_Lengths___invert__ : Option Addr}
    {sl_Lengths___invert__ : Array (Option Value)}
    {f_Lengths___le__ : Addr}
    {oc_Lengths___le__ : Value}
    {kV_Lengths___le__ : Value}
    {dc_Lengths___le__ : Value}
    {pm_Lengths___le__ : Value}
    {cd_Lengths___le__ : Value}
    {ct_Lengths___le__ : Value}
    {od_Lengths___le__ : Option Addr}
    {an_Lengths___le__ : Option Addr}
    {sl_Lengths___le__ : Array (Option Value)}
    {f_Lengths___lt__ : Addr}
    {oc_Lengths___lt__ : Value}
    {kV_Lengths___lt__ : Value}
    {dc_Lengths___lt__ : Value}
    {pm_Lengths___lt__ : Value}
    {cd_Lengths___lt__ : Value}
    {ct_Lengths___lt__ : Value}
    {od_Lengths___lt__ : Option Addr}
    {an_Lengths___lt__ : Option Addr}
    {sl_Lengths___lt__ : Array (Option Value)}
    {f_Lengths___ge__ : Addr}
    {oc_Lengths___ge__ : Value}
    {kV_Lengths___ge__ : Value}
    {dc_Lengths___ge__ : Value}
    {pm_Lengths___ge__ : Value}
    {cd_Lengths___ge__ : Value}
    {ct_Lengths___ge__ : Value}
    {od_Lengths___ge__ : Option Addr}
    {an_Lengths___ge__ : Option Addr}
    {sl_Lengths___ge__ : Array (Option Value)}
    {f_Lengths___gt__ : Addr}
    {oc_Lengths___gt__ : Value}
    {kV_Lengths___gt__ : Value}
    {dc_Lengths___gt__ : Value}
    {pm_Lengths___gt__ : Value}
    {cd_Lengths___gt__ : Value}
    {ct_Lengths___gt__ : Value}
    {od_Lengths___gt__ : Option Addr}
    {an_Lengths___gt__ : Option Addr}
    {sl_Lengths___gt__ : Array (Option Value)}
    {f_Lengths___bool__ : Addr}
    {oc_Lengths___bool__ : Value}
    {kV_Lengths___bool__ : Value}
    {dc_Lengths___bool__ : Value}
    {pm_Lengths___bool__ : Value}
    {cd_Lengths___bool__ : Value}
    {ct_Lengths___bool__ : Value}
    {od_Lengths___bool__ : Option Addr}
    {an_Lengths___bool__ : Option Addr}
    {sl_Lengths___bool__ : Array (Option Value)}
    {f_Lengths___str__ : Addr}
    {oc_Lengths___str__ : Value}
    {kV_Lengths___str__ : Value}
    {dc_Lengths___str__ : Value}
    {pm_Lengths___str__ : Value}
    {cd_Lengths___str__ : Value}
    {ct_Lengths___str__ : Value}
    {od_Lengths___str__ : Option Addr}
    {an_Lengths___str__ : Option Addr}
    {sl_Lengths___str__ : Array (Option Value)}
    {f_Lengths_at_least : Addr}
    {oc_Lengths_at_least : Value}
    {kV_Lengths_at_least : Value}
    {dc_Lengths_at_least : Value}
    {pm_Lengths_at_least : Value}
    {cd_Lengths_at_least : Value}
    {ct_Lengths_at_least : Value}
    {od_Lengths_at_least : Option Addr}
    {an_Lengths_at_least : Option Addr}
    {sl_Lengths_at_least : Array (Option Value)}
    {f_Lengths_below : Addr}
    {oc_Lengths_below : Value}
    {kV_Lengths_below : Value}
    {dc_Lengths_below : Value}
    {pm_Lengths_below : Value}
    {cd_Lengths_below : Value}
    {ct_Lengths_below : Value}
    {od_Lengths_below : Option Addr}
    {an_Lengths_below : Option Addr}
    {sl_Lengths_below : Array (Option Value)}
    {cd_Lengths : ClassData}
    {f_Lengths_read : Addr}
    {p_Lengths_read : Addr}
    {rest_Lengths_read : List Value}
    {oc_Lengths_read : Value}
    {kV_Lengths_read : Value}
    {dc_Lengths_read : Value}
    {pm_Lengths_read : Value}
    {cd_Lengths_read : Value}
    {ct_Lengths_read : Value}
    {od_Lengths_read : Option Addr}
    {an_Lengths_read : Option Addr}
    {sl_Lengths_read : Array (Option Value)}
    {f_Lengths_none : Addr}
    {p_Lengths_none : Addr}
    {rest_Lengths_none : List Value}
    {oc_Lengths_none : Value}
    {kV_Lengths_none : Value}
    {dc_Lengths_none : Value}
    {pm_Lengths_none : Value}
    {cd_Lengths_none : Value}
    {ct_Lengths_none : Value}
    {od_Lengths_none : Option Addr}
    {an_Lengths_none : Option Addr}
    {sl_Lengths_none : Array (Option Value)}
    {f_Lengths_every : Addr}
    {p_Lengths_every : Addr}
    {rest_Lengths_every : List Value}
    {oc_Lengths_every : Value}
    {kV_Lengths_every : Value}
    {dc_Lengths_every : Value}
    {pm_Lengths_every : Value}
    {cd_Lengths_every : Value}
    {ct_Lengths_every : Value}
    {od_Lengths_every : Option Addr}
    {an_Lengths_every : Option Addr}
    {sl_Lengths_every : Array (Option Value)}
    {f_Lengths_of : Addr}
    {p_Lengths_of : Addr}
    {rest_Lengths_of : List Value}
    {oc_Lengths_of : Value}
    {kV_Lengths_of : Value}
    {dc_Lengths_of : Value}
    {pm_Lengths_of : Value}
    {cd_Lengths_of : Value}
    {ct_Lengths_of : Value}
    {od_Lengths_of : Option Addr}
    {an_Lengths_of : Option Addr}
    {sl_Lengths_of : Array (Option Value)}
    {f_Lengths_since : Addr}
    {p_Lengths_since : Addr}
    {rest_Lengths_since : List Value}
    {oc_Lengths_since : Value}
    {kV_Lengths_since : Value}
    {dc_Lengths_since : Value}
    {pm_Lengths_since : Value}
    {cd_Lengths_since : Value}
    {ct_Lengths_since : Value}
    {od_Lengths_since : Option Addr}
    {an_Lengths_since : Option Addr}
    {sl_Lengths_since : Array (Option Value)}
    {f_Lengths_steps : Addr}
    {p_Lengths_steps : Addr}
    {rest_Lengths_steps : List Value}
    {oc_Lengths_steps : Value}
    {kV_Lengths_steps : Value}
    {dc_Lengths_steps : Value}
    {pm_Lengths_steps : Value}
    {cd_Lengths_steps : Value}
    {ct_Lengths_steps : Value}
    {od_Lengths_steps : Option Addr}
    {an_Lengths_steps : Option Addr}
    {sl_Lengths_steps : Array (Option Value)}
    {f_Lengths_start : Addr}
    {p_Lengths_start : Addr}
    {rest_Lengths_start : List Value}
    {oc_Lengths_start : Value}
    {kV_Lengths_start : Value}
    {dc_Lengths_start : Value}
    {pm_Lengths_start : Value}
    {cd_Lengths_start : Value}
    {ct_Lengths_start : Value}
    {od_Lengths_start : Option Addr}
    {an_Lengths_start : Option Addr}
    {sl_Lengths_start : Array (Option Value)}
    {f_Lengths_period : Addr}
    {p_Lengths_period : Addr}
    {rest_Lengths_period : List Value}
    {oc_Lengths_period : Value}
    {kV_Lengths_period : Value}
    {dc_Lengths_period : Value}
    {pm_Lengths_period : Value}
    {cd_Lengths_period : Value}
    {ct_Lengths_period : Value}
    {od_Lengths_period : Option Addr}
    {an_Lengths_period : Option Addr}
    {sl_Lengths_period : Array (Option Value)}
    {f_Lengths_low : Addr}
    {p_Lengths_low : Addr}
    {rest_Lengths_low : List Value}
    {oc_Lengths_low : Value}
    {kV_Lengths_low : Value}
    {dc_Lengths_low : Value}
    {pm_Lengths_low : Value}
    {cd_Lengths_low : Value}
    {ct_Lengths_low : Value}
    {od_Lengths_low : Option Addr}
    {an_Lengths_low : Option Addr}
    {sl_Lengths_low : Array (Option Value)}
    {f_Lengths_rests : Addr}
    {p_Lengths_rests : Addr}
    {rest_Lengths_rests : List Value}
    {oc_Lengths_rests : Value}
    {kV_Lengths_rests : Value}
    {dc_Lengths_rests : Value}
    {pm_Lengths_rests : Value}
    {cd_Lengths_rests : Value}
    {ct_Lengths_rests : Value}
    {od_Lengths_rests : Option Addr}
    {an_Lengths_rests : Option Addr}
    {sl_Lengths_rests : Array (Option Value)}
    {f_Lengths_is_finite : Addr}
    {p_Lengths_is_finite : Addr}
    {rest_Lengths_is_finite : List Value}
    {oc_Lengths_is_finite : Value}
    {kV_Lengths_is_finite : Value}
    {dc_Lengths_is_finite : Value}
    {pm_Lengths_is_finite : Value}
    {cd_Lengths_is_finite : Value}
    {ct_Lengths_is_finite : Value}
    {od_Lengths_is_finite : Option Addr}
    {an_Lengths_is_finite : Option Addr}
    {sl_Lengths_is_finite : Array (Option Value)}
    {f_Lengths_last_gap : Addr}
    {p_Lengths_last_gap : Addr}
    {rest_Lengths_last_gap : List Value}
    {oc_Lengths_last_gap : Value}
    {kV_Lengths_last_gap : Value}
    {dc_Lengths_last_gap : Value}
    {pm_Lengths_last_gap : Value}
    {cd_Lengths_last_gap : Value}
    {ct_Lengths_last_gap : Value}
    {od_Lengths_last_gap : Option Addr}
    {an_Lengths_last_gap : Option Addr}
    {sl_Lengths_last_gap : Array (Option Value)}
    {f__law_pen : Addr}
    {oc__law_pen : Value}
    {kV__law_pen : Value}
    {dc__law_pen : Value}
    {pm__law_pen : Value}
    {cd__law_pen : Value}
    {ct__law_pen : Value}
    {od__law_pen : Option Addr}
    {an__law_pen : Option Addr}
    {sl__law_pen : Array (Option Value)}
    {f__law_draw : Addr}
    {oc__law_draw : Value}
    {kV__law_draw : Value}
    {dc__law_draw : Value}
    {pm__law_draw : Value}
    {cd__law_draw : Value}
    {ct__law_draw : Value}
    {od__law_draw : Option Addr}
    {an__law_draw : Option Addr}
    {sl__law_draw : Array (Option Value)}
    {f__law_pick : Addr}
    {oc__law_pick : Value}
    {kV__law_pick : Value}
    {dc__law_pick : Value}
    {pm__law_pick : Value}
    {cd__law_pick : Value}
    {ct__law_pick : Value}
    {od__law_pick : Option Addr}
    {an__law_pick : Option Addr}
    {sl__law_pick : Array (Option Value)}
    {f__law_set : Addr}
    {oc__law_set : Value}
    {kV__law_set : Value}
    {dc__law_set : Value}
    {pm__law_set : Value}
    {cd__law_set : Value}
    {ct__law_set : Value}
    {od__law_set : Option Addr}
    {an__law_set : Option Addr}
    {sl__law_set : Array (Option Value)}
    {f__law_far : Addr}
    {oc__law_far : Value}
    {kV__law_far : Value}
    {dc__law_far : Value}
    {pm__law_far : Value}
    {cd__law_far : Value}
    {ct__law_far : Value}
    {od__law_far : Option Addr}
    {an__law_far : Option Addr}
    {sl__law_far : Array (Option Value)}
    {f__law_sets_right : Addr}
    {oc__law_sets_right : Value}
    {kV__law_sets_right : Value}
    {dc__law_sets_right : Value}
    {pm__law_sets_right : Value}
    {cd__law_sets_right : Value}
    {ct__law_sets_right : Value}
    {od__law_sets_right : Option Addr}
    {an__law_sets_right : Option Addr}
    {sl__law_sets_right : Array (Option Value)}
    {f__law_numbers_right : Addr}
    {oc__law_numbers_right : Value}
    {kV__law_numbers_right : Value}
    {dc__law_numbers_right : Value}
    {pm__law_numbers_right : Value}
    {cd__law_numbers_right : Value}
    {ct__law_numbers_right : Value}
    {od__law_numbers_right : Option Addr}
    {an__law_numbers_right : Option Addr}
    {sl__law_numbers_right : Array (Option Value)}
    {f__law_parts_right : Addr}
    {oc__law_parts_right : Value}
    {kV__law_parts_right : Value}
    {dc__law_parts_right : Value}
    {pm__law_parts_right : Value}
    {cd__law_parts_right : Value}
    {ct__law_parts_right : Value}
    {od__law_parts_right : Option Addr}
    {an__law_parts_right : Option Addr}
    {sl__law_parts_right : Array (Option Value)}
    {f_law : Addr}
    {oc_law : Value}
    {kV_law : Value}
    {dc_law : Value}
    {pm_law : Value}
    {cd_law : Value}
    {ct_law : Value}
    {od_law : Option Addr}
    {an_law : Option Addr}
    {sl_law : Array (Option Value)}
    {t_DIGITS : Tok}
    {t_Lengths_MOST : Tok}
    (a_is_whole : PySem.W.nsIn K mainGlobals "is_whole" = some (some (.ref f_is_whole)))
    (l_is_whole : K.lookup f_is_whole = some ⟨oc_is_whole, od_is_whole, .func (PySem.W.fnOf "is_whole" "is_whole" (defArgs s_is_whole) (defBody s_is_whole) (defScope s_is_whole) .none kV_is_whole dc_is_whole pm_is_whole an_is_whole cd_is_whole ct_is_whole), sl_is_whole⟩)
    (c_is_whole_ : PySem.W.codeIn K cd_is_whole "is_whole" = true)
    (k_is_whole : PySem.W.keepIn K (.ref f_is_whole) = true)
    (a_is_from : PySem.W.nsIn K mainGlobals "is_from" = some (some (.ref f_is_from)))
    (l_is_from : K.lookup f_is_from = some ⟨oc_is_from, od_is_from, .func (PySem.W.fnOf "is_from" "is_from" (defArgs s_is_from) (defBody s_is_from) (defScope s_is_from) .none kV_is_from dc_is_from pm_is_from an_is_from cd_is_from ct_is_from), sl_is_from⟩)
    (c_is_from_ : PySem.W.codeIn K cd_is_from "is_from" = true)
    (k_is_from : PySem.W.keepIn K (.ref f_is_from) = true)
    (a_are_from : PySem.W.nsIn K mainGlobals "are_from" = some (some (.ref f_are_from)))
    (l_are_from : K.lookup f_are_from = some ⟨oc_are_from, od_are_from, .func (PySem.W.fnOf "are_from" "are_from" (defArgs s_are_from) (defBody s_are_from) (defScope s_are_from) .none kV_are_from dc_are_from pm_are_from an_are_from cd_are_from ct_are_from), sl_are_from⟩)
    (c_are_from_ : PySem.W.codeIn K cd_are_from "are_from" = true)
    (k_are_from : PySem.W.keepIn K (.ref f_are_from) = true)
    (a_read_number : PySem.W.nsIn K mainGlobals "read_number" = some (some (.ref f_read_number)))
    (l_read_number : K.lookup f_read_number = some ⟨oc_read_number, od_read_number, .func (PySem.W.fnOf "read_number" "read_number" (defArgs s_read_number) (defBody s_read_number) (defScope s_read_number) .none kV_read_number dc_read_number pm_read_number an_read_number cd_read_number ct_read_number), sl_read_number⟩)
    (c_read_number_ : PySem.W.codeIn K cd_read_number "read_number" = true)
    (k_read_number : PySem.W.keepIn K (.ref f_read_number) = true)
    (a_marked : PySem.W.nsIn K mainGlobals "marked" = some (some (.ref f_marked)))
    (l_marked : K.lookup f_marked = some ⟨oc_marked, od_marked, .func (PySem.W.fnOf "marked" "marked" (defArgs s_marked) (defBody s_marked) (defScope s_marked) .none kV_marked dc_marked pm_marked an_marked cd_marked ct_marked), sl_marked⟩)
    (c_marked_ : PySem.W.codeIn K cd_marked "marked" = true)
    (k_marked : PySem.W.keepIn K (.ref f_marked) = true)
    (a_least_period : PySem.W.nsIn K mainGlobals "least_period" = some (some (.ref f_least_period)))
    (l_least_period : K.lookup f_least_period = some ⟨oc_least_period, od_least_period, .func (PySem.W.fnOf "least_period" "least_period" (defArgs s_least_period) (defBody s_least_period) (defScope s_least_period) .none kV_least_period dc_least_period pm_least_period an_least_period cd_least_period ct_least_period), sl_least_period⟩)
    (c_least_period_ : PySem.W.codeIn K cd_least_period "least_period" = true)
    (k_least_period : PySem.W.keepIn K (.ref f_least_period) = true)
    (a_check_parts : PySem.W.nsIn K mainGlobals "check_parts" = some (some (.ref f_check_parts)))
    (l_check_parts : K.lookup f_check_parts = some ⟨oc_check_parts, od_check_parts, .func (PySem.W.fnOf "check_parts" "check_parts" (defArgs s_check_parts) (defBody s_check_parts) (defScope s_check_parts) .none kV_check_parts dc_check_parts pm_check_parts an_check_parts cd_check_parts ct_check_parts), sl_check_parts⟩)
    (c_check_parts_ : PySem.W.codeIn K cd_check_parts "check_parts" = true)
    (k_check_parts : PySem.W.keepIn K (.ref f_check_parts) = true)
    (a_check_size : PySem.W.nsIn K mainGlobals "check_size" = some (some (.ref f_check_size)))
    (l_check_size : K.lookup f_check_size = some ⟨oc_check_size, od_check_size, .func (PySem.W.fnOf "check_size" "check_size" (defArgs s_check_size) (defBody s_check_size) (defScope s_check_size) .none kV_check_size dc_check_size pm_check_size an_check_size cd_check_size ct_check_size), sl_check_size⟩)
    (c_check_size_ : PySem.W.codeIn K cd_check_size "check_size" = true)
    (k_check_size : PySem.W.keepIn K (.ref f_check_size) = true)
    (a_check_argument : PySem.W.nsIn K mainGlobals "check_argument" = some (some (.ref f_check_argument)))
    (l_check_argument : K.lookup f_check_argument = some ⟨oc_check_argument, od_check_argument, .func (PySem.W.fnOf "check_argument" "check_argument" (defArgs s_check_argument) (defBody s_check_argument) (defScope s_check_argument) .none kV_check_argument dc_check_argument pm_check_argument an_check_argument cd_check_argument ct_check_argument), sl_check_argument⟩)
    (c_check_argument_ : PySem.W.codeIn K cd_check_argument "check_argument" = true)
    (k_check_argument : PySem.W.keepIn K (.ref f_check_argument) = true)
    (a_check_number : PySem.W.nsIn K mainGlobals "check_number" = some (some (.ref f_check_number)))
    (l_check_number : K.lookup f_check_number = some ⟨oc_check_number, od_check_number, .func (PySem.W.fnOf "check_number" "check_number" (defArgs s_check_number) (defBody s_check_number) (defScope s_check_number) .none kV_check_number dc_check_number pm_check_number an_check_number cd_check_number ct_check_number), sl_check_number⟩)
    (c_check_number_ : PySem.W.codeIn K cd_check_number "check_number" = true)
    (k_check_number : PySem.W.keepIn K (.ref f_check_number) = true)
    (a_common_form : PySem.W.nsIn K mainGlobals "common_form" = some (some (.ref f_common_form)))
    (l_common_form : K.lookup f_common_form = some ⟨oc_common_form, od_common_form, .func (PySem.W.fnOf "common_form" "common_form" (defArgs s_common_form) (defBody s_common_form) (defScope s_common_form) .none kV_common_form dc_common_form pm_common_form an_common_form cd_common_form ct_common_form), sl_common_form⟩)
    (c_common_form_ : PySem.W.codeIn K cd_common_form "common_form" = true)
    (k_common_form : PySem.W.keepIn K (.ref f_common_form) = true)
    (a_gathered : PySem.W.nsIn K mainGlobals "gathered" = some (some (.ref f_gathered)))
    (l_gathered : K.lookup f_gathered = some ⟨oc_gathered, od_gathered, .func (PySem.W.fnOf "gathered" "gathered" (defArgs s_gathered) (defBody s_gathered) (defScope s_gathered) .none kV_gathered dc_gathered pm_gathered an_gathered cd_gathered ct_gathered), sl_gathered⟩)
    (c_gathered_ : PySem.W.codeIn K cd_gathered "gathered" = true)
    (k_gathered : PySem.W.keepIn K (.ref f_gathered) = true)
    (a_have_common : PySem.W.nsIn K mainGlobals "have_common" = some (some (.ref f_have_common)))
    (l_have_common : K.lookup f_have_common = some ⟨oc_have_common, od_have_common, .func (PySem.W.fnOf "have_common" "have_common" (defArgs s_have_common) (defBody s_have_common) (defScope s_have_common) .none kV_have_common dc_have_common pm_have_common an_have_common cd_have_common ct_have_common), sl_have_common⟩)
    (c_have_common_ : PySem.W.codeIn K cd_have_common "have_common" = true)
    (k_have_common : PySem.W.keepIn K (.ref f_have_common) = true)
    (a_read_parts : PySem.W.nsIn K mainGlobals "read_parts" = some (some (.ref f_read_parts)))
    (l_read_parts : K.lookup f_read_parts = some ⟨oc_read_parts, od_read_parts, .func (PySem.W.fnOf "read_parts" "read_parts" (defArgs s_read_parts) (defBody s_read_parts) (defScope s_read_parts) .none kV_read_parts dc_read_parts pm_read_parts an_read_parts cd_read_parts ct_read_parts), sl_read_parts⟩)
    (c_read_parts_ : PySem.W.codeIn K cd_read_parts "read_parts" = true)
    (k_read_parts : PySem.W.keepIn K (.ref f_read_parts) = true)
    (a_Lengths : PySem.W.nsIn K mainGlobals "Lengths" = some (some (.ref c_Lengths)))
    (h_Lengths_pg : PySem.W.plainGet K c_Lengths Str.empty = true)
    (h_Lengths_hd : PySem.W.hasDictIn K c_Lengths = true)
    (h_Lengths_po : PySem.W.plainOver K c_Lengths = true)
    (h_Lengths_sa : PySem.W.findIn K (.ref c_Lengths) "__setattr__" = some (some (.builtin "object.__setattr__")))
    (h_Lengths_cls : PySem.W.findIn K (.ref c_Lengths) "__class__" = some (some (.builtin "object.__class__")))
    (h_Lengths_get : PySem.W.specialIn K (.builtin "object.__class__") "__get__" = some (some (.builtin "getset_descriptor.__get__")))
    (h_Lengths_tak : PySem.W.takesIn K (.builtin "object.__class__") = some true)
    (h_Lengths_mro : PySem.W.mroIn K c_Lengths (.type "object") = some true)
    (h_na_Lengths__start : PySem.W.findIn K (.ref c_Lengths) "_start" = some none)
    (h_na_Lengths__period : PySem.W.findIn K (.ref c_Lengths) "_period" = some none)
    (h_na_Lengths__low : PySem.W.findIn K (.ref c_Lengths) "_low" = some none)
    (h_na_Lengths__rests : PySem.W.findIn K (.ref c_Lengths) "_rests" = some none)
    (h_na_Lengths__marks : PySem.W.findIn K (.ref c_Lengths) "_marks" = some none)
    (h_Lengths_mk : PySem.W.makesIn K c_Lengths = true)
    (h_Lengths_kp : PySem.W.keepIn K (.ref c_Lengths) = true)
    (a_Lengths___init__ : PySem.W.findIn K (.ref c_Lengths) "__init__" = some (some (.ref f_Lengths___init__)))
    (i_Lengths___init__ : PySem.W.isFn K (.ref f_Lengths___init__) = true)
    (l_Lengths___init__ : K.lookup f_Lengths___init__ = some ⟨oc_Lengths___init__, od_Lengths___init__, .func (PySem.W.fnOf "__init__" "Lengths.__init__" (defArgs s_Lengths___init__) (defBody s_Lengths___init__) (defScope s_Lengths___init__) (.ref dt_Lengths___init__) kV_Lengths___init__ dc_Lengths___init__ pm_Lengths___init__ an_Lengths___init__ cd_Lengths___init__ ct_Lengths___init__), sl_Lengths___init__⟩)
    (c_Lengths___init___ : PySem.W.codeIn K cd_Lengths___init__ "Lengths.__init__" = true)
    (k_Lengths___init__ : PySem.W.keepIn K (.ref f_Lengths___init__) = true)
    (lt_Lengths___init__ : K.lookup dt_Lengths___init__ = some ⟨.type "tuple", ot_Lengths___init__, .seq #[.ref dl_Lengths___init__, .int 1 tk_Lengths___init__, .ref dr_Lengths___init__] nt_Lengths___init__, st_Lengths___init__⟩)
    (ldl_Lengths___init__ : K.lookup dl_Lengths___init__ = some ⟨.type "tuple", odl_Lengths___init__, .seq #[] ndl_Lengths___init__, sdl_Lengths___init__⟩)
    (ldr_Lengths___init__ : K.lookup dr_Lengths___init__ = some ⟨.type "tuple", odr_Lengths___init__, .seq #[] ndr_Lengths___init__, sdr_Lengths___init__⟩)
    (a_Lengths___eq__ : PySem.W.findIn K (.ref c_Lengths) "__eq__" = some (some (.ref f_Lengths___eq__)))
    (i_Lengths___eq__ : PySem.W.isFn K (.ref f_Lengths___eq__) = true)
    (l_Lengths___eq__ : K.lookup f_Lengths___eq__ = some ⟨oc_Lengths___eq__, od_Lengths___eq__, .func (PySem.W.fnOf "__eq__" "Lengths.__eq__" (defArgs s_Lengths___eq__) (defBody s_Lengths___eq__) (defScope s_Lengths___eq__) .none kV_Lengths___eq__ dc_Lengths___eq__ pm_Lengths___eq__ an_Lengths___eq__ cd_Lengths___eq__ ct_Lengths___eq__), sl_Lengths___eq__⟩)
    (c_Lengths___eq___ : PySem.W.codeIn K cd_Lengths___eq__ "Lengths.__eq__" = true)
    (k_Lengths___eq__ : PySem.W.keepIn K (.ref f_Lengths___eq__) = true)
    (a_Lengths___contains__ : PySem.W.findIn K (.ref c_Lengths) "__contains__" = some (some (.ref f_Lengths___contains__)))
    (i_Lengths___contains__ : PySem.W.isFn K (.ref f_Lengths___contains__) = true)
    (l_Lengths___contains__ : K.lookup f_Lengths___contains__ = some ⟨oc_Lengths___contains__, od_Lengths___contains__, .func (PySem.W.fnOf "__contains__" "Lengths.__contains__" (defArgs s_Lengths___contains__) (defBody s_Lengths___contains__) (defScope s_Lengths___contains__) .none kV_Lengths___contains__ dc_Lengths___contains__ pm_Lengths___contains__ an_Lengths___contains__ cd_Lengths___contains__ ct_Lengths___contains__), sl_Lengths___contains__⟩)
    (c_Lengths___contains___ : PySem.W.codeIn K cd_Lengths___contains__ "Lengths.__contains__" = true)
    (k_Lengths___contains__ : PySem.W.keepIn K (.ref f_Lengths___contains__) = true)
    (a_Lengths___and__ : PySem.W.findIn K (.ref c_Lengths) "__and__" = some (some (.ref f_Lengths___and__)))
    (i_Lengths___and__ : PySem.W.isFn K (.ref f_Lengths___and__) = true)
    (l_Lengths___and__ : K.lookup f_Lengths___and__ = some ⟨oc_Lengths___and__, od_Lengths___and__, .func (PySem.W.fnOf "__and__" "Lengths.__and__" (defArgs s_Lengths___and__) (defBody s_Lengths___and__) (defScope s_Lengths___and__) .none kV_Lengths___and__ dc_Lengths___and__ pm_Lengths___and__ an_Lengths___and__ cd_Lengths___and__ ct_Lengths___and__), sl_Lengths___and__⟩)
    (c_Lengths___and___ : PySem.W.codeIn K cd_Lengths___and__ "Lengths.__and__" = true)
    (k_Lengths___and__ : PySem.W.keepIn K (.ref f_Lengths___and__) = true)
    (a_Lengths___or__ : PySem.W.findIn K (.ref c_Lengths) "__or__" = some (some (.ref f_Lengths___or__)))
    (i_Lengths___or__ : PySem.W.isFn K (.ref f_Lengths___or__) = true)
    (l_Lengths___or__ : K.lookup f_Lengths___or__ = some ⟨oc_Lengths___or__, od_Lengths___or__, .func (PySem.W.fnOf "__or__" "Lengths.__or__" (defArgs s_Lengths___or__) (defBody s_Lengths___or__) (defScope s_Lengths___or__) .none kV_Lengths___or__ dc_Lengths___or__ pm_Lengths___or__ an_Lengths___or__ cd_Lengths___or__ ct_Lengths___or__), sl_Lengths___or__⟩)
    (c_Lengths___or___ : PySem.W.codeIn K cd_Lengths___or__ "Lengths.__or__" = true)
    (k_Lengths___or__ : PySem.W.keepIn K (.ref f_Lengths___or__) = true)
    (a_Lengths___sub__ : PySem.W.findIn K (.ref c_Lengths) "__sub__" = some (some (.ref f_Lengths___sub__)))
    (i_Lengths___sub__ : PySem.W.isFn K (.ref f_Lengths___sub__) = true)
    (l_Lengths___sub__ : K.lookup f_Lengths___sub__ = some ⟨oc_Lengths___sub__, od_Lengths___sub__, .func (PySem.W.fnOf "__sub__" "Lengths.__sub__" (defArgs s_Lengths___sub__) (defBody s_Lengths___sub__) (defScope s_Lengths___sub__) .none kV_Lengths___sub__ dc_Lengths___sub__ pm_Lengths___sub__ an_Lengths___sub__ cd_Lengths___sub__ ct_Lengths___sub__), sl_Lengths___sub__⟩)
    (c_Lengths___sub___ : PySem.W.codeIn K cd_Lengths___sub__ "Lengths.__sub__" = true)
    (k_Lengths___sub__ : PySem.W.keepIn K (.ref f_Lengths___sub__) = true)
    (a_Lengths___invert__ : PySem.W.findIn K (.ref c_Lengths) "__invert__" = some (some (.ref f_Lengths___invert__)))
    (i_Lengths___invert__ : PySem.W.isFn K (.ref f_Lengths___invert__) = true)
    (l_Lengths___invert__ : K.lookup f_Lengths___invert__ = some ⟨oc_Lengths___invert__, od_Lengths___invert__, .func (PySem.W.fnOf "__invert__" "Lengths.__invert__" (defArgs s_Lengths___invert__) (defBody s_Lengths___invert__) (defScope s_Lengths___invert__) .none kV_Lengths___invert__ dc_Lengths___invert__ pm_Lengths___invert__ an_Lengths___invert__ cd_Lengths___invert__ ct_Lengths___invert__), sl_Lengths___invert__⟩)
    (c_Lengths___invert___ : PySem.W.codeIn K cd_Lengths___invert__ "Lengths.__invert__" = true)
    (k_Lengths___invert__ : PySem.W.keepIn K (.ref f_Lengths___invert__) = true)
    (a_Lengths___le__ : PySem.W.findIn K (.ref c_Lengths) "__le__" = some (some (.ref f_Lengths___le__)))
    (i_Lengths___le__ : PySem.W.isFn K (.ref f_Lengths___le__) = true)
    (l_Lengths___le__ : K.lookup f_Lengths___le__ = some ⟨oc_Lengths___le__, od_Lengths___le__, .func (PySem.W.fnOf "__le__" "Lengths.__le__" (defArgs s_Lengths___le__) (defBody s_Lengths___le__) (defScope s_Lengths___le__) .none kV_Lengths___le__ dc_Lengths___le__ pm_Lengths___le__ an_Lengths___le__ cd_Lengths___le__ ct_Lengths___le__), sl_Lengths___le__⟩)
    (c_Lengths___le___ : PySem.W.codeIn K cd_Lengths___le__ "Lengths.__le__" = true)
    (k_Lengths___le__ : PySem.W.keepIn K (.ref f_Lengths___le__) = true)
    (a_Lengths___lt__ : PySem.W.findIn K (.ref c_Lengths) "__lt__" = some (some (.ref f_Lengths___lt__)))
    (i_Lengths___lt__ : PySem.W.isFn K (.ref f_Lengths___lt__) = true)
    (l_Lengths___lt__ : K.lookup f_Lengths___lt__ = some ⟨oc_Lengths___lt__, od_Lengths___lt__, .func (PySem.W.fnOf "__lt__" "Lengths.__lt__" (defArgs s_Lengths___lt__) (defBody s_Lengths___lt__) (defScope s_Lengths___lt__) .none kV_Lengths___lt__ dc_Lengths___lt__ pm_Lengths___lt__ an_Lengths___lt__ cd_Lengths___lt__ ct_Lengths___lt__), sl_Lengths___lt__⟩)
    (c_Lengths___lt___ : PySem.W.codeIn K cd_Lengths___lt__ "Lengths.__lt__" = true)
    (k_Lengths___lt__ : PySem.W.keepIn K (.ref f_Lengths___lt__) = true)
    (a_Lengths___ge__ : PySem.W.findIn K (.ref c_Lengths) "__ge__" = some (some (.ref f_Lengths___ge__)))
    (i_Lengths___ge__ : PySem.W.isFn K (.ref f_Lengths___ge__) = true)
    (l_Lengths___ge__ : K.lookup f_Lengths___ge__ = some ⟨oc_Lengths___ge__, od_Lengths___ge__, .func (PySem.W.fnOf "__ge__" "Lengths.__ge__" (defArgs s_Lengths___ge__) (defBody s_Lengths___ge__) (defScope s_Lengths___ge__) .none kV_Lengths___ge__ dc_Lengths___ge__ pm_Lengths___ge__ an_Lengths___ge__ cd_Lengths___ge__ ct_Lengths___ge__), sl_Lengths___ge__⟩)
    (c_Lengths___ge___ : PySem.W.codeIn K cd_Lengths___ge__ "Lengths.__ge__" = true)
    (k_Lengths___ge__ : PySem.W.keepIn K (.ref f_Lengths___ge__) = true)
    (a_Lengths___gt__ : PySem.W.findIn K (.ref c_Lengths) "__gt__" = some (some (.ref f_Lengths___gt__)))
    (i_Lengths___gt__ : PySem.W.isFn K (.ref f_Lengths___gt__) = true)
    (l_Lengths___gt__ : K.lookup f_Lengths___gt__ = some ⟨oc_Lengths___gt__, od_Lengths___gt__, .func (PySem.W.fnOf "__gt__" "Lengths.__gt__" (defArgs s_Lengths___gt__) (defBody s_Lengths___gt__) (defScope s_Lengths___gt__) .none kV_Lengths___gt__ dc_Lengths___gt__ pm_Lengths___gt__ an_Lengths___gt__ cd_Lengths___gt__ ct_Lengths___gt__), sl_Lengths___gt__⟩)
    (c_Lengths___gt___ : PySem.W.codeIn K cd_Lengths___gt__ "Lengths.__gt__" = true)
    (k_Lengths___gt__ : PySem.W.keepIn K (.ref f_Lengths___gt__) = true)
    (a_Lengths___bool__ : PySem.W.findIn K (.ref c_Lengths) "__bool__" = some (some (.ref f_Lengths___bool__)))
    (i_Lengths___bool__ : PySem.W.isFn K (.ref f_Lengths___bool__) = true)
    (l_Lengths___bool__ : K.lookup f_Lengths___bool__ = some ⟨oc_Lengths___bool__, od_Lengths___bool__, .func (PySem.W.fnOf "__bool__" "Lengths.__bool__" (defArgs s_Lengths___bool__) (defBody s_Lengths___bool__) (defScope s_Lengths___bool__) .none kV_Lengths___bool__ dc_Lengths___bool__ pm_Lengths___bool__ an_Lengths___bool__ cd_Lengths___bool__ ct_Lengths___bool__), sl_Lengths___bool__⟩)
    (c_Lengths___bool___ : PySem.W.codeIn K cd_Lengths___bool__ "Lengths.__bool__" = true)
    (k_Lengths___bool__ : PySem.W.keepIn K (.ref f_Lengths___bool__) = true)
    (a_Lengths___str__ : PySem.W.findIn K (.ref c_Lengths) "__str__" = some (some (.ref f_Lengths___str__)))
    (i_Lengths___str__ : PySem.W.isFn K (.ref f_Lengths___str__) = true)
    (l_Lengths___str__ : K.lookup f_Lengths___str__ = some ⟨oc_Lengths___str__, od_Lengths___str__, .func (PySem.W.fnOf "__str__" "Lengths.__str__" (defArgs s_Lengths___str__) (defBody s_Lengths___str__) (defScope s_Lengths___str__) .none kV_Lengths___str__ dc_Lengths___str__ pm_Lengths___str__ an_Lengths___str__ cd_Lengths___str__ ct_Lengths___str__), sl_Lengths___str__⟩)
    (c_Lengths___str___ : PySem.W.codeIn K cd_Lengths___str__ "Lengths.__str__" = true)
    (k_Lengths___str__ : PySem.W.keepIn K (.ref f_Lengths___str__) = true)
    (a_Lengths_at_least : PySem.W.findIn K (.ref c_Lengths) "at_least" = some (some (.ref f_Lengths_at_least)))
    (i_Lengths_at_least : PySem.W.isFn K (.ref f_Lengths_at_least) = true)
    (l_Lengths_at_least : K.lookup f_Lengths_at_least = some ⟨oc_Lengths_at_least, od_Lengths_at_least, .func (PySem.W.fnOf "at_least" "Lengths.at_least" (defArgs s_Lengths_at_least) (defBody s_Lengths_at_least) (defScope s_Lengths_at_least) .none kV_Lengths_at_least dc_Lengths_at_least pm_Lengths_at_least an_Lengths_at_least cd_Lengths_at_least ct_Lengths_at_least), sl_Lengths_at_least⟩)
    (c_Lengths_at_least_ : PySem.W.codeIn K cd_Lengths_at_least "Lengths.at_least" = true)
    (k_Lengths_at_least : PySem.W.keepIn K (.ref f_Lengths_at_least) = true)
    (a_Lengths_below : PySem.W.findIn K (.ref c_Lengths) "below" = some (some (.ref f_Lengths_below)))
    (i_Lengths_below : PySem.W.isFn K (.ref f_Lengths_below) = true)
    (l_Lengths_below : K.lookup f_Lengths_below = some ⟨oc_Lengths_below, od_Lengths_below, .func (PySem.W.fnOf "below" "Lengths.below" (defArgs s_Lengths_below) (defBody s_Lengths_below) (defScope s_Lengths_below) .none kV_Lengths_below dc_Lengths_below pm_Lengths_below an_Lengths_below cd_Lengths_below ct_Lengths_below), sl_Lengths_below⟩)
    (c_Lengths_below_ : PySem.W.codeIn K cd_Lengths_below "Lengths.below" = true)
    (k_Lengths_below : PySem.W.keepIn K (.ref f_Lengths_below) = true)
    (h_Lengths_ne : PySem.W.findIn K (.ref c_Lengths) "__ne__" = some (some (.builtin "object.__ne__")))
    (h_Lengths_sf : PySem.W.selfFirst K c_Lengths = true)
    (h_Lengths_rand : PySem.W.findIn K (.ref c_Lengths) "__rand__" = some none)
    (h_Lengths_iand : PySem.W.findIn K (.ref c_Lengths) "__iand__" = some none)
    (h_Lengths_cd : PySem.W.clsIn K c_Lengths = some cd_Lengths)
    (h_Lengths_cm : cd_Lengths.mro = [.ref c_Lengths, .type "object"])
    (h_Lengths_ror : PySem.W.findIn K (.ref c_Lengths) "__ror__" = some none)
    (h_Lengths_ior : PySem.W.findIn K (.ref c_Lengths) "__ior__" = some none)
    (h_Lengths_rsub : PySem.W.findIn K (.ref c_Lengths) "__rsub__" = some none)
    (h_Lengths_isub : PySem.W.findIn K (.ref c_Lengths) "__isub__" = some none)
    (h_Lengths_rd : PySem.W.readsIn K c_Lengths (.type "type") = true)
    (h_Lengths_tg : PySem.W.specialIn K (.ref c_Lengths) "__getattribute__" = some (some (.builtin "type.__getattribute__")))
    (ca_Lengths_read : PySem.W.findCls K (.ref c_Lengths) (.type "type") "read" = some (.get (.builtin "classmethod.__get__") (.ref p_Lengths_read) .none (.ref c_Lengths)))
    (cr_Lengths_read : PySem.W.recIn K p_Lengths_read "classmethod" = some (.ref f_Lengths_read :: rest_Lengths_read))
    (cf_Lengths_read : PySem.W.fnIn K f_Lengths_read = true)
    (l_Lengths_read : K.lookup f_Lengths_read = some ⟨oc_Lengths_read, od_Lengths_read, .func (PySem.W.fnOf "read" "Lengths.read" (defArgs s_Lengths_read) (defBody s_Lengths_read) (defScope s_Lengths_read) .none kV_Lengths_read dc_Lengths_read pm_Lengths_read an_Lengths_read cd_Lengths_read ct_Lengths_read), sl_Lengths_read⟩)
    (c_Lengths_read_ : PySem.W.codeIn K cd_Lengths_read "Lengths.read" = true)
    (k_Lengths_read : PySem.W.keepIn K (.ref f_Lengths_read) = true)
    (ca_Lengths_none : PySem.W.findCls K (.ref c_Lengths) (.type "type") "none" = some (.get (.builtin "staticmethod.__get__") (.ref p_Lengths_none) .none (.ref c_Lengths)))
    (cr_Lengths_none : PySem.W.recIn K p_Lengths_none "staticmethod" = some (.ref f_Lengths_none :: rest_Lengths_none))
    (l_Lengths_none : K.lookup f_Lengths_none = some ⟨oc_Lengths_none, od_Lengths_none, .func (PySem.W.fnOf "none" "Lengths.none" (defArgs s_Lengths_none) (defBody s_Lengths_none) (defScope s_Lengths_none) .none kV_Lengths_none dc_Lengths_none pm_Lengths_none an_Lengths_none cd_Lengths_none ct_Lengths_none), sl_Lengths_none⟩)
    (c_Lengths_none_ : PySem.W.codeIn K cd_Lengths_none "Lengths.none" = true)
    (k_Lengths_none : PySem.W.keepIn K (.ref f_Lengths_none) = true)
    (ca_Lengths_every : PySem.W.findCls K (.ref c_Lengths) (.type "type") "every" = some (.get (.builtin "staticmethod.__get__") (.ref p_Lengths_every) .none (.ref c_Lengths)))
    (cr_Lengths_every : PySem.W.recIn K p_Lengths_every "staticmethod" = some (.ref f_Lengths_every :: rest_Lengths_every))
    (l_Lengths_every : K.lookup f_Lengths_every = some ⟨oc_Lengths_every, od_Lengths_every, .func (PySem.W.fnOf "every" "Lengths.every" (defArgs s_Lengths_every) (defBody s_Lengths_every) (defScope s_Lengths_every) .none kV_Lengths_every dc_Lengths_every pm_Lengths_every an_Lengths_every cd_Lengths_every ct_Lengths_every), sl_Lengths_every⟩)
    (c_Lengths_every_ : PySem.W.codeIn K cd_Lengths_every "Lengths.every" = true)
    (k_Lengths_every : PySem.W.keepIn K (.ref f_Lengths_every) = true)
    (ca_Lengths_of : PySem.W.findCls K (.ref c_Lengths) (.type "type") "of" = some (.get (.builtin "staticmethod.__get__") (.ref p_Lengths_of) .none (.ref c_Lengths)))
    (cr_Lengths_of : PySem.W.recIn K p_Lengths_of "staticmethod" = some (.ref f_Lengths_of :: rest_Lengths_of))
    (l_Lengths_of : K.lookup f_Lengths_of = some ⟨oc_Lengths_of, od_Lengths_of, .func (PySem.W.fnOf "of" "Lengths.of" (defArgs s_Lengths_of) (defBody s_Lengths_of) (defScope s_Lengths_of) .none kV_Lengths_of dc_Lengths_of pm_Lengths_of an_Lengths_of cd_Lengths_of ct_Lengths_of), sl_Lengths_of⟩)
    (c_Lengths_of_ : PySem.W.codeIn K cd_Lengths_of "Lengths.of" = true)
    (k_Lengths_of : PySem.W.keepIn K (.ref f_Lengths_of) = true)
    (ca_Lengths_since : PySem.W.findCls K (.ref c_Lengths) (.type "type") "since" = some (.get (.builtin "staticmethod.__get__") (.ref p_Lengths_since) .none (.ref c_Lengths)))
    (cr_Lengths_since : PySem.W.recIn K p_Lengths_since "staticmethod" = some (.ref f_Lengths_since :: rest_Lengths_since))
    (l_Lengths_since : K.lookup f_Lengths_since = some ⟨oc_Lengths_since, od_Lengths_since, .func (PySem.W.fnOf "since" "Lengths.since" (defArgs s_Lengths_since) (defBody s_Lengths_since) (defScope s_Lengths_since) .none kV_Lengths_since dc_Lengths_since pm_Lengths_since an_Lengths_since cd_Lengths_since ct_Lengths_since), sl_Lengths_since⟩)
    (c_Lengths_since_ : PySem.W.codeIn K cd_Lengths_since "Lengths.since" = true)
    (k_Lengths_since : PySem.W.keepIn K (.ref f_Lengths_since) = true)
    (ca_Lengths_steps : PySem.W.findCls K (.ref c_Lengths) (.type "type") "steps" = some (.get (.builtin "staticmethod.__get__") (.ref p_Lengths_steps) .none (.ref c_Lengths)))
    (cr_Lengths_steps : PySem.W.recIn K p_Lengths_steps "staticmethod" = some (.ref f_Lengths_steps :: rest_Lengths_steps))
    (l_Lengths_steps : K.lookup f_Lengths_steps = some ⟨oc_Lengths_steps, od_Lengths_steps, .func (PySem.W.fnOf "steps" "Lengths.steps" (defArgs s_Lengths_steps) (defBody s_Lengths_steps) (defScope s_Lengths_steps) .none kV_Lengths_steps dc_Lengths_steps pm_Lengths_steps an_Lengths_steps cd_Lengths_steps ct_Lengths_steps), sl_Lengths_steps⟩)
    (c_Lengths_steps_ : PySem.W.codeIn K cd_Lengths_steps "Lengths.steps" = true)
    (k_Lengths_steps : PySem.W.keepIn K (.ref f_Lengths_steps) = true)
    (pa_Lengths_start : PySem.W.findIn K (.ref c_Lengths) "start" = some (some (.ref p_Lengths_start)))
    (pg_Lengths_start : PySem.W.specialIn K (.ref p_Lengths_start) "__get__" = some (some (.builtin "property.__get__")))
    (pt_Lengths_start : PySem.W.takesIn K (.ref p_Lengths_start) = some true)
    (pr_Lengths_start : PySem.W.recIn K p_Lengths_start "property" = some (.ref f_Lengths_start :: rest_Lengths_start))
    (l_Lengths_start : K.lookup f_Lengths_start = some ⟨oc_Lengths_start, od_Lengths_start, .func (PySem.W.fnOf "start" "Lengths.start" (defArgs s_Lengths_start) (defBody s_Lengths_start) (defScope s_Lengths_start) .none kV_Lengths_start dc_Lengths_start pm_Lengths_start an_Lengths_start cd_Lengths_start ct_Lengths_start), sl_Lengths_start⟩)
    (c_Lengths_start_ : PySem.W.codeIn K cd_Lengths_start "Lengths.start" = true)
    (k_Lengths_start : PySem.W.keepIn K (.ref f_Lengths_start) = true)
    (pa_Lengths_period : PySem.W.findIn K (.ref c_Lengths) "period" = some (some (.ref p_Lengths_period)))
    (pg_Lengths_period : PySem.W.specialIn K (.ref p_Lengths_period) "__get__" = some (some (.builtin "property.__get__")))
    (pt_Lengths_period : PySem.W.takesIn K (.ref p_Lengths_period) = some true)
    (pr_Lengths_period : PySem.W.recIn K p_Lengths_period "property" = some (.ref f_Lengths_period :: rest_Lengths_period))
    (l_Lengths_period : K.lookup f_Lengths_period = some ⟨oc_Lengths_period, od_Lengths_period, .func (PySem.W.fnOf "period" "Lengths.period" (defArgs s_Lengths_period) (defBody s_Lengths_period) (defScope s_Lengths_period) .none kV_Lengths_period dc_Lengths_period pm_Lengths_period an_Lengths_period cd_Lengths_period ct_Lengths_period), sl_Lengths_period⟩)
    (c_Lengths_period_ : PySem.W.codeIn K cd_Lengths_period "Lengths.period" = true)
    (k_Lengths_period : PySem.W.keepIn K (.ref f_Lengths_period) = true)
    (pa_Lengths_low : PySem.W.findIn K (.ref c_Lengths) "low" = some (some (.ref p_Lengths_low)))
    (pg_Lengths_low : PySem.W.specialIn K (.ref p_Lengths_low) "__get__" = some (some (.builtin "property.__get__")))
    (pt_Lengths_low : PySem.W.takesIn K (.ref p_Lengths_low) = some true)
    (pr_Lengths_low : PySem.W.recIn K p_Lengths_low "property" = some (.ref f_Lengths_low :: rest_Lengths_low))
    (l_Lengths_low : K.lookup f_Lengths_low = some ⟨oc_Lengths_low, od_Lengths_low, .func (PySem.W.fnOf "low" "Lengths.low" (defArgs s_Lengths_low) (defBody s_Lengths_low) (defScope s_Lengths_low) .none kV_Lengths_low dc_Lengths_low pm_Lengths_low an_Lengths_low cd_Lengths_low ct_Lengths_low), sl_Lengths_low⟩)
    (c_Lengths_low_ : PySem.W.codeIn K cd_Lengths_low "Lengths.low" = true)
    (k_Lengths_low : PySem.W.keepIn K (.ref f_Lengths_low) = true)
    (pa_Lengths_rests : PySem.W.findIn K (.ref c_Lengths) "rests" = some (some (.ref p_Lengths_rests)))
    (pg_Lengths_rests : PySem.W.specialIn K (.ref p_Lengths_rests) "__get__" = some (some (.builtin "property.__get__")))
    (pt_Lengths_rests : PySem.W.takesIn K (.ref p_Lengths_rests) = some true)
    (pr_Lengths_rests : PySem.W.recIn K p_Lengths_rests "property" = some (.ref f_Lengths_rests :: rest_Lengths_rests))
    (l_Lengths_rests : K.lookup f_Lengths_rests = some ⟨oc_Lengths_rests, od_Lengths_rests, .func (PySem.W.fnOf "rests" "Lengths.rests" (defArgs s_Lengths_rests) (defBody s_Lengths_rests) (defScope s_Lengths_rests) .none kV_Lengths_rests dc_Lengths_rests pm_Lengths_rests an_Lengths_rests cd_Lengths_rests ct_Lengths_rests), sl_Lengths_rests⟩)
    (c_Lengths_rests_ : PySem.W.codeIn K cd_Lengths_rests "Lengths.rests" = true)
    (k_Lengths_rests : PySem.W.keepIn K (.ref f_Lengths_rests) = true)
    (pa_Lengths_is_finite : PySem.W.findIn K (.ref c_Lengths) "is_finite" = some (some (.ref p_Lengths_is_finite)))
    (pg_Lengths_is_finite : PySem.W.specialIn K (.ref p_Lengths_is_finite) "__get__" = some (some (.builtin "property.__get__")))
    (pt_Lengths_is_finite : PySem.W.takesIn K (.ref p_Lengths_is_finite) = some true)
    (pr_Lengths_is_finite : PySem.W.recIn K p_Lengths_is_finite "property" = some (.ref f_Lengths_is_finite :: rest_Lengths_is_finite))
    (l_Lengths_is_finite : K.lookup f_Lengths_is_finite = some ⟨oc_Lengths_is_finite, od_Lengths_is_finite, .func (PySem.W.fnOf "is_finite" "Lengths.is_finite" (defArgs s_Lengths_is_finite) (defBody s_Lengths_is_finite) (defScope s_Lengths_is_finite) .none kV_Lengths_is_finite dc_Lengths_is_finite pm_Lengths_is_finite an_Lengths_is_finite cd_Lengths_is_finite ct_Lengths_is_finite), sl_Lengths_is_finite⟩)
    (c_Lengths_is_finite_ : PySem.W.codeIn K cd_Lengths_is_finite "Lengths.is_finite" = true)
    (k_Lengths_is_finite : PySem.W.keepIn K (.ref f_Lengths_is_finite) = true)
    (pa_Lengths_last_gap : PySem.W.findIn K (.ref c_Lengths) "last_gap" = some (some (.ref p_Lengths_last_gap)))
    (pg_Lengths_last_gap : PySem.W.specialIn K (.ref p_Lengths_last_gap) "__get__" = some (some (.builtin "property.__get__")))
    (pt_Lengths_last_gap : PySem.W.takesIn K (.ref p_Lengths_last_gap) = some true)
    (pr_Lengths_last_gap : PySem.W.recIn K p_Lengths_last_gap "property" = some (.ref f_Lengths_last_gap :: rest_Lengths_last_gap))
    (l_Lengths_last_gap : K.lookup f_Lengths_last_gap = some ⟨oc_Lengths_last_gap, od_Lengths_last_gap, .func (PySem.W.fnOf "last_gap" "Lengths.last_gap" (defArgs s_Lengths_last_gap) (defBody s_Lengths_last_gap) (defScope s_Lengths_last_gap) .none kV_Lengths_last_gap dc_Lengths_last_gap pm_Lengths_last_gap an_Lengths_last_gap cd_Lengths_last_gap ct_Lengths_last_gap), sl_Lengths_last_gap⟩)
    (c_Lengths_last_gap_ : PySem.W.codeIn K cd_Lengths_last_gap "Lengths.last_gap" = true)
    (k_Lengths_last_gap : PySem.W.keepIn K (.ref f_Lengths_last_gap) = true)
    (h_kit_Lengths : PySem.W.kitOne K (.ref c_Lengths) (.ref c_Lengths) = some true)
    (h_kit_NoneType_Lengths : PySem.W.kitOne K (.type "NoneType") (.ref c_Lengths) = some false)
    (h_kit_int_Lengths : PySem.W.kitOne K (.type "int") (.ref c_Lengths) = some false)
    (a_gcd : PySem.W.nsIn K mainGlobals "gcd" = some (some (.builtin "math.gcd")))
    (a_lcm : PySem.W.nsIn K mainGlobals "lcm" = some (some (.builtin "math.lcm")))
    (a__law_pen : PySem.W.nsIn K mainGlobals "_law_pen" = some (some (.ref f__law_pen)))
    (l__law_pen : K.lookup f__law_pen = some ⟨oc__law_pen, od__law_pen, .func (PySem.W.fnOf "_law_pen" "_law_pen" (defArgs s__law_pen) (defBody s__law_pen) (defScope s__law_pen) .none kV__law_pen dc__law_pen pm__law_pen an__law_pen cd__law_pen ct__law_pen), sl__law_pen⟩)
    (c__law_pen_ : PySem.W.codeIn K cd__law_pen "_law_pen" = true)
    (k__law_pen : PySem.W.keepIn K (.ref f__law_pen) = true)
    (a__law_draw : PySem.W.nsIn K mainGlobals "_law_draw" = some (some (.ref f__law_draw)))
    (l__law_draw : K.lookup f__law_draw = some ⟨oc__law_draw, od__law_draw, .func (PySem.W.fnOf "_law_draw" "_law_draw" (defArgs s__law_draw) (defBody s__law_draw) (defScope s__law_draw) .none kV__law_draw dc__law_draw pm__law_draw an__law_draw cd__law_draw ct__law_draw), sl__law_draw⟩)
    (c__law_draw_ : PySem.W.codeIn K cd__law_draw "_law_draw" = true)
    (k__law_draw : PySem.W.keepIn K (.ref f__law_draw) = true)
    (a__law_pick : PySem.W.nsIn K mainGlobals "_law_pick" = some (some (.ref f__law_pick)))
    (l__law_pick : K.lookup f__law_pick = some ⟨oc__law_pick, od__law_pick, .func (PySem.W.fnOf "_law_pick" "_law_pick" (defArgs s__law_pick) (defBody s__law_pick) (defScope s__law_pick) .none kV__law_pick dc__law_pick pm__law_pick an__law_pick cd__law_pick ct__law_pick), sl__law_pick⟩)
    (c__law_pick_ : PySem.W.codeIn K cd__law_pick "_law_pick" = true)
    (k__law_pick : PySem.W.keepIn K (.ref f__law_pick) = true)
    (a__law_set : PySem.W.nsIn K mainGlobals "_law_set" = some (some (.ref f__law_set)))
    (l__law_set : K.lookup f__law_set = some ⟨oc__law_set, od__law_set, .func (PySem.W.fnOf "_law_set" "_law_set" (defArgs s__law_set) (defBody s__law_set) (defScope s__law_set) .none kV__law_set dc__law_set pm__law_set an__law_set cd__law_set ct__law_set), sl__law_set⟩)
    (c__law_set_ : PySem.W.codeIn K cd__law_set "_law_set" = true)
    (k__law_set : PySem.W.keepIn K (.ref f__law_set) = true)
    (a__law_far : PySem.W.nsIn K mainGlobals "_law_far" = some (some (.ref f__law_far)))
    (l__law_far : K.lookup f__law_far = some ⟨oc__law_far, od__law_far, .func (PySem.W.fnOf "_law_far" "_law_far" (defArgs s__law_far) (defBody s__law_far) (defScope s__law_far) .none kV__law_far dc__law_far pm__law_far an__law_far cd__law_far ct__law_far), sl__law_far⟩)
    (c__law_far_ : PySem.W.codeIn K cd__law_far "_law_far" = true)
    (k__law_far : PySem.W.keepIn K (.ref f__law_far) = true)
    (a__law_sets_right : PySem.W.nsIn K mainGlobals "_law_sets_right" = some (some (.ref f__law_sets_right)))
    (l__law_sets_right : K.lookup f__law_sets_right = some ⟨oc__law_sets_right, od__law_sets_right, .func (PySem.W.fnOf "_law_sets_right" "_law_sets_right" (defArgs s__law_sets_right) (defBody s__law_sets_right) (defScope s__law_sets_right) .none kV__law_sets_right dc__law_sets_right pm__law_sets_right an__law_sets_right cd__law_sets_right ct__law_sets_right), sl__law_sets_right⟩)
    (c__law_sets_right_ : PySem.W.codeIn K cd__law_sets_right "_law_sets_right" = true)
    (k__law_sets_right : PySem.W.keepIn K (.ref f__law_sets_right) = true)
    (a__law_numbers_right : PySem.W.nsIn K mainGlobals "_law_numbers_right" = some (some (.ref f__law_numbers_right)))
    (l__law_numbers_right : K.lookup f__law_numbers_right = some ⟨oc__law_numbers_right, od__law_numbers_right, .func (PySem.W.fnOf "_law_numbers_right" "_law_numbers_right" (defArgs s__law_numbers_right) (defBody s__law_numbers_right) (defScope s__law_numbers_right) .none kV__law_numbers_right dc__law_numbers_right pm__law_numbers_right an__law_numbers_right cd__law_numbers_right ct__law_numbers_right), sl__law_numbers_right⟩)
    (c__law_numbers_right_ : PySem.W.codeIn K cd__law_numbers_right "_law_numbers_right" = true)
    (k__law_numbers_right : PySem.W.keepIn K (.ref f__law_numbers_right) = true)
    (a__law_parts_right : PySem.W.nsIn K mainGlobals "_law_parts_right" = some (some (.ref f__law_parts_right)))
    (l__law_parts_right : K.lookup f__law_parts_right = some ⟨oc__law_parts_right, od__law_parts_right, .func (PySem.W.fnOf "_law_parts_right" "_law_parts_right" (defArgs s__law_parts_right) (defBody s__law_parts_right) (defScope s__law_parts_right) .none kV__law_parts_right dc__law_parts_right pm__law_parts_right an__law_parts_right cd__law_parts_right ct__law_parts_right), sl__law_parts_right⟩)
    (c__law_parts_right_ : PySem.W.codeIn K cd__law_parts_right "_law_parts_right" = true)
    (k__law_parts_right : PySem.W.keepIn K (.ref f__law_parts_right) = true)
    (a_law : PySem.W.nsIn K mainGlobals "law" = some (some (.ref f_law)))
    (l_law : K.lookup f_law = some ⟨oc_law, od_law, .func (PySem.W.fnOf "law" "law" (defArgs s_law) (defBody s_law) (defScope s_law) .none kV_law dc_law pm_law an_law cd_law ct_law), sl_law⟩)
    (c_law_ : PySem.W.codeIn K cd_law "law" = true)
    (k_law : PySem.W.keepIn K (.ref f_law) = true)
    (z_isinstance : PySem.W.nsIn K mainGlobals "isinstance" = some none)
    (z_int : PySem.W.nsIn K mainGlobals "int" = some none)
    (z_bool : PySem.W.nsIn K mainGlobals "bool" = some none)
    (z_len : PySem.W.nsIn K mainGlobals "len" = some none)
    (z_tuple : PySem.W.nsIn K mainGlobals "tuple" = some none)
    (z_range : PySem.W.nsIn K mainGlobals "range" = some none)
    (z_list : PySem.W.nsIn K mainGlobals "list" = some none)
    (z_abs : PySem.W.nsIn K mainGlobals "abs" = some none)
    (z_str : PySem.W.nsIn K mainGlobals "str" = some none)
    (z_all : PySem.W.nsIn K mainGlobals "all" = some none)
    (z_any : PySem.W.nsIn K mainGlobals "any" = some none)
    (z_max : PySem.W.nsIn K mainGlobals "max" = some none)
    (z_divmod : PySem.W.nsIn K mainGlobals "divmod" = some none)
    (a_DIGITS : PySem.W.nsIn K mainGlobals "DIGITS" = some (some (.int 12 t_DIGITS)))
    (h_Lengths_MOST : PySem.W.findCls K (.ref c_Lengths) (.type "type") "MOST" = some (.val (.int 400 t_Lengths_MOST)))
    : LawAtG l w K CX0 40 63 "script" mg fa h := by
  have F_is_whole := fun_mk (st := s_is_whole) l_is_whole c_is_whole_ k_is_whole
  have F_is_from := fun_mk (st := s_is_from) l_is_from c_is_from_ k_is_from
  have F_are_from := fun_mk (st := s_are_from) l_are_from c_are_from_ k_are_from
  have F_read_number := fun_mk (st := s_read_number) l_read_number c_read_number_ k_read_number
  have F_marked := fun_mk (st := s_marked) l_marked c_marked_ k_marked
  have F_least_period := fun_mk (st := s_least_period) l_least_period c_least_period_ k_least_period
  have F_check_parts := fun_mk (st := s_check_parts) l_check_parts c_check_parts_ k_check_parts
  have F_check_size := fun_mk (st := s_check_size) l_check_size c_check_size_ k_check_size
  have F_check_argument := fun_mk (st := s_check_argument) l_check_argument c_check_argument_ k_check_argument
  have F_check_number := fun_mk (st := s_check_number) l_check_number c_check_number_ k_check_number
  have F_common_form := fun_mk (st := s_common_form) l_common_form c_common_form_ k_common_form
  have F_gathered := fun_mk (st := s_gathered) l_gathered c_gathered_ k_gathered
  have F_have_common := fun_mk (st := s_have_common) l_have_common c_have_common_ k_have_common
  have F_read_parts := fun_mk (st := s_read_parts) l_read_parts c_read_parts_ k_read_parts
  have F_Lengths___init__ : FunD K "__init__" "Lengths.__init__" (defArgs s_Lengths___init__) (defBody s_Lengths___init__) (defScope s_Lengths___init__) [.ref dl_Lengths___init__, .int 1, .ref dr_Lengths___init__] [] f_Lengths___init__ _ := ⟨⟨oc_Lengths___init__, od_Lengths___init__, .ref dt_Lengths___init__, kV_Lengths___init__, dc_Lengths___init__, pm_Lengths___init__, an_Lengths___init__, cd_Lengths___init__, ct_Lengths___init__, sl_Lengths___init__, rfl, l_Lengths___init__, c_Lengths___init___, .inr ⟨by simp, dt_Lengths___init__, _, [.ref dl_Lengths___init__, .int 1 tk_Lengths___init__, .ref dr_Lengths___init__], nt_Lengths___init__, rfl, lt_Lengths___init__, rfl, .cons rfl (.cons ⟨_, rfl⟩ (.cons rfl .nil))⟩, .inl rfl⟩, k_Lengths___init__⟩
  have F_Lengths___eq__ := fun_mk (st := s_Lengths___eq__) l_Lengths___eq__ c_Lengths___eq___ k_Lengths___eq__
  have F_Lengths___contains__ := fun_mk (st := s_Lengths___contains__) l_Lengths___contains__ c_Lengths___contains___ k_Lengths___contains__
  have F_Lengths___and__ := fun_mk (st := s_Lengths___and__) l_Lengths___and__ c_Lengths___and___ k_Lengths___and__
  have F_Lengths___or__ := fun_mk (st := s_Lengths___or__) l_Lengths___or__ c_Lengths___or___ k_Lengths___or__
  have F_Lengths___sub__ := fun_mk (st := s_Lengths___sub__) l_Lengths___sub__ c_Lengths___sub___ k_Lengths___sub__
  have F_Lengths___invert__ := fun_mk (st := s_Lengths___invert__) l_Lengths___invert__ c_Lengths___invert___ k_Lengths___invert__
  have F_Lengths___le__ := fun_mk (st := s_Lengths___le__) l_Lengths___le__ c_Lengths___le___ k_Lengths___le__
  have F_Lengths___lt__ := fun_mk (st := s_Lengths___lt__) l_Lengths___lt__ c_Lengths___lt___ k_Lengths___lt__
  have F_Lengths___ge__ := fun_mk (st := s_Lengths___ge__) l_Lengths___ge__ c_Lengths___ge___ k_Lengths___ge__
  have F_Lengths___gt__ := fun_mk (st := s_Lengths___gt__) l_Lengths___gt__ c_Lengths___gt___ k_Lengths___gt__
  have F_Lengths___bool__ := fun_mk (st := s_Lengths___bool__) l_Lengths___bool__ c_Lengths___bool___ k_Lengths___bool__
  have F_Lengths___str__ := fun_mk (st := s_Lengths___str__) l_Lengths___str__ c_Lengths___str___ k_Lengths___str__
  have F_Lengths_at_least := fun_mk (st := s_Lengths_at_least) l_Lengths_at_least c_Lengths_at_least_ k_Lengths_at_least
  have F_Lengths_below := fun_mk (st := s_Lengths_below) l_Lengths_below c_Lengths_below_ k_Lengths_below
  have F_Lengths_read := fun_mk (st := s_Lengths_read) l_Lengths_read c_Lengths_read_ k_Lengths_read
  have F_Lengths_none := fun_mk (st := s_Lengths_none) l_Lengths_none c_Lengths_none_ k_Lengths_none
  have F_Lengths_every := fun_mk (st := s_Lengths_every) l_Lengths_every c_Lengths_every_ k_Lengths_every
  have F_Lengths_of := fun_mk (st := s_Lengths_of) l_Lengths_of c_Lengths_of_ k_Lengths_of
  have F_Lengths_since := fun_mk (st := s_Lengths_since) l_Lengths_since c_Lengths_since_ k_Lengths_since
  have F_Lengths_steps := fun_mk (st := s_Lengths_steps) l_Lengths_steps c_Lengths_steps_ k_Lengths_steps
  have F_Lengths_start := fun_mk (st := s_Lengths_start) l_Lengths_start c_Lengths_start_ k_Lengths_start
  have F_Lengths_period := fun_mk (st := s_Lengths_period) l_Lengths_period c_Lengths_period_ k_Lengths_period
  have F_Lengths_low := fun_mk (st := s_Lengths_low) l_Lengths_low c_Lengths_low_ k_Lengths_low
  have F_Lengths_rests := fun_mk (st := s_Lengths_rests) l_Lengths_rests c_Lengths_rests_ k_Lengths_rests
  have F_Lengths_is_finite := fun_mk (st := s_Lengths_is_finite) l_Lengths_is_finite c_Lengths_is_finite_ k_Lengths_is_finite
  have F_Lengths_last_gap := fun_mk (st := s_Lengths_last_gap) l_Lengths_last_gap c_Lengths_last_gap_ k_Lengths_last_gap
  have F__law_pen := fun_mk (st := s__law_pen) l__law_pen c__law_pen_ k__law_pen
  have F__law_draw := fun_mk (st := s__law_draw) l__law_draw c__law_draw_ k__law_draw
  have F__law_pick := fun_mk (st := s__law_pick) l__law_pick c__law_pick_ k__law_pick
  have F__law_set := fun_mk (st := s__law_set) l__law_set c__law_set_ k__law_set
  have F__law_far := fun_mk (st := s__law_far) l__law_far c__law_far_ k__law_far
  have F__law_sets_right := fun_mk (st := s__law_sets_right) l__law_sets_right c__law_sets_right_ k__law_sets_right
  have F__law_numbers_right := fun_mk (st := s__law_numbers_right) l__law_numbers_right c__law_numbers_right_ k__law_numbers_right
  have F__law_parts_right := fun_mk (st := s__law_parts_right) l__law_parts_right c__law_parts_right_ k__law_parts_right
  have F_law := fun_mk (st := s_law) l_law c_law_ k_law
  have ef : f_law = fa := Value.ref.inj (Option.some.inj ((PySem.W.mg_of X G a_law).symm.trans hfa))
  exact law_at (T := {
    f_is_whole := f_is_whole
    d_is_whole := PySem.W.fnOf "is_whole" "is_whole" (defArgs s_is_whole) (defBody s_is_whole) (defScope s_is_whole) .none kV_is_whole dc_is_whole pm_is_whole an_is_whole cd_is_whole ct_is_whole
    f_is_from := f_is_from
    d_is_from := PySem.W.fnOf "is_from" "is_from" (defArgs s_is_from) (defBody s_is_from) (defScope s_is_from) .none kV_is_from dc_is_from pm_is_from an_is_from cd_is_from ct_is_from
    f_are_from := f_are_from
    d_are_from := PySem.W.fnOf "are_from" "are_from" (defArgs s_are_from) (defBody s_are_from) (defScope s_are_from) .none kV_are_from dc_are_from pm_are_from an_are_from cd_are_from ct_are_from
    f_read_number := f_read_number
    d_read_number := PySem.W.fnOf "read_number" "read_number" (defArgs s_read_number) (defBody s_read_number) (defScope s_read_number) .none kV_read_number dc_read_number pm_read_number an_read_number cd_read_number ct_read_number
    f_marked := f_marked
    d_marked := PySem.W.fnOf "marked" "marked" (defArgs s_marked) (defBody s_marked) (defScope s_marked) .none kV_marked dc_marked pm_marked an_marked cd_marked ct_marked
    f_least_period := f_least_period
    d_least_period := PySem.W.fnOf "least_period" "least_period" (defArgs s_least_period) (defBody s_least_period) (defScope s_least_period) .none kV_least_period dc_least_period pm_least_period an_least_period cd_least_period ct_least_period
    f_check_parts := f_check_parts
    d_check_parts := PySem.W.fnOf "check_parts" "check_parts" (defArgs s_check_parts) (defBody s_check_parts) (defScope s_check_parts) .none kV_check_parts dc_check_parts pm_check_parts an_check_parts cd_check_parts ct_check_parts
    f_check_size := f_check_size
    d_check_size := PySem.W.fnOf "check_size" "check_size" (defArgs s_check_size) (defBody s_check_size) (defScope s_check_size) .none kV_check_size dc_check_size pm_check_size an_check_size cd_check_size ct_check_size
    f_check_argument := f_check_argument
    d_check_argument := PySem.W.fnOf "check_argument" "check_argument" (defArgs s_check_argument) (defBody s_check_argument) (defScope s_check_argument) .none kV_check_argument dc_check_argument pm_check_argument an_check_argument cd_check_argument ct_check_argument
    f_check_number := f_check_number
    d_check_number := PySem.W.fnOf "check_number" "check_number" (defArgs s_check_number) (defBody s_check_number) (defScope s_check_number) .none kV_check_number dc_check_number pm_check_number an_check_number cd_check_number ct_check_number
    f_common_form := f_common_form
    d_common_form := PySem.W.fnOf "common_form" "common_form" (defArgs s_common_form) (defBody s_common_form) (defScope s_common_form) .none kV_common_form dc_common_form pm_common_form an_common_form cd_common_form ct_common_form
    f_gathered := f_gathered
    d_gathered := PySem.W.fnOf "gathered" "gathered" (defArgs s_gathered) (defBody s_gathered) (defScope s_gathered) .none kV_gathered dc_gathered pm_gathered an_gathered cd_gathered ct_gathered
    f_have_common := f_have_common
    d_have_common := PySem.W.fnOf "have_common" "have_common" (defArgs s_have_common) (defBody s_have_common) (defScope s_have_common) .none kV_have_common dc_have_common pm_have_common an_have_common cd_have_common ct_have_common
    f_read_parts := f_read_parts
    d_read_parts := PySem.W.fnOf "read_parts" "read_parts" (defArgs s_read_parts) (defBody s_read_parts) (defScope s_read_parts) .none kV_read_parts dc_read_parts pm_read_parts an_read_parts cd_read_parts ct_read_parts
    c_Lengths := c_Lengths
    f_Lengths___init__ := f_Lengths___init__
    d_Lengths___init__ := PySem.W.fnOf "__init__" "Lengths.__init__" (defArgs s_Lengths___init__) (defBody s_Lengths___init__) (defScope s_Lengths___init__) (.ref dt_Lengths___init__) kV_Lengths___init__ dc_Lengths___init__ pm_Lengths___init__ an_Lengths___init__ cd_Lengths___init__ ct_Lengths___init__
    dl_Lengths___init__ := dl_Lengths___init__
    dr_Lengths___init__ := dr_Lengths___init__
    f_Lengths___eq__ := f_Lengths___eq__
    d_Lengths___eq__ := PySem.W.fnOf "__eq__" "Lengths.__eq__" (defArgs s_Lengths___eq__) (defBody s_Lengths___eq__) (defScope s_Lengths___eq__) .none kV_Lengths___eq__ dc_Lengths___eq__ pm_Lengths___eq__ an_Lengths___eq__ cd_Lengths___eq__ ct_Lengths___eq__
    f_Lengths___contains__ := f_Lengths___contains__
    d_Lengths___contains__ := PySem.W.fnOf "__contains__" "Lengths.__contains__" (defArgs s_Lengths___contains__) (defBody s_Lengths___contains__) (defScope s_Lengths___contains__) .none kV_Lengths___contains__ dc_Lengths___contains__ pm_Lengths___contains__ an_Lengths___contains__ cd_Lengths___contains__ ct_Lengths___contains__
    f_Lengths___and__ := f_Lengths___and__
    d_Lengths___and__ := PySem.W.fnOf "__and__" "Lengths.__and__" (defArgs s_Lengths___and__) (defBody s_Lengths___and__) (defScope s_Lengths___and__) .none kV_Lengths___and__ dc_Lengths___and__ pm_Lengths___and__ an_Lengths___and__ cd_Lengths___and__ ct_Lengths___and__
    f_Lengths___or__ := f_Lengths___or__
    d_Lengths___or__ := PySem.W.fnOf "__or__" "Lengths.__or__" (defArgs s_Lengths___or__) (defBody s_Lengths___or__) (defScope s_Lengths___or__) .none kV_Lengths___or__ dc_Lengths___or__ pm_Lengths___or__ an_Lengths___or__ cd_Lengths___or__ ct_Lengths___or__
    f_Lengths___sub__ := f_Lengths___sub__
    d_Lengths___sub__ := PySem.W.fnOf "__sub__" "Lengths.__sub__" (defArgs s_Lengths___sub__) (defBody s_Lengths___sub__) (defScope s_Lengths___sub__) .none kV_Lengths___sub__ dc_Lengths___sub__ pm_Lengths___sub__ an_Lengths___sub__ cd_Lengths___sub__ ct_Lengths___sub__
    f_Lengths___invert__ := f_Lengths___invert__
    d_Lengths___invert__ := PySem.W.fnOf "__invert__" "Lengths.__invert__" (defArgs s_Lengths___invert__) (defBody s_Lengths___invert__) (defScope s_Lengths___invert__) .none kV_Lengths___invert__ dc_Lengths___invert__ pm_Lengths___invert__ an_Lengths___invert__ cd_Lengths___invert__ ct_Lengths___invert__
    f_Lengths___le__ := f_Lengths___le__
    d_Lengths___le__ := PySem.W.fnOf "__le__" "Lengths.__le__" (defArgs s_Lengths___le__) (defBody s_Lengths___le__) (defScope s_Lengths___le__) .none kV_Lengths___le__ dc_Lengths___le__ pm_Lengths___le__ an_Lengths___le__ cd_Lengths___le__ ct_Lengths___le__
    f_Lengths___lt__ := f_Lengths___lt__
    d_Lengths___lt__ := PySem.W.fnOf "__lt__" "Lengths.__lt__" (defArgs s_Lengths___lt__) (defBody s_Lengths___lt__) (defScope s_Lengths___lt__) .none kV_Lengths___lt__ dc_Lengths___lt__ pm_Lengths___lt__ an_Lengths___lt__ cd_Lengths___lt__ ct_Lengths___lt__
    f_Lengths___ge__ := f_Lengths___ge__
    d_Lengths___ge__ := PySem.W.fnOf "__ge__" "Lengths.__ge__" (defArgs s_Lengths___ge__) (defBody s_Lengths___ge__) (defScope s_Lengths___ge__) .none kV_Lengths___ge__ dc_Lengths___ge__ pm_Lengths___ge__ an_Lengths___ge__ cd_Lengths___ge__ ct_Lengths___ge__
    f_Lengths___gt__ := f_Lengths___gt__
    d_Lengths___gt__ := PySem.W.fnOf "__gt__" "Lengths.__gt__" (defArgs s_Lengths___gt__) (defBody s_Lengths___gt__) (defScope s_Lengths___gt__) .none kV_Lengths___gt__ dc_Lengths___gt__ pm_Lengths___gt__ an_Lengths___gt__ cd_Lengths___gt__ ct_Lengths___gt__
    f_Lengths___bool__ := f_Lengths___bool__
    d_Lengths___bool__ := PySem.W.fnOf "__bool__" "Lengths.__bool__" (defArgs s_Lengths___bool__) (defBody s_Lengths___bool__) (defScope s_Lengths___bool__) .none kV_Lengths___bool__ dc_Lengths___bool__ pm_Lengths___bool__ an_Lengths___bool__ cd_Lengths___bool__ ct_Lengths___bool__
    f_Lengths___str__ := f_Lengths___str__
    d_Lengths___str__ := PySem.W.fnOf "__str__" "Lengths.__str__" (defArgs s_Lengths___str__) (defBody s_Lengths___str__) (defScope s_Lengths___str__) .none kV_Lengths___str__ dc_Lengths___str__ pm_Lengths___str__ an_Lengths___str__ cd_Lengths___str__ ct_Lengths___str__
    f_Lengths_at_least := f_Lengths_at_least
    d_Lengths_at_least := PySem.W.fnOf "at_least" "Lengths.at_least" (defArgs s_Lengths_at_least) (defBody s_Lengths_at_least) (defScope s_Lengths_at_least) .none kV_Lengths_at_least dc_Lengths_at_least pm_Lengths_at_least an_Lengths_at_least cd_Lengths_at_least ct_Lengths_at_least
    f_Lengths_below := f_Lengths_below
    d_Lengths_below := PySem.W.fnOf "below" "Lengths.below" (defArgs s_Lengths_below) (defBody s_Lengths_below) (defScope s_Lengths_below) .none kV_Lengths_below dc_Lengths_below pm_Lengths_below an_Lengths_below cd_Lengths_below ct_Lengths_below
    f_Lengths_read := f_Lengths_read
    p_Lengths_read := p_Lengths_read
    d_Lengths_read := PySem.W.fnOf "read" "Lengths.read" (defArgs s_Lengths_read) (defBody s_Lengths_read) (defScope s_Lengths_read) .none kV_Lengths_read dc_Lengths_read pm_Lengths_read an_Lengths_read cd_Lengths_read ct_Lengths_read
    f_Lengths_none := f_Lengths_none
    p_Lengths_none := p_Lengths_none
    d_Lengths_none := PySem.W.fnOf "none" "Lengths.none" (defArgs s_Lengths_none) (defBody s_Lengths_none) (defScope s_Lengths_none) .none kV_Lengths_none dc_Lengths_none pm_Lengths_none an_Lengths_none cd_Lengths_none ct_Lengths_none
    f_Lengths_every := f_Lengths_every
    p_Lengths_every := p_Lengths_every
    d_Lengths_every := PySem.W.fnOf "every" "Lengths.every" (defArgs s_Lengths_every) (defBody s_Lengths_every) (defScope s_Lengths_every) .none kV_Lengths_every dc_Lengths_every pm_Lengths_every an_Lengths_every cd_Lengths_every ct_Lengths_every
    f_Lengths_of := f_Lengths_of
    p_Lengths_of := p_Lengths_of
    d_Lengths_of := PySem.W.fnOf "of" "Lengths.of" (defArgs s_Lengths_of) (defBody s_Lengths_of) (defScope s_Lengths_of) .none kV_Lengths_of dc_Lengths_of pm_Lengths_of an_Lengths_of cd_Lengths_of ct_Lengths_of
    f_Lengths_since := f_Lengths_since
    p_Lengths_since := p_Lengths_since
    d_Lengths_since := PySem.W.fnOf "since" "Lengths.since" (defArgs s_Lengths_since) (defBody s_Lengths_since) (defScope s_Lengths_since) .none kV_Lengths_since dc_Lengths_since pm_Lengths_since an_Lengths_since cd_Lengths_since ct_Lengths_since
    f_Lengths_steps := f_Lengths_steps
    p_Lengths_steps := p_Lengths_steps
    d_Lengths_steps := PySem.W.fnOf "steps" "Lengths.steps" (defArgs s_Lengths_steps) (defBody s_Lengths_steps) (defScope s_Lengths_steps) .none kV_Lengths_steps dc_Lengths_steps pm_Lengths_steps an_Lengths_steps cd_Lengths_steps ct_Lengths_steps
    f_Lengths_start := f_Lengths_start
    p_Lengths_start := p_Lengths_start
    d_Lengths_start := PySem.W.fnOf "start" "Lengths.start" (defArgs s_Lengths_start) (defBody s_Lengths_start) (defScope s_Lengths_start) .none kV_Lengths_start dc_Lengths_start pm_Lengths_start an_Lengths_start cd_Lengths_start ct_Lengths_start
    f_Lengths_period := f_Lengths_period
    p_Lengths_period := p_Lengths_period
    d_Lengths_period := PySem.W.fnOf "period" "Lengths.period" (defArgs s_Lengths_period) (defBody s_Lengths_period) (defScope s_Lengths_period) .none kV_Lengths_period dc_Lengths_period pm_Lengths_period an_Lengths_period cd_Lengths_period ct_Lengths_period
    f_Lengths_low := f_Lengths_low
    p_Lengths_low := p_Lengths_low
    d_Lengths_low := PySem.W.fnOf "low" "Lengths.low" (defArgs s_Lengths_low) (defBody s_Lengths_low) (defScope s_Lengths_low) .none kV_Lengths_low dc_Lengths_low pm_Lengths_low an_Lengths_low cd_Lengths_low ct_Lengths_low
    f_Lengths_rests := f_Lengths_rests
    p_Lengths_rests := p_Lengths_rests
    d_Lengths_rests := PySem.W.fnOf "rests" "Lengths.rests" (defArgs s_Lengths_rests) (defBody s_Lengths_rests) (defScope s_Lengths_rests) .none kV_Lengths_rests dc_Lengths_rests pm_Lengths_rests an_Lengths_rests cd_Lengths_rests ct_Lengths_rests
    f_Lengths_is_finite := f_Lengths_is_finite
    p_Lengths_is_finite := p_Lengths_is_finite
    d_Lengths_is_finite := PySem.W.fnOf "is_finite" "Lengths.is_finite" (defArgs s_Lengths_is_finite) (defBody s_Lengths_is_finite) (defScope s_Lengths_is_finite) .none kV_Lengths_is_finite dc_Lengths_is_finite pm_Lengths_is_finite an_Lengths_is_finite cd_Lengths_is_finite ct_Lengths_is_finite
    f_Lengths_last_gap := f_Lengths_last_gap
    p_Lengths_last_gap := p_Lengths_last_gap
    d_Lengths_last_gap := PySem.W.fnOf "last_gap" "Lengths.last_gap" (defArgs s_Lengths_last_gap) (defBody s_Lengths_last_gap) (defScope s_Lengths_last_gap) .none kV_Lengths_last_gap dc_Lengths_last_gap pm_Lengths_last_gap an_Lengths_last_gap cd_Lengths_last_gap ct_Lengths_last_gap
    f__law_pen := f__law_pen
    d__law_pen := PySem.W.fnOf "_law_pen" "_law_pen" (defArgs s__law_pen) (defBody s__law_pen) (defScope s__law_pen) .none kV__law_pen dc__law_pen pm__law_pen an__law_pen cd__law_pen ct__law_pen
    f__law_draw := f__law_draw
    d__law_draw := PySem.W.fnOf "_law_draw" "_law_draw" (defArgs s__law_draw) (defBody s__law_draw) (defScope s__law_draw) .none kV__law_draw dc__law_draw pm__law_draw an__law_draw cd__law_draw ct__law_draw
    f__law_pick := f__law_pick
    d__law_pick := PySem.W.fnOf "_law_pick" "_law_pick" (defArgs s__law_pick) (defBody s__law_pick) (defScope s__law_pick) .none kV__law_pick dc__law_pick pm__law_pick an__law_pick cd__law_pick ct__law_pick
    f__law_set := f__law_set
    d__law_set := PySem.W.fnOf "_law_set" "_law_set" (defArgs s__law_set) (defBody s__law_set) (defScope s__law_set) .none kV__law_set dc__law_set pm__law_set an__law_set cd__law_set ct__law_set
    f__law_far := f__law_far
    d__law_far := PySem.W.fnOf "_law_far" "_law_far" (defArgs s__law_far) (defBody s__law_far) (defScope s__law_far) .none kV__law_far dc__law_far pm__law_far an__law_far cd__law_far ct__law_far
    f__law_sets_right := f__law_sets_right
    d__law_sets_right := PySem.W.fnOf "_law_sets_right" "_law_sets_right" (defArgs s__law_sets_right) (defBody s__law_sets_right) (defScope s__law_sets_right) .none kV__law_sets_right dc__law_sets_right pm__law_sets_right an__law_sets_right cd__law_sets_right ct__law_sets_right
    f__law_numbers_right := f__law_numbers_right
    d__law_numbers_right := PySem.W.fnOf "_law_numbers_right" "_law_numbers_right" (defArgs s__law_numbers_right) (defBody s__law_numbers_right) (defScope s__law_numbers_right) .none kV__law_numbers_right dc__law_numbers_right pm__law_numbers_right an__law_numbers_right cd__law_numbers_right ct__law_numbers_right
    f__law_parts_right := f__law_parts_right
    d__law_parts_right := PySem.W.fnOf "_law_parts_right" "_law_parts_right" (defArgs s__law_parts_right) (defBody s__law_parts_right) (defScope s__law_parts_right) .none kV__law_parts_right dc__law_parts_right pm__law_parts_right an__law_parts_right cd__law_parts_right ct__law_parts_right
    f_law := f_law
    d_law := PySem.W.fnOf "law" "law" (defArgs s_law) (defBody s_law) (defScope s_law) .none kV_law dc_law pm_law an_law cd_law ct_law
    g_is_whole := PySem.W.mg_of X G a_is_whole
    F_is_whole := F_is_whole
    bd_is_whole := F_is_whole.binds (ps := ["value"]) fun _ _ _ _ _ _ us hl => match us, hl with | [_], _ => rfl
    g_is_from := PySem.W.mg_of X G a_is_from
    F_is_from := F_is_from
    bd_is_from := F_is_from.binds (ps := ["value", "least", "most"]) fun _ _ _ _ _ _ us hl => match us, hl with | [_, _, _], _ => rfl
    g_are_from := PySem.W.mg_of X G a_are_from
    F_are_from := F_are_from
    bd_are_from := F_are_from.binds (ps := ["values", "least", "most"]) fun _ _ _ _ _ _ us hl => match us, hl with | [_, _, _], _ => rfl
    g_read_number := PySem.W.mg_of X G a_read_number
    F_read_number := F_read_number
    bd_read_number := F_read_number.binds (ps := ["word"]) fun _ _ _ _ _ _ us hl => match us, hl with | [_], _ => rfl
    g_marked := PySem.W.mg_of X G a_marked
    F_marked := F_marked
    bd_marked := F_marked.binds (ps := ["size", "numbers"]) fun _ _ _ _ _ _ us hl => match us, hl with | [_, _], _ => rfl
    g_least_period := PySem.W.mg_of X G a_least_period
    F_least_period := F_least_period
    bd_least_period := F_least_period.binds (ps := ["turn"]) fun _ _ _ _ _ _ us hl => match us, hl with | [_], _ => rfl
    g_check_parts := PySem.W.mg_of X G a_check_parts
    F_check_parts := F_check_parts
    bd_check_parts := F_check_parts.binds (ps := ["start", "low", "period", "rests"]) fun _ _ _ _ _ _ us hl => match us, hl with | [_, _, _, _], _ => rfl
    g_check_size := PySem.W.mg_of X G a_check_size
    F_check_size := F_check_size
    bd_check_size := F_check_size.binds (ps := ["start", "period"]) fun _ _ _ _ _ _ us hl => match us, hl with | [_, _], _ => rfl
    g_check_argument := PySem.W.mg_of X G a_check_argument
    F_check_argument := F_check_argument
    bd_check_argument := F_check_argument.binds (ps := ["value", "least", "most"]) fun _ _ _ _ _ _ us hl => match us, hl with | [_, _, _], _ => rfl
    g_check_number := PySem.W.mg_of X G a_check_number
    F_check_number := F_check_number
    bd_check_number := F_check_number.binds (ps := ["value"]) fun _ _ _ _ _ _ us hl => match us, hl with | [_], _ => rfl
    g_common_form := PySem.W.mg_of X G a_common_form
    F_common_form := F_common_form
    bd_common_form := F_common_form.binds (ps := ["one", "other"]) fun _ _ _ _ _ _ us hl => match us, hl with | [_, _], _ => rfl
    g_gathered := PySem.W.mg_of X G a_gathered
    F_gathered := F_gathered
    bd_gathered := F_gathered.binds (ps := ["start", "period", "numbers"]) fun _ _ _ _ _ _ us hl => match us, hl with | [_, _, _], _ => rfl
    g_have_common := PySem.W.mg_of X G a_have_common
    F_have_common := F_have_common
    bd_have_common := F_have_common.binds (ps := ["one", "other"]) fun _ _ _ _ _ _ us hl => match us, hl with | [_, _], _ => rfl
    g_read_parts := PySem.W.mg_of X G a_read_parts
    F_read_parts := F_read_parts
    bd_read_parts := F_read_parts.binds (ps := ["text"]) fun _ _ _ _ _ _ us hl => match us, hl with | [_], _ => rfl
    g_Lengths := PySem.W.mg_of X G a_Lengths
    cl_Lengths := ⟨h_Lengths_pg, h_Lengths_hd, h_Lengths_po, h_Lengths_sa⟩
    own_Lengths := ⟨⟨h_Lengths_pg, h_Lengths_hd, h_Lengths_po, h_Lengths_sa⟩, h_Lengths_cls, h_Lengths_get, h_Lengths_tak, h_Lengths_mro⟩
    na_Lengths__start := h_na_Lengths__start
    na_Lengths__period := h_na_Lengths__period
    na_Lengths__low := h_na_Lengths__low
    na_Lengths__rests := h_na_Lengths__rests
    na_Lengths__marks := h_na_Lengths__marks
    fi_Lengths___init__ := a_Lengths___init__
    kt_dl_Lengths___init__ := ⟨_, #[], _, ldl_Lengths___init__, rfl, rfl, Nat.zero_le _, .nil⟩
    kt_dr_Lengths___init__ := ⟨_, #[], _, ldr_Lengths___init__, rfl, rfl, Nat.zero_le _, .nil⟩
    F_Lengths___init__ := F_Lengths___init__
    bd1_Lengths := F_Lengths___init__.binds1 2 0 (by simp) rfl fun _ _ _ _ _ _ _ us its h1 h2 => match us, its, h1, h2 with | [_, _], [_, _, _], _, _ => ⟨_, rfl, rfl⟩
    bd2_Lengths := F_Lengths___init__.binds1 3 1 (by simp) rfl fun _ _ _ _ _ _ _ us its h1 h2 => match us, its, h1, h2 with | [_, _, _], [_, _, _], _, _ => ⟨_, rfl, rfl⟩
    bd4_Lengths := F_Lengths___init__.binds1 5 3 (by simp) rfl fun _ _ _ _ _ _ _ us its h1 h2 => match us, its, h1, h2 with | [_, _, _, _, _], [_, _, _], _, _ => ⟨_, rfl, rfl⟩
    fi_Lengths___eq__ := a_Lengths___eq__
    isf_Lengths___eq__ := i_Lengths___eq__
    F_Lengths___eq__ := F_Lengths___eq__
    bd_Lengths___eq__ := F_Lengths___eq__.binds (ps := ["self", "other"]) fun _ _ _ _ _ _ us hl => match us, hl with | [_, _], _ => rfl
    fi_Lengths___contains__ := a_Lengths___contains__
    isf_Lengths___contains__ := i_Lengths___contains__
    F_Lengths___contains__ := F_Lengths___contains__
    bd_Lengths___contains__ := F_Lengths___contains__.binds (ps := ["self", "x"]) fun _ _ _ _ _ _ us hl => match us, hl with | [_, _], _ => rfl
    fi_Lengths___and__ := a_Lengths___and__
    isf_Lengths___and__ := i_Lengths___and__
    F_Lengths___and__ := F_Lengths___and__
    bd_Lengths___and__ := F_Lengths___and__.binds (ps := ["self", "other"]) fun _ _ _ _ _ _ us hl => match us, hl with | [_, _], _ => rfl
    fi_Lengths___or__ := a_Lengths___or__
    isf_Lengths___or__ := i_Lengths___or__
    F_Lengths___or__ := F_Lengths___or__
    bd_Lengths___or__ := F_Lengths___or__.binds (ps := ["self", "other"]) fun _ _ _ _ _ _ us hl => match us, hl with | [_, _], _ => rfl
    fi_Lengths___sub__ := a_Lengths___sub__
    isf_Lengths___sub__ := i_Lengths___sub__
    F_Lengths___sub__ := F_Lengths___sub__
    bd_Lengths___sub__ := F_Lengths___sub__.binds (ps := ["self", "other"]) fun _ _ _ _ _ _ us hl => match us, hl with | [_, _], _ => rfl
    fi_Lengths___invert__ := a_Lengths___invert__
    isf_Lengths___invert__ := i_Lengths___invert__
    F_Lengths___invert__ := F_Lengths___invert__
    bd_Lengths___invert__ := F_Lengths___invert__.binds (ps := ["self"]) fun _ _ _ _ _ _ us hl => match us, hl with | [_], _ => rfl
    fi_Lengths___le__ := a_Lengths___le__
    isf_Lengths___le__ := i_Lengths___le__
    F_Lengths___le__ := F_Lengths___le__
    bd_Lengths___le__ := F_Lengths___le__.binds (ps := ["self", "other"]) fun _ _ _ _ _ _ us hl => match us, hl with | [_, _], _ => rfl
    fi_Lengths___lt__ := a_Lengths___lt__
    isf_Lengths___lt__ := i_Lengths___lt__
    F_Lengths___lt__ := F_Lengths___lt__
    bd_Lengths___lt__ := F_Lengths___lt__.binds (ps := ["self", "other"]) fun _ _ _ _ _ _ us hl => match us, hl with | [_, _], _ => rfl
    fi_Lengths___ge__ := a_Lengths___ge__
    isf_Lengths___ge__ := i_Lengths___ge__
    F_Lengths___ge__ := F_Lengths___ge__
    bd_Lengths___ge__ := F_Lengths___ge__.binds (ps := ["self", "other"]) fun _ _ _ _ _ _ us hl => match us, hl with | [_, _], _ => rfl
    fi_Lengths___gt__ := a_Lengths___gt__
    isf_Lengths___gt__ := i_Lengths___gt__
    F_Lengths___gt__ := F_Lengths___gt__
    bd_Lengths___gt__ := F_Lengths___gt__.binds (ps := ["self", "other"]) fun _ _ _ _ _ _ us hl => match us, hl with | [_, _], _ => rfl
    fi_Lengths___bool__ := a_Lengths___bool__
    isf_Lengths___bool__ := i_Lengths___bool__
    F_Lengths___bool__ := F_Lengths___bool__
    bd_Lengths___bool__ := F_Lengths___bool__.binds (ps := ["self"]) fun _ _ _ _ _ _ us hl => match us, hl with | [_], _ => rfl
    fi_Lengths___str__ := a_Lengths___str__
    isf_Lengths___str__ := i_Lengths___str__
    F_Lengths___str__ := F_Lengths___str__
    bd_Lengths___str__ := F_Lengths___str__.binds (ps := ["self"]) fun _ _ _ _ _ _ us hl => match us, hl with | [_], _ => rfl
    fi_Lengths_at_least := a_Lengths_at_least
    isf_Lengths_at_least := i_Lengths_at_least
    F_Lengths_at_least := F_Lengths_at_least
    bd_Lengths_at_least := F_Lengths_at_least.binds (ps := ["self", "n"]) fun _ _ _ _ _ _ us hl => match us, hl with | [_, _], _ => rfl
    fi_Lengths_below := a_Lengths_below
    isf_Lengths_below := i_Lengths_below
    F_Lengths_below := F_Lengths_below
    bd_Lengths_below := F_Lengths_below.binds (ps := ["self", "n"]) fun _ _ _ _ _ _ us hl => match us, hl with | [_, _], _ => rfl
    cr_Lengths := ⟨h_Lengths_rd, h_Lengths_tg⟩
    F_Lengths_read := F_Lengths_read
    bd_Lengths_read := F_Lengths_read.binds (ps := ["cls", "text"]) fun _ _ _ _ _ _ us hl => match us, hl with | [_, _], _ => rfl
    cm_Lengths_read := ⟨ca_Lengths_read, ⟨_, cr_Lengths_read⟩, cf_Lengths_read⟩
    F_Lengths_none := F_Lengths_none
    bd_Lengths_none := F_Lengths_none.binds (ps := []) fun _ _ _ _ _ _ us hl => match us, hl with | [], _ => rfl
    sme_Lengths_none := ⟨ca_Lengths_none, ⟨_, cr_Lengths_none⟩, k_Lengths_none⟩
    F_Lengths_every := F_Lengths_every
    bd_Lengths_every := F_Lengths_every.binds (ps := []) fun _ _ _ _ _ _ us hl => match us, hl with | [], _ => rfl
    sme_Lengths_every := ⟨ca_Lengths_every, ⟨_, cr_Lengths_every⟩, k_Lengths_every⟩
    F_Lengths_of := F_Lengths_of
    sme_Lengths_of := ⟨ca_Lengths_of, ⟨_, cr_Lengths_of⟩, k_Lengths_of⟩
    F_Lengths_since := F_Lengths_since
    bd_Lengths_since := F_Lengths_since.binds (ps := ["least"]) fun _ _ _ _ _ _ us hl => match us, hl with | [_], _ => rfl
    sme_Lengths_since := ⟨ca_Lengths_since, ⟨_, cr_Lengths_since⟩, k_Lengths_since⟩
    F_Lengths_steps := F_Lengths_steps
    bd_Lengths_steps := F_Lengths_steps.binds (ps := ["first", "by"]) fun _ _ _ _ _ _ us hl => match us, hl with | [_, _], _ => rfl
    sme_Lengths_steps := ⟨ca_Lengths_steps, ⟨_, cr_Lengths_steps⟩, k_Lengths_steps⟩
    F_Lengths_start := F_Lengths_start
    bd_Lengths_start := F_Lengths_start.binds (ps := ["self"]) fun _ _ _ _ _ _ us hl => match us, hl with | [_], _ => rfl
    pp_Lengths_start := ⟨pa_Lengths_start, pg_Lengths_start, pt_Lengths_start, ⟨_, pr_Lengths_start⟩⟩
    F_Lengths_period := F_Lengths_period
    bd_Lengths_period := F_Lengths_period.binds (ps := ["self"]) fun _ _ _ _ _ _ us hl => match us, hl with | [_], _ => rfl
    pp_Lengths_period := ⟨pa_Lengths_period, pg_Lengths_period, pt_Lengths_period, ⟨_, pr_Lengths_period⟩⟩
    F_Lengths_low := F_Lengths_low
    bd_Lengths_low := F_Lengths_low.binds (ps := ["self"]) fun _ _ _ _ _ _ us hl => match us, hl with | [_], _ => rfl
    pp_Lengths_low := ⟨pa_Lengths_low, pg_Lengths_low, pt_Lengths_low, ⟨_, pr_Lengths_low⟩⟩
    F_Lengths_rests := F_Lengths_rests
    bd_Lengths_rests := F_Lengths_rests.binds (ps := ["self"]) fun _ _ _ _ _ _ us hl => match us, hl with | [_], _ => rfl
    pp_Lengths_rests := ⟨pa_Lengths_rests, pg_Lengths_rests, pt_Lengths_rests, ⟨_, pr_Lengths_rests⟩⟩
    F_Lengths_is_finite := F_Lengths_is_finite
    bd_Lengths_is_finite := F_Lengths_is_finite.binds (ps := ["self"]) fun _ _ _ _ _ _ us hl => match us, hl with | [_], _ => rfl
    pp_Lengths_is_finite := ⟨pa_Lengths_is_finite, pg_Lengths_is_finite, pt_Lengths_is_finite, ⟨_, pr_Lengths_is_finite⟩⟩
    F_Lengths_last_gap := F_Lengths_last_gap
    bd_Lengths_last_gap := F_Lengths_last_gap.binds (ps := ["self"]) fun _ _ _ _ _ _ us hl => match us, hl with | [_], _ => rfl
    pp_Lengths_last_gap := ⟨pa_Lengths_last_gap, pg_Lengths_last_gap, pt_Lengths_last_gap, ⟨_, pr_Lengths_last_gap⟩⟩
    kit_Lengths := h_kit_Lengths
    kit_NoneType_Lengths := h_kit_NoneType_Lengths
    kit_int_Lengths := h_kit_int_Lengths
    g_gcd := PySem.W.mg_of X G a_gcd
    g_lcm := PySem.W.mg_of X G a_lcm
    g__law_pen := PySem.W.mg_of X G a__law_pen
    F__law_pen := F__law_pen
    bd__law_pen := F__law_pen.binds (ps := ["script"]) fun _ _ _ _ _ _ us hl => match us, hl with | [_], _ => rfl
    g__law_draw := PySem.W.mg_of X G a__law_draw
    F__law_draw := F__law_draw
    bd__law_draw := F__law_draw.binds (ps := ["pen", "many"]) fun _ _ _ _ _ _ us hl => match us, hl with | [_, _], _ => rfl
    g__law_pick := PySem.W.mg_of X G a__law_pick
    F__law_pick := F__law_pick
    bd__law_pick := F__law_pick.binds (ps := ["pen", "some"]) fun _ _ _ _ _ _ us hl => match us, hl with | [_, _], _ => rfl
    g__law_set := PySem.W.mg_of X G a__law_set
    F__law_set := F__law_set
    bd__law_set := F__law_set.binds (ps := ["pen"]) fun _ _ _ _ _ _ us hl => match us, hl with | [_], _ => rfl
    g__law_far := PySem.W.mg_of X G a__law_far
    F__law_far := F__law_far
    bd__law_far := F__law_far.binds (ps := ["pen"]) fun _ _ _ _ _ _ us hl => match us, hl with | [_], _ => rfl
    g__law_sets_right := PySem.W.mg_of X G a__law_sets_right
    F__law_sets_right := F__law_sets_right
    bd__law_sets_right := F__law_sets_right.binds (ps := ["one", "other", "third"]) fun _ _ _ _ _ _ us hl => match us, hl with | [_, _, _], _ => rfl
    g__law_numbers_right := PySem.W.mg_of X G a__law_numbers_right
    F__law_numbers_right := F__law_numbers_right
    bd__law_numbers_right := F__law_numbers_right.binds (ps := ["pen", "one", "other"]) fun _ _ _ _ _ _ us hl => match us, hl with | [_, _, _], _ => rfl
    g__law_parts_right := PySem.W.mg_of X G a__law_parts_right
    F__law_parts_right := F__law_parts_right
    bd__law_parts_right := F__law_parts_right.binds (ps := ["one"]) fun _ _ _ _ _ _ us hl => match us, hl with | [_], _ => rfl
    g_law := PySem.W.mg_of X G a_law
    F_law := F_law
    bd_law := F_law.binds (ps := ["script"]) fun _ _ _ _ _ _ us hl => match us, hl with | [_], _ => rfl
    b_isinstance := PySem.W.mg_none_of X G z_isinstance
    b_int := PySem.W.mg_none_of X G z_int
    b_bool := PySem.W.mg_none_of X G z_bool
    b_len := PySem.W.mg_none_of X G z_len
    b_tuple := PySem.W.mg_none_of X G z_tuple
    b_range := PySem.W.mg_none_of X G z_range
    b_list := PySem.W.mg_none_of X G z_list
    b_abs := PySem.W.mg_none_of X G z_abs
    b_str := PySem.W.mg_none_of X G z_str
    b_all := PySem.W.mg_none_of X G z_all
    b_any := PySem.W.mg_none_of X G z_any
    b_max := PySem.W.mg_none_of X G z_max
    b_divmod := PySem.W.mg_none_of X G z_divmod
    g_DIGITS := ⟨_, PySem.W.mg_of X G a_DIGITS⟩
    cv_Lengths_MOST := ⟨_, h_Lengths_MOST, ⟨_, rfl⟩⟩
    mk_Lengths := ⟨h_Lengths_mk, a_Lengths___init__, i_Lengths___init__, h_Lengths_kp⟩
    me_Lengths_at_least := ⟨a_Lengths_at_least, i_Lengths_at_least, k_Lengths_at_least⟩
    me_Lengths_below := ⟨a_Lengths_below, i_Lengths_below, k_Lengths_below⟩
    eq_Lengths := ⟨a_Lengths___eq__, i_Lengths___eq__, h_Lengths_ne, h_Lengths_mro⟩
    sm_Lengths___contains__ := ⟨a_Lengths___contains__, i_Lengths___contains__⟩
    sm_Lengths___str__ := ⟨a_Lengths___str__, i_Lengths___str__⟩
    sm_Lengths___bool__ := ⟨a_Lengths___bool__, i_Lengths___bool__⟩
    op_Lengths_and := ⟨h_Lengths_sf, a_Lengths___and__, i_Lengths___and__, h_Lengths_rand⟩
    ip_Lengths_and := ⟨⟨cd_Lengths, h_Lengths_cd, h_Lengths_cm⟩, h_Lengths_iand, by rw [typeLookup_type, builtinLookup_eq_fast]; kernel_rfl⟩
    op_Lengths_or := ⟨h_Lengths_sf, a_Lengths___or__, i_Lengths___or__, h_Lengths_ror⟩
    ip_Lengths_or := ⟨⟨cd_Lengths, h_Lengths_cd, h_Lengths_cm⟩, h_Lengths_ior, by rw [typeLookup_type, builtinLookup_eq_fast]; kernel_rfl⟩
    op_Lengths_sub := ⟨h_Lengths_sf, a_Lengths___sub__, i_Lengths___sub__, h_Lengths_rsub⟩
    ip_Lengths_sub := ⟨⟨cd_Lengths, h_Lengths_cd, h_Lengths_cm⟩, h_Lengths_isub, by rw [typeLookup_type, builtinLookup_eq_fast]; kernel_rfl⟩
    cm_Lengths_lt := ⟨a_Lengths___lt__, i_Lengths___lt__⟩
    cm_Lengths_le := ⟨a_Lengths___le__, i_Lengths___le__⟩
    cm_Lengths_gt := ⟨a_Lengths___gt__, i_Lengths___gt__⟩
    cm_Lengths_ge := ⟨a_Lengths___ge__, i_Lengths___ge__⟩ }) ef   
end NN

open PySem PySem.W PyProof.Rows in
set_option maxHeartbeats 0 in
theorem PySem.Challenge.cw_nodeadnight_k10_whole_sets_that_come_rou_holds : PySem.Challenge.rw_nodeadnight_k10_whole_sets_that_come_rou.Holds := by
  w_on; o_law; k_head; (case hw => w_witness2)
  k_fill
  refine LamX.walk_ofG (l := PySem.Challenge.rw_nodeadnight_k10_whole_sets_that_come_rou) (n := 63) (k := 40) (CX := fun _ => L2.CX0) (x := "script") rfl (by decide) rfl ⟨rfl, by decide, by decide⟩ (fun w h Y => by first | exact PySem.W.km_in_of Y | exact PySem.W.kIn_of Y) ?F ?hCX
  case hCX => exact fun _ _ _ _ _ z => z
  case F =>
    intro w mg fa h Y KX G hmg
    refine' NN.all_mk (hfa := hmg) KX G ?a_is_whole ?l_is_whole ?c_is_whole_ ?k_is_whole ?a_is_from ?l_is_from ?c_is_from_ ?k_is_from ?a_are_from ?l_are_from ?c_are_from_ ?k_are_from ?a_read_number ?l_read_number ?c_read_number_ ?k_read_number ?a_marked ?l_marked ?c_marked_ ?k_marked ?a_least_period ?l_least_period ?c_least_period_ ?k_least_period ?a_check_parts ?l_check_parts ?c_check_parts_ ?k_check_parts ?a_check_size ?l_check_size ?c_check_size_ ?k_check_size ?a_check_argument ?l_check_argument ?c_check_argument_ ?k_check_argument ?a_check_number ?l_check_number ?c_check_number_ ?k_check_number ?a_common_form ?l_common_form ?c_common_form_ ?k_common_form ?a_gathered ?l_gathered ?c_gathered_ ?k_gathered ?a_have_common ?l_have_common ?c_have_common_ ?k_have_common ?a_read_parts ?l_read_parts ?c_read_parts_ ?k_read_parts ?a_Lengths ?h_Lengths_pg ?h_Lengths_hd ?h_Lengths_po ?h_Lengths_sa ?h_Lengths_cls ?h_Lengths_get ?h_Lengths_tak ?h_Lengths_mro ?h_na_Lengths__start ?h_na_Lengths__period ?h_na_Lengths__low ?h_na_Lengths__rests ?h_na_Lengths__marks ?h_Lengths_mk ?h_Lengths_kp ?a_Lengths___init__ ?i_Lengths___init__ ?l_Lengths___init__ ?c_Lengths___init___ ?k_Lengths___init__ ?lt_Lengths___init__ ?ldl_Lengths___init__ ?ldr_Lengths___init__ ?a_Lengths___eq__ ?i_Lengths___eq__ ?l_Lengths___eq__ ?c_Lengths___eq___ ?k_Lengths___eq__ ?a_Lengths___contains__ ?i_Lengths___contains__ ?l_Lengths___contains__ ?c_Lengths___contains___ ?k_Lengths___contains__ ?a_Lengths___and__ ?i_Lengths___and__ ?l_Lengths___and__ ?c_Lengths___and___ ?k_Lengths___and__ ?a_Lengths___or__ ?i_Lengths___or__ ?l_Lengths___or__ ?c_Lengths___or___ ?k_Lengths___or__ ?a_Lengths___sub__ ?i_Lengths___sub__ ?l_Lengths___sub__ ?c_Lengths___sub___ ?k_Lengths___sub__ ?a_Lengths___invert__ ?i_Lengths___invert__ ?l_Lengths___invert__ ?c_Lengths___invert___ ?k_Lengths___invert__ ?a_Lengths___le__ ?i_Lengths___le__ ?l_Lengths___le__ ?c_Lengths___le___ ?k_Lengths___le__ ?a_Lengths___lt__ ?i_Lengths___lt__ ?l_Lengths___lt__ ?c_Lengths___lt___ ?k_Lengths___lt__ ?a_Lengths___ge__ ?i_Lengths___ge__ ?l_Lengths___ge__ ?c_Lengths___ge___ ?k_Lengths___ge__ ?a_Lengths___gt__ ?i_Lengths___gt__ ?l_Lengths___gt__ ?c_Lengths___gt___ ?k_Lengths___gt__ ?a_Lengths___bool__ ?i_Lengths___bool__ ?l_Lengths___bool__ ?c_Lengths___bool___ ?k_Lengths___bool__ ?a_Lengths___str__ ?i_Lengths___str__ ?l_Lengths___str__ ?c_Lengths___str___ ?k_Lengths___str__ ?a_Lengths_at_least ?i_Lengths_at_least ?l_Lengths_at_least ?c_Lengths_at_least_ ?k_Lengths_at_least ?a_Lengths_below ?i_Lengths_below ?l_Lengths_below ?c_Lengths_below_ ?k_Lengths_below ?h_Lengths_ne ?h_Lengths_sf ?h_Lengths_rand ?h_Lengths_iand ?h_Lengths_cd ?h_Lengths_cm ?h_Lengths_ror ?h_Lengths_ior ?h_Lengths_rsub ?h_Lengths_isub ?h_Lengths_rd ?h_Lengths_tg ?ca_Lengths_read ?cr_Lengths_read ?cf_Lengths_read ?l_Lengths_read ?c_Lengths_read_ ?k_Lengths_read ?ca_Lengths_none ?cr_Lengths_none ?l_Lengths_none ?c_Lengths_none_ ?k_Lengths_none ?ca_Lengths_every ?cr_Lengths_every ?l_Lengths_every ?c_Lengths_every_ ?k_Lengths_every ?ca_Lengths_of ?cr_Lengths_of ?l_Lengths_of ?c_Lengths_of_ ?k_Lengths_of ?ca_Lengths_since ?cr_Lengths_since ?l_Lengths_since ?c_Lengths_since_ ?k_Lengths_since ?ca_Lengths_steps ?cr_Lengths_steps ?l_Lengths_steps ?c_Lengths_steps_ ?k_Lengths_steps ?pa_Lengths_start ?pg_Lengths_start ?pt_Lengths_start ?pr_Lengths_start ?l_Lengths_start ?c_Lengths_start_ ?k_Lengths_start ?pa_Lengths_period ?pg_Lengths_period ?pt_Lengths_period ?pr_Lengths_period ?l_Lengths_period ?c_Lengths_period_ ?k_Lengths_period ?pa_Lengths_low ?pg_Lengths_low ?pt_Lengths_low ?pr_Lengths_low ?l_Lengths_low ?c_Lengths_low_ ?k_Lengths_low ?pa_Lengths_rests ?pg_Lengths_rests ?pt_Lengths_rests ?pr_Lengths_rests ?l_Lengths_rests ?c_Lengths_rests_ ?k_Lengths_rests ?pa_Lengths_is_finite ?pg_Lengths_is_finite ?pt_Lengths_is_finite ?pr_Lengths_is_finite ?l_Lengths_is_finite ?c_Lengths_is_finite_ ?k_Lengths_is_finite ?pa_Lengths_last_gap ?pg_Lengths_last_gap ?pt_Lengths_last_gap ?pr_Lengths_last_gap ?l_Lengths_last_gap ?c_Lengths_last_gap_ ?k_Lengths_last_gap ?h_kit_Lengths ?h_kit_NoneType_Lengths ?h_kit_int_Lengths ?a_gcd ?a_lcm ?a__law_pen ?l__law_pen ?c__law_pen_ ?k__law_pen ?a__law_draw ?l__law_draw ?c__law_draw_ ?k__law_draw ?a__law_pick ?l__law_pick ?c__law_pick_ ?k__law_pick ?a__law_set ?l__law_set ?c__law_set_ ?k__law_set ?a__law_far ?l__law_far ?c__law_far_ ?k__law_far ?a__law_sets_right ?l__law_sets_right ?c__law_sets_right_ ?k__law_sets_right ?a__law_numbers_right ?l__law_numbers_right ?c__law_numbers_right_ ?k__law_numbers_right ?a__law_parts_right ?l__law_parts_right ?c__law_parts_right_ ?k__law_parts_right ?a_law ?l_law ?c_law_ ?k_law ?z_isinstance ?z_int ?z_bool ?z_len ?z_tuple ?z_range ?z_list ?z_abs ?z_str ?z_all ?z_any ?z_max ?z_divmod ?a_DIGITS ?h_Lengths_MOST
    (case a_is_whole => k_is)
    (case l_is_whole => k_is)
    (case c_is_whole_ => k_is)
    (case k_is_whole => k_is)
    (case a_is_from => k_is)
    (case l_is_from => k_is)
    (case c_is_from_ => k_is)
    (case k_is_from => k_is)
    (case a_are_from => k_is)
    (case l_are_from => k_is)
    (case c_are_from_ => k_is)
    (case k_are_from => k_is)
    (case a_read_number => k_is)
    (case l_read_number => k_is)
    (case c_read_number_ => k_is)
    (case k_read_number => k_is)
    (case a_marked => k_is)
    (case l_marked => k_is)
    (case c_marked_ => k_is)
    (case k_marked => k_is)
    (case a_least_period => k_is)
    (case l_least_period => k_is)
    (case c_least_period_ => k_is)
    (case k_least_period => k_is)
    (case a_check_parts => k_is)
    (case l_check_parts => k_is)
    (case c_check_parts_ => k_is)
    (case k_check_parts => k_is)
    (case a_check_size => k_is)
    (case l_check_size => k_is)
    (case c_check_size_ => k_is)
    (case k_check_size => k_is)
    (case a_check_argument => k_is)
    (case l_check_argument => k_is)
    (case c_check_argument_ => k_is)
    (case k_check_argument => k_is)
    (case a_check_number => k_is)
    (case l_check_number => k_is)
    (case c_check_number_ => k_is)
    (case k_check_number => k_is)
    (case a_common_form => k_is)
    (case l_common_form => k_is)
    (case c_common_form_ => k_is)
    (case k_common_form => k_is)
    (case a_gathered => k_is)
    (case l_gathered => k_is)
    (case c_gathered_ => k_is)
    (case k_gathered => k_is)
    (case a_have_common => k_is)
    (case l_have_common => k_is)
    (case c_have_common_ => k_is)
    (case k_have_common => k_is)
    (case a_read_parts => k_is)
    (case l_read_parts => k_is)
    (case c_read_parts_ => k_is)
    (case k_read_parts => k_is)
    (case a_Lengths => k_is)
    (case h_Lengths_pg => k_is)
    (case h_Lengths_hd => k_is)
    (case h_Lengths_po => k_is)
    (case h_Lengths_sa => k_is)
    (case h_Lengths_cls => k_is)
    (case h_Lengths_get => k_is)
    (case h_Lengths_tak => k_is)
    (case h_Lengths_mro => k_is)
    (case h_na_Lengths__start => k_is)
    (case h_na_Lengths__period => k_is)
    (case h_na_Lengths__low => k_is)
    (case h_na_Lengths__rests => k_is)
    (case h_na_Lengths__marks => k_is)
    (case h_Lengths_mk => k_is)
    (case h_Lengths_kp => k_is)
    (case a_Lengths___init__ => k_is)
    (case i_Lengths___init__ => k_is)
    (case l_Lengths___init__ => k_is)
    (case c_Lengths___init___ => k_is)
    (case k_Lengths___init__ => k_is)
    (case lt_Lengths___init__ => k_is)
    (case ldl_Lengths___init__ => k_is)
    (case ldr_Lengths___init__ => k_is)
    (case a_Lengths___eq__ => k_is)
    (case i_Lengths___eq__ => k_is)
    (case l_Lengths___eq__ => k_is)
    (case c_Lengths___eq___ => k_is)
    (case k_Lengths___eq__ => k_is)
    (case a_Lengths___contains__ => k_is)
    (case i_Lengths___contains__ => k_is)
    (case l_Lengths___contains__ => k_is)
    (case c_Lengths___contains___ => k_is)
    (case k_Lengths___contains__ => k_is)
    (case a_Lengths___and__ => k_is)
    (case i_Lengths___and__ => k_is)
    (case l_Lengths___and__ => k_is)
    (case c_Lengths___and___ => k_is)
    (case k_Lengths___and__ => k_is)
    (case a_Lengths___or__ => k_is)
    (case i_Lengths___or__ => k_is)
    (case l_Lengths___or__ => k_is)
    (case c_Lengths___or___ => k_is)
    (case k_Lengths___or__ => k_is)
    (case a_Lengths___sub__ => k_is)
    (case i_Lengths___sub__ => k_is)
    (case l_Lengths___sub__ => k_is)
    (case c_Lengths___sub___ => k_is)
    (case k_Lengths___sub__ => k_is)
    (case a_Lengths___invert__ => k_is)
    (case i_Lengths___invert__ => k_is)
    (case l_Lengths___invert__ => k_is)
    (case c_Lengths___invert___ => k_is)
    (case k_Lengths___invert__ => k_is)
    (case a_Lengths___le__ => k_is)
    (case i_Lengths___le__ => k_is)
    (case l_Lengths___le__ => k_is)
    (case c_Lengths___le___ => k_is)
    (case k_Lengths___le__ => k_is)
    (case a_Lengths___lt__ => k_is)
    (case i_Lengths___lt__ => k_is)
    (case l_Lengths___lt__ => k_is)
    (case c_Lengths___lt___ => k_is)
    (case k_Lengths___lt__ => k_is)
    (case a_Lengths___ge__ => k_is)
    (case i_Lengths___ge__ => k_is)
    (case l_Lengths___ge__ => k_is)
    (case c_Lengths___ge___ => k_is)
    (case k_Lengths___ge__ => k_is)
    (case a_Lengths___gt__ => k_is)
    (case i_Lengths___gt__ => k_is)
    (case l_Lengths___gt__ => k_is)
    (case c_Lengths___gt___ => k_is)
    (case k_Lengths___gt__ => k_is)
    (case a_Lengths___bool__ => k_is)
    (case i_Lengths___bool__ => k_is)
    (case l_Lengths___bool__ => k_is)
    (case c_Lengths___bool___ => k_is)
    (case k_Lengths___bool__ => k_is)
    (case a_Lengths___str__ => k_is)
    (case i_Lengths___str__ => k_is)
    (case l_Lengths___str__ => k_is)
    (case c_Lengths___str___ => k_is)
    (case k_Lengths___str__ => k_is)
    (case a_Lengths_at_least => k_is)
    (case i_Lengths_at_least => k_is)
    (case l_Lengths_at_least => k_is)
    (case c_Lengths_at_least_ => k_is)
    (case k_Lengths_at_least => k_is)
    (case a_Lengths_below => k_is)
    (case i_Lengths_below => k_is)
    (case l_Lengths_below => k_is)
    (case c_Lengths_below_ => k_is)
    (case k_Lengths_below => k_is)
    (case h_Lengths_ne => k_is)
    (case h_Lengths_sf => k_is)
    (case h_Lengths_rand => k_is)
    (case h_Lengths_iand => k_is)
    (case h_Lengths_cd => k_is)
    (case h_Lengths_cm => first | rfl | k_is)
    (case h_Lengths_ror => k_is)
    (case h_Lengths_ior => k_is)
    (case h_Lengths_rsub => k_is)
    (case h_Lengths_isub => k_is)
    (case h_Lengths_rd => k_is)
    (case h_Lengths_tg => k_is)
    (case ca_Lengths_read => k_is)
    (case cr_Lengths_read => k_is)
    (case cf_Lengths_read => k_is)
    (case l_Lengths_read => k_is)
    (case c_Lengths_read_ => k_is)
    (case k_Lengths_read => k_is)
    (case ca_Lengths_none => k_is)
    (case cr_Lengths_none => k_is)
    (case l_Lengths_none => k_is)
    (case c_Lengths_none_ => k_is)
    (case k_Lengths_none => k_is)
    (case ca_Lengths_every => k_is)
    (case cr_Lengths_every => k_is)
    (case l_Lengths_every => k_is)
    (case c_Lengths_every_ => k_is)
    (case k_Lengths_every => k_is)
    (case ca_Lengths_of => k_is)
    (case cr_Lengths_of => k_is)
    (case l_Lengths_of => k_is)
    (case c_Lengths_of_ => k_is)
    (case k_Lengths_of => k_is)
    (case ca_Lengths_since => k_is)
    (case cr_Lengths_since => k_is)
    (case l_Lengths_since => k_is)
    (case c_Lengths_since_ => k_is)
    (case k_Lengths_since => k_is)
    (case ca_Lengths_steps => k_is)
    (case cr_Lengths_steps => k_is)
    (case l_Lengths_steps => k_is)
    (case c_Lengths_steps_ => k_is)
    (case k_Lengths_steps => k_is)
    (case pa_Lengths_start => k_is)
    (case pg_Lengths_start => k_is)
    (case pt_Lengths_start => k_is)
    (case pr_Lengths_start => k_is)
    (case l_Lengths_start => k_is)
    (case c_Lengths_start_ => k_is)
    (case k_Lengths_start => k_is)
    (case pa_Lengths_period => k_is)
    (case pg_Lengths_period => k_is)
    (case pt_Lengths_period => k_is)
    (case pr_Lengths_period => k_is)
    (case l_Lengths_period => k_is)
    (case c_Lengths_period_ => k_is)
    (case k_Lengths_period => k_is)
    (case pa_Lengths_low => k_is)
    (case pg_Lengths_low => k_is)
    (case pt_Lengths_low => k_is)
    (case pr_Lengths_low => k_is)
    (case l_Lengths_low => k_is)
    (case c_Lengths_low_ => k_is)
    (case k_Lengths_low => k_is)
    (case pa_Lengths_rests => k_is)
    (case pg_Lengths_rests => k_is)
    (case pt_Lengths_rests => k_is)
    (case pr_Lengths_rests => k_is)
    (case l_Lengths_rests => k_is)
    (case c_Lengths_rests_ => k_is)
    (case k_Lengths_rests => k_is)
    (case pa_Lengths_is_finite => k_is)
    (case pg_Lengths_is_finite => k_is)
    (case pt_Lengths_is_finite => k_is)
    (case pr_Lengths_is_finite => k_is)
    (case l_Lengths_is_finite => k_is)
    (case c_Lengths_is_finite_ => k_is)
    (case k_Lengths_is_finite => k_is)
    (case pa_Lengths_last_gap => k_is)
    (case pg_Lengths_last_gap => k_is)
    (case pt_Lengths_last_gap => k_is)
    (case pr_Lengths_last_gap => k_is)
    (case l_Lengths_last_gap => k_is)
    (case c_Lengths_last_gap_ => k_is)
    (case k_Lengths_last_gap => k_is)
    (case h_kit_Lengths => kit_is)
    (case h_kit_NoneType_Lengths => kit_is)
    (case h_kit_int_Lengths => kit_is)
    (case a_gcd => k_is)
    (case a_lcm => k_is)
    (case a__law_pen => k_is)
    (case l__law_pen => k_is)
    (case c__law_pen_ => k_is)
    (case k__law_pen => k_is)
    (case a__law_draw => k_is)
    (case l__law_draw => k_is)
    (case c__law_draw_ => k_is)
    (case k__law_draw => k_is)
    (case a__law_pick => k_is)
    (case l__law_pick => k_is)
    (case c__law_pick_ => k_is)
    (case k__law_pick => k_is)
    (case a__law_set => k_is)
    (case l__law_set => k_is)
    (case c__law_set_ => k_is)
    (case k__law_set => k_is)
    (case a__law_far => k_is)
    (case l__law_far => k_is)
    (case c__law_far_ => k_is)
    (case k__law_far => k_is)
    (case a__law_sets_right => k_is)
    (case l__law_sets_right => k_is)
    (case c__law_sets_right_ => k_is)
    (case k__law_sets_right => k_is)
    (case a__law_numbers_right => k_is)
    (case l__law_numbers_right => k_is)
    (case c__law_numbers_right_ => k_is)
    (case k__law_numbers_right => k_is)
    (case a__law_parts_right => k_is)
    (case l__law_parts_right => k_is)
    (case c__law_parts_right_ => k_is)
    (case k__law_parts_right => k_is)
    (case a_law => k_is)
    (case l_law => k_is)
    (case c_law_ => k_is)
    (case k_law => k_is)
    (case z_isinstance => k_is)
    (case z_int => k_is)
    (case z_bool => k_is)
    (case z_len => k_is)
    (case z_tuple => k_is)
    (case z_range => k_is)
    (case z_list => k_is)
    (case z_abs => k_is)
    (case z_str => k_is)
    (case z_all => k_is)
    (case z_any => k_is)
    (case z_max => k_is)
    (case z_divmod => k_is)
    (case a_DIGITS => k_is)
    (case h_Lengths_MOST => k_is)
#print axioms PySem.Challenge.cw_nodeadnight_k10_whole_sets_that_come_rou_holds
