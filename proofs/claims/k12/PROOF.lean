import PyProof.Rows.All
import Wide.All
import OpenK.AllK
import Wide.FinOn
import HandS.ForMost
import HandS.EndTab
import HandS.OwnEq
import HandS.IsInst
import HandS.Exc
import HandS.ExcInit
import HandS.ExcIs
import HandS.ExcField
import HandS.Conv
import HandS.FStr
import KE.KCallOwn
import HandS.ClsMeth
import HandS.Lambda
import HandS.WordsExc
import HandS.MakeKw
import HandS.MakeKwOnly
import HandS.Wide
import KE.KOwnIter
import KE.KDictIter
import PyProof.WalksMore
import HandS.IterVal
import HandS.Comp
import PyProof.NeKinds
import KE.KIsNot
import PyProof.MeetsIn
import PyProof.EqAt
import PyProof.MeetsSeq
import HandS.Property
import HandS.Star
import HandS.Style
import HandS.Text
import HandS.ExcInitHot
import HandS.SuiteRaise
import HandS.RaiseFrom
import HandS.StrMore
import PyProof.Rows.ReprOcc
import PyProof.Rows.StrDigitsNeg
import KE.IntTextText
import KE.IntTextLaws
import HandS.Codes
import HandS.ReplaceList
import HandS.NoneIn
import HandS.More
import KE.KMathGC
import HandS.Gcd
import HandS.Defaults
import HandS.Small
import HandS.Dict
import HandS.RaiseMore
import HandS.DictSub
import KE.RegKIsAll
import KE.RegKTryMore
import PySem.Challenge.RW_nodeadnight_k12_days_joined_and_moved
set_option Elab.async false
set_option linter.all false
set_option maxRecDepth 100000
set_option maxHeartbeats 4000000
/-! An abstract layer: a state is what is known (kn) and a count (n); the rest of the heap (a pen, tables of code objects, what a caller had) is kept by an invariant. -/
namespace AW
open PySem PySem.Spec PyProof.Rows L2

def isMut : HO → Bool
  | .lst _ => true | .dK _ => true | .dT _ => true | .set _ _ => true | .ins _ _ _ => true
  | _ => false
def isTbl : HO → Bool
  | .tbl _ => true
  | _ => false
/-- all that kn does not know, and all that never changes, is kept -/
def Kept (kn H H' : Hp) : Prop := ∀ x o, H x = some o → (kn x = none ∨ isMut o = false) → H' x = some o

structure Cw where
  inv : Nat → Hp → Prop
  res : Addr → Prop
  live : ∀ n H x, inv n H → res x → H x ≠ none
  step : ∀ n kn H H', inv n H → (∀ x, res x → kn x = none) → Kept kn H H' → inv n H'
  up : ∀ n m H, inv n H → n ≤ m → inv m H

structure Good (c : Cw) (kn : Hp) (n : Nat) (H : Hp) : Prop where
  ex : Ext kn H
  inv : c.inv n H
  res : ∀ x, c.res x → kn x = none
  nt : ∀ x o, kn x = some o → isTbl o = false

section
variable {c : Cw} {kn kn' H H' : Hp} {n m : Nat} {q : Addr} {o : HO}
theorem Good.free (g : Good c kn n H) (h : H q = none) : kn q = none := by
  cases e : kn q with
  | none => rfl
  | some u => rw [g.ex q u e] at h; cases h
theorem Good.up (g : Good c kn n H) (h : n ≤ m) : Good c kn m H := ⟨g.ex, c.up n m H g.inv h, g.res, g.nt⟩
theorem Kept.refl : Kept kn H H := fun _ _ h _ => h
/-- a new object -/
theorem nt_upd (h : ∀ x o, kn x = some o → isTbl o = false) (ht : isTbl o = false) : ∀ x u, upd kn q o x = some u → isTbl u = false := fun x u e => by
  by_cases hx : x = q
  · rw [hx, upd_same] at e; cases e; exact ht
  · rw [upd_ne hx] at e; exact h x u e
theorem Good.new (g : Good c kn n H) (h : H q = none) (ht : isTbl o = false := by rfl) : Good c (upd kn q o) n (upd H q o) := by
  refine ⟨fun x u e => ?_, c.step n kn H _ g.inv g.res (fun x u e _ => ?_), fun x r => ?_, nt_upd g.nt ht⟩
  · by_cases hx : x = q
    · rw [hx, upd_same] at e
      rw [hx, upd_same]
      exact e
    · rw [upd_ne hx] at e
      rw [upd_ne hx]
      exact g.ex x u e
  · rw [upd_ne (ne_of_none e h)]
    exact e
  · rw [upd_ne (fun z => c.live n H x g.inv r (by rw [z]; exact h))]
    exact g.res x r
/-- a known object is changed -/
theorem Good.put {u : HO} (g : Good c kn n H) (h : kn q = some u) (hm : isMut u = true) (ht : isTbl o = false := by rfl) : Good c (upd kn q o) n (upd H q o) := by
  refine ⟨fun x v e => ?_, c.step n kn H _ g.inv g.res (fun x v e k => ?_), fun x r => ?_, nt_upd g.nt ht⟩
  · by_cases hx : x = q
    · rw [hx, upd_same] at e
      rw [hx, upd_same]
      exact e
    · rw [upd_ne hx] at e
      rw [upd_ne hx]
      exact g.ex x v e
  · have hx : x ≠ q := fun z => by
      subst z
      have e2 := g.ex x u h
      rw [e] at e2
      cases e2
      rcases k with k | k
      · rw [h] at k; cases k
      · rw [hm] at k; cases k
    rw [upd_ne hx]
    exact e
  · rw [upd_ne (fun z => by subst z; have := g.res x r; rw [h] at this; cases this)]
    exact g.res x r
/-- the rest is only made longer -/
theorem Good.ext (g : Good c kn n H) (e : Ext H H') : Good c kn n H' :=
  ⟨fun x o h => e x o (g.ex x o h), c.step n kn H _ g.inv g.res fun x o h _ => e x o h, g.res, g.nt⟩
theorem know {a : Addr} {u : HO} (h : kn q = none) (e : kn a = some u) : upd kn q o a = some u := by
  rw [upd_ne (ne_of_none e h)]
  exact e
theorem free_upd {a : Addr} (h : kn q = none) (e : upd kn a o q = none) : True := trivial
theorem Ext.know {a : Addr} {u : HO} (x : Ext kn kn') (e : kn a = some u) : kn' a = some u := x a u e
end

/-- the abstract wish -/
def W {α : Type} (c : Cw) (t : Hp → (α → Hp → Prop) → Prop) (kn : Hp) (n : Nat) (Q : α → Hp → Nat → Prop) : Prop :=
  ∀ H, Good c kn n H → ∀ Q' : α → Hp → Prop, (∀ v kn' n' H', Q v kn' n' → Good c kn' n' H' → Q' v H') → t H Q'
structure AE where
  nx : L2.St → Hp → Nat → Prop
  rt : V → Hp → Nat → Prop
  bk : L2.St → Hp → Nat → Prop := fun _ _ _ => False
  ct : L2.St → Hp → Nat → Prop := fun _ _ _ => False
/-- an end is served by another -/
structure Fits (c : Cw) (D : AE) (D' : Ends) : Prop where
  nx : ∀ σ kn n H, D.nx σ kn n → Good c kn n H → D'.nx σ H
  rt : ∀ v kn n H, D.rt v kn n → Good c kn n H → D'.rt v H
  bk : ∀ σ kn n H, D.bk σ kn n → Good c kn n H → D'.bk σ H
  ct : ∀ σ kn n H, D.ct σ kn n → Good c kn n H → D'.ct σ H
def WS (c : Cw) (ts : TS) (D : AE) (σ : L2.St) (kn : Hp) (n : Nat) : Prop := ∀ H, Good c kn n H → ∀ D' : Ends, Fits c D D' → ts D' σ H

section
variable {c : Cw} {kn : Hp} {n : Nat} {σ : L2.St} {K : PySem.W.Frag}
theorem W.mono {α : Type} {t : Hp → (α → Hp → Prop) → Prop} {Q R : α → Hp → Nat → Prop} (h : W c t kn n Q) (k : ∀ v kn' n', Q v kn' n' → R v kn' n') : W c t kn n R :=
  fun H g Q' q => h H g Q' fun v kn' n' H' e => q v kn' n' H' (k v kn' n' e)

/-! ### expressions -/
variable {Q : V → Hp → Nat → Prop} {QB : Bool → Hp → Nat → Prop} {QA : List V → Hp → Nat → Prop} {QO : Option Int → Hp → Nat → Prop}
theorem w_var {i : Nat} {v : V} (h : σ[i]? = some (some v)) (q : Q v kn n) : W c (tVar i σ) kn n Q := fun H g _ k => ⟨v, h, k v kn n H q g⟩
theorem w_c {v : V} (q : Q v kn n) : W c (tC v σ) kn n Q := fun H g _ k => k v kn n H q g
theorem w_op {r : R2} {ta tb : TE} (h : W c (ta σ) kn n fun x kn1 n1 => W c (tb σ) kn1 n1 fun y kn2 n2 => W c (r x y) kn2 n2 Q) : W c (tOp r ta tb σ) kn n Q :=
  fun H g Q' q => h H g _ fun x kn1 n1 H1 h1 g1 => h1 H1 g1 _ fun y kn2 n2 H2 h2 g2 => h2 H2 g2 Q' q
theorem w_un {r : V → Hp → VK → Prop} {ta : TE} (h : W c (ta σ) kn n fun x kn1 n1 => W c (r x) kn1 n1 Q) : W c (tUn r ta σ) kn n Q :=
  fun H g Q' q => h H g _ fun x kn1 n1 H1 h1 g1 => h1 H1 g1 Q' q
theorem r_I0 {f : Int → Int → V} {i j : Int} (q : Q (f i j) kn n) : W c (rI0 f (.int i) (.int j)) kn n Q := fun H g _ k => ⟨i, j, rfl, rfl, k _ kn n H q g⟩
theorem r_I {C : Int → Int → Prop} {f : Int → Int → V} {i j : Int} (hc : C i j) (q : Q (f i j) kn n) : W c (rI C f (.int i) (.int j)) kn n Q := fun H g _ k => ⟨i, j, rfl, rfl, hc, k _ kn n H q g⟩
theorem r_U {f : Int → V} {i : Int} (q : Q (f i) kn n) : W c (rU f (.int i)) kn n Q := fun H g _ k => ⟨i, rfl, k _ kn n H q g⟩
theorem r_eq {x y : V} (h : scal x y = true) (q : Q (.bl (decide (x = y))) kn n) : W c (rEq x y) kn n Q := fun H g _ k => ⟨h, k _ kn n H q g⟩
theorem r_ne {x y : V} (h : scal x y = true) (q : Q (.bl (!decide (x = y))) kn n) : W c (rNe x y) kn n Q := fun H g _ k => ⟨h, k _ kn n H q g⟩
theorem sql {a : Addr} {xs : List V} {H : Hp} (h : H a = some (.lst xs)) : SqL K H a xs := .inl (.inl h)
theorem sqt {a : Addr} {xs : List V} {H : Hp} (h : H a = some (.tup xs)) : SqT K H a xs := .inl (.inl h)
theorem r_ixL {p : Addr} {xs : List V} {i : Int} {v : V} (h : kn p = some (.lst xs)) (e : atI xs i = some v) (q : Q v kn n) : W c (rIxL K (.ref p) (.int i)) kn n Q :=
  fun H g _ k => ⟨p, xs, i, v, rfl, rfl, sql (g.ex _ _ h), e, k _ kn n H q g⟩
theorem r_ixT {p : Addr} {xs : List V} {i : Int} {v : V} (h : kn p = some (.tup xs)) (e : atI xs i = some v) (q : Q v kn n) : W c (rIxT K (.ref p) (.int i)) kn n Q :=
  fun H g _ k => ⟨p, xs, i, v, rfl, rfl, sqt (g.ex _ _ h), e, k _ kn n H q g⟩
theorem w_nil (q : QA [] kn n) : W c (tNil σ) kn n QA := fun H g _ k => k _ kn n H q g
theorem w_cons {ta : TE} {tr : TA} (h : W c (ta σ) kn n fun x kn1 n1 => W c (tr σ) kn1 n1 fun xs kn2 n2 => QA (x :: xs) kn2 n2) : W c (tCons ta tr σ) kn n QA :=
  fun H g Q' q => h H g _ fun x kn1 n1 H1 h1 g1 => h1 H1 g1 _ fun xs kn2 n2 H2 h2 g2 => q _ kn2 n2 H2 h2 g2
theorem w_tup {t : TA} (h : W c (t σ) kn n fun xs kn1 n1 => xs.length ≤ 1000 ∧ ∀ q, kn1 q = none → Q (.ref q) (upd kn1 q (.tup xs)) n1) : W c (tTup t σ) kn n Q :=
  fun H g Q' q => h H g _ fun xs kn1 n1 H1 h1 g1 => ⟨Nat.le_trans h1.1 (by decide), fun p hp => q _ _ _ _ (h1.2 p (g1.free hp)) (g1.new hp)⟩
theorem w_lst {t : TA} (h : W c (t σ) kn n fun xs kn1 n1 => xs.length ≤ 1000 ∧ ∀ q, kn1 q = none → Q (.ref q) (upd kn1 q (.lst xs)) n1) : W c (tLst t σ) kn n Q :=
  fun H g Q' q => h H g _ fun xs kn1 n1 H1 h1 g1 => ⟨Nat.le_trans h1.1 (by decide), fun p hp => q _ _ _ _ (h1.2 p (g1.free hp)) (g1.new hp)⟩
theorem w_cb {r : List V → Hp → VK → Prop} {t : TA} (h : W c (t σ) kn n fun xs kn1 n1 => W c (r xs) kn1 n1 Q) : W c (tCB r t σ) kn n Q :=
  fun H g Q' q => h H g _ fun xs kn1 n1 H1 h1 g1 => h1 H1 g1 Q' q
theorem w_ifE {t : TT} {ta tb : TE} (h : W c (t σ) kn n fun b kn1 n1 => (b = true → W c (ta σ) kn1 n1 Q) ∧ (b = false → W c (tb σ) kn1 n1 Q)) : W c (tIf t ta tb σ) kn n Q :=
  fun H g Q' q => h H g _ fun b kn1 n1 H1 h1 g1 => by
    cases b with
    | true => exact iteT (h1.1 rfl H1 g1 Q' q)
    | false => exact iteF (h1.2 rfl H1 g1 Q' q)
theorem w_andV {ta tb : TE} (h : W c (ta σ) kn n fun x kn1 n1 => ∃ b, x = .bl b ∧ (b = true → W c (tb σ) kn1 n1 Q) ∧ (b = false → Q (.bl false) kn1 n1)) : W c (tAndV ta tb σ) kn n Q :=
  fun H g Q' q => h H g _ fun x kn1 n1 H1 h1 g1 => by
    obtain ⟨b, e, h2, h3⟩ := h1
    refine ⟨b, e, ?_⟩
    cases b with
    | true => exact iteT (h2 rfl H1 g1 Q' q)
    | false => exact iteF (q _ _ _ _ (h3 rfl) g1)
theorem w_orV {ta tb : TE} (h : W c (ta σ) kn n fun x kn1 n1 => ∃ b, x = .bl b ∧ (b = false → W c (tb σ) kn1 n1 Q) ∧ (b = true → Q (.bl true) kn1 n1)) : W c (tOrV ta tb σ) kn n Q :=
  fun H g Q' q => h H g _ fun x kn1 n1 H1 h1 g1 => by
    obtain ⟨b, e, h2, h3⟩ := h1
    refine ⟨b, e, ?_⟩
    cases b with
    | true => exact iteT (q _ _ _ _ (h3 rfl) g1)
    | false => exact iteF (h2 rfl H1 g1 Q' q)
theorem w_notV {ta : TE} (h : W c (ta σ) kn n fun x kn1 n1 => ∃ b, x = .bl b ∧ Q (.bl (!b)) kn1 n1) : W c (tNotV ta σ) kn n Q :=
  fun H g Q' q => h H g _ fun x kn1 n1 H1 h1 g1 => by
    obtain ⟨b, e, h2⟩ := h1
    exact ⟨b, e, q _ _ _ _ h2 g1⟩

/-! ### tests -/
theorem w_test {t : TE} (h : W c (t σ) kn n fun x kn1 n1 => ∃ b, x = .bl b ∧ QB b kn1 n1) : W c (tTest t σ) kn n QB :=
  fun H g Q' q => h H g _ fun x kn1 n1 H1 h1 g1 => by
    obtain ⟨b, e, h2⟩ := h1
    exact ⟨b, e, q _ _ _ _ h2 g1⟩
theorem w_B {t : TE} (h : W c (t σ) kn n fun x kn1 n1 => ∃ b, x = .bl b ∧ QB b kn1 n1) : W c (tB t σ) kn n QB :=
  fun H g Q' q => h H g _ fun x kn1 n1 H1 h1 g1 => by
    obtain ⟨b, e, h2⟩ := h1
    exact ⟨b, e, q _ _ _ _ h2 g1⟩
theorem w_and {t u : TT} (h : W c (t σ) kn n fun b kn1 n1 => (b = true → W c (u σ) kn1 n1 QB) ∧ (b = false → QB false kn1 n1)) : W c (tAnd t u σ) kn n QB :=
  fun H g Q' q => h H g _ fun b kn1 n1 H1 h1 g1 => by
    cases b with
    | true => exact iteT (h1.1 rfl H1 g1 Q' q)
    | false => exact iteF (q _ _ _ _ (h1.2 rfl) g1)
theorem w_or {t u : TT} (h : W c (t σ) kn n fun b kn1 n1 => (b = false → W c (u σ) kn1 n1 QB) ∧ (b = true → QB true kn1 n1)) : W c (tOr t u σ) kn n QB :=
  fun H g Q' q => h H g _ fun b kn1 n1 H1 h1 g1 => by
    cases b with
    | true => exact iteT (q _ _ _ _ (h1.2 rfl) g1)
    | false => exact iteF (h1.1 rfl H1 g1 Q' q)
theorem w_not {t : TT} (h : W c (t σ) kn n fun b kn1 n1 => QB (!b) kn1 n1) : W c (tNot t σ) kn n QB :=
  fun H g Q' q => h H g _ fun b kn1 n1 H1 h1 g1 => q _ _ _ _ h1 g1

/-! ### slices -/
theorem w_noPart (q : QO none kn n) : W c (tNoPart σ) kn n QO := fun H g _ k => k _ kn n H q g
theorem w_part {t : TE} (h : W c (t σ) kn n fun x kn1 n1 => ∃ i, x = .int i ∧ QO (some i) kn1 n1) : W c (tPart t σ) kn n QO :=
  fun H g Q' q => h H g _ fun x kn1 n1 H1 h1 g1 => by
    obtain ⟨i, e, h2⟩ := h1
    exact ⟨i, e, q _ _ _ _ h2 g1⟩
theorem w_sl {r : V → Option Int → Option Int → Hp → VK → Prop} {te : TE} {tl th : TO}
    (h : W c (te σ) kn n fun x kn1 n1 => W c (tl σ) kn1 n1 fun l kn2 n2 => W c (th σ) kn2 n2 fun u kn3 n3 => W c (r x l u) kn3 n3 Q) : W c (tSl r te tl th σ) kn n Q :=
  fun H g Q' q => h H g _ fun x kn1 n1 H1 h1 g1 => h1 H1 g1 _ fun l kn2 n2 H2 h2 g2 => h2 H2 g2 _ fun u kn3 n3 H3 h3 g3 => h3 H3 g3 Q' q
theorem r_slL {p : Addr} {xs : List V} {lo hi : Option Int} (h : kn p = some (.lst xs)) (q : ∀ l, kn l = none → Q (.ref l) (upd kn l (.lst (cutV xs lo hi))) n) : W c (rSlL K (.ref p) lo hi) kn n Q :=
  fun H g _ k => ⟨p, xs, rfl, sql (g.ex _ _ h), fun l hl => k _ _ _ _ (q l (g.free hl)) (g.new hl)⟩

/-! ### fields, objects -/
theorem w_fld {ta : TE} {f : Str} (h : W c (ta σ) kn n fun x kn1 n1 => ∃ a C dx fs v, x = .ref a ∧ kn1 a = some (.ins C dx fs) ∧ Cls K C ∧ NoAttr K C f ∧ fs.lookup f = some v ∧ Q v kn1 n1) : W c (tFld K ta f σ) kn n Q :=
  fun H g Q' q => h H g _ fun x kn1 n1 H1 h1 g1 => by
    obtain ⟨a, C, dx, fs, v, e, h2, hc, hn, hl, h3⟩ := h1
    exact ⟨a, C, dx, fs, v, e, g1.ex _ _ h2, hc, hn, hl, q _ _ _ _ h3 g1⟩

/-! ### statements -/
variable {D : AE}
theorem s_next (q : D.nx σ kn n) : WS c tNext D σ kn n := fun H g D' f => f.nx σ kn n H q g
theorem s_seq {t u : TS} (h : WS c t { D with nx := fun σ1 kn1 n1 => WS c u D σ1 kn1 n1 } σ kn n) : WS c (tSeq t u) D σ kn n :=
  fun H g D' f => h H g { D' with nx := u D' } ⟨fun σ1 kn1 n1 H1 h1 g1 => h1 H1 g1 D' f, f.rt, f.bk, f.ct⟩
theorem s_ret {te : TE} (h : W c (te σ) kn n D.rt) : WS c (tRet te) D σ kn n := fun H g D' f => h H g D'.rt fun v kn1 n1 H1 h1 g1 => f.rt v kn1 n1 H1 h1 g1
theorem s_retN (h : D.rt .non kn n) : WS c tRetN D σ kn n := fun H g D' f => f.rt _ kn n H h g
theorem s_drop {te : TE} (h : W c (te σ) kn n fun _ kn1 n1 => D.nx σ kn1 n1) : WS c (tDrop te) D σ kn n := fun H g D' f => h H g _ fun v kn1 n1 H1 h1 g1 => f.nx σ kn1 n1 H1 h1 g1
theorem s_brk (h : D.bk σ kn n) : WS c tBreak D σ kn n := fun H g D' f => f.bk σ kn n H h g
theorem s_cont (h : D.ct σ kn n) : WS c tCont D σ kn n := fun H g D' f => f.ct σ kn n H h g
theorem s_if {t : TT} {u w : TS} (h : W c (t σ) kn n fun b kn1 n1 => (b = true → WS c u D σ kn1 n1) ∧ (b = false → WS c w D σ kn1 n1)) : WS c (tIfS t u w) D σ kn n :=
  fun H g D' f => h H g _ fun b kn1 n1 H1 h1 g1 => by
    cases b with
    | true => exact iteT (h1.1 rfl H1 g1 D' f)
    | false => exact iteF (h1.2 rfl H1 g1 D' f)
/-- targets -/
def WG (c : Cw) (gt : TG) (v : V) (σ : L2.St) (kn : Hp) (n : Nat) (N : L2.St → Hp → Nat → Prop) : Prop :=
  ∀ H, Good c kn n H → ∀ N' : L2.St → Hp → Prop, (∀ σ1 kn1 n1 H1, N σ1 kn1 n1 → Good c kn1 n1 H1 → N' σ1 H1) → gt v σ H N'
theorem g_name {i : Nat} {v : V} {N : L2.St → Hp → Nat → Prop} (h : N (σ.set i (some v)) kn n) : WG c (gName i) v σ kn n N := fun H g N' f => f _ kn n H h g
def WGs (c : Cw) (gt : TGs) (vs : List V) (σ : L2.St) (kn : Hp) (n : Nat) (N : L2.St → Hp → Nat → Prop) : Prop :=
  ∀ H, Good c kn n H → ∀ N' : L2.St → Hp → Prop, (∀ σ1 kn1 n1 H1, N σ1 kn1 n1 → Good c kn1 n1 H1 → N' σ1 H1) → gt vs σ H N'
theorem g_nil {N : L2.St → Hp → Nat → Prop} (h : N σ kn n) : WGs c gNil [] σ kn n N := fun H g N' f => ⟨rfl, f _ kn n H h g⟩
theorem g_cons {t : TG} {u : TGs} {v : V} {r : List V} {N : L2.St → Hp → Nat → Prop} (h : WG c t v σ kn n fun σ1 kn1 n1 => WGs c u r σ1 kn1 n1 N) : WGs c (gCons t u) (v :: r) σ kn n N :=
  fun H g N' f => ⟨v, r, rfl, h H g _ fun σ1 kn1 n1 H1 h1 g1 => h1 H1 g1 N' f⟩
theorem g_tup {k : Nat} {t : TGs} {a : Addr} {xs : List V} {N : L2.St → Hp → Nat → Prop} (h : kn a = some (.tup xs)) (hl : xs.length = k) (q : WGs c t xs σ kn n N) : WG c (gTup K k t) (.ref a) σ kn n N :=
  fun H g N' f => ⟨a, xs, rfl, sqt (g.ex _ _ h), hl, q H g N' f⟩
theorem s_asg {te : TE} {gt : TG} (h : W c (te σ) kn n fun v kn1 n1 => WG c gt v σ kn1 n1 D.nx) : WS c (tAsg te gt) D σ kn n :=
  fun H g D' f => h H g _ fun v kn1 n1 H1 h1 g1 => h1 H1 g1 D'.nx fun σ2 kn2 n2 H2 h2 g2 => f.nx σ2 kn2 n2 H2 h2 g2
theorem s_set {te : TE} {i : Nat} (h : W c (te σ) kn n fun v kn1 n1 => D.nx (σ.set i (some v)) kn1 n1) : WS c (tAsg te (gName i)) D σ kn n :=
  s_asg (h.mono fun _ _ _ q => g_name q)
theorem s_par {i j : Nat} {ta : TA} (h : W c (ta σ) kn n fun vs kn1 n1 => ∃ v w, vs = [v, w] ∧ D.nx ((σ.set i (some v)).set j (some w)) kn1 n1) : WS c (tPar i j ta) D σ kn n :=
  fun H g D' f => h H g _ fun vs kn1 n1 H1 h1 g1 => by
    obtain ⟨v, w, e, h2⟩ := h1
    exact ⟨v, w, e, f.nx _ _ _ _ h2 g1⟩
theorem g_set {to ti : TE} {v : V} {N : L2.St → Hp → Nat → Prop}
    (h : W c (to σ) kn n fun o kn1 n1 => W c (ti σ) kn1 n1 fun i kn2 n2 => ∃ p xs k j, o = .ref p ∧ i = .int k ∧ kn2 p = some (.lst xs) ∧ ixN xs.length k = some j ∧ N σ (upd kn2 p (.lst (xs.set j v))) n2) : WG c (gSub to ti rSetL) v σ kn n N :=
  fun H g N' f => h H g _ fun o kn1 n1 H1 h1 g1 => h1 H1 g1 _ fun i kn2 n2 H2 h2 g2 => by
    obtain ⟨p, xs, k, j, e1, e2, e3, e4, h3⟩ := h2
    exact ⟨p, xs, k, j, e1, e2, g2.ex _ _ e3, e4, f _ _ _ _ h3 (g2.put e3 rfl)⟩

/-! ### loops -/
theorem s_forR1 {ta : TA} {gt : TG} {tb : TS} {j : Int} (Pv : Nat → L2.St → Hp → Nat → Prop)
    (h : W c (ta σ) kn n fun vs kn1 n1 => vs = [.int j] ∧ -(2 ^ 62) ≤ j ∧ j < 2 ^ 62 ∧ Pv 0 σ kn1 n1)
    (hs : ∀ i σ' kn' n', i < j.toNat → Pv i σ' kn' n' → WG c gt (.int (i : Int)) σ' kn' n' fun σ2 kn2 n2 => WS c tb { D with nx := Pv (i + 1), ct := Pv (i + 1), bk := D.nx } σ2 kn2 n2)
    (hd : ∀ σ' kn' n', Pv j.toNat σ' kn' n' → D.nx σ' kn' n') : WS c (tFor (iRng1 ta) gt tb) D σ kn n :=
  fun H g D' f => h H g _ fun vs kn1 n1 H1 h1 g1 => by
    obtain ⟨e, b1, b2, h2⟩ := h1
    refine ⟨j, e, b1, b2, for_range (lo := 0) (n := j.toNat) (fun i σ' H' => ∃ kn' n', Pv i σ' kn' n' ∧ Good c kn' n' H') ⟨kn1, n1, h2, g1⟩ (fun i σ' H' hi p => ?_) (fun σ' H' p => ?_)⟩
    · obtain ⟨kn', n', p, g'⟩ := p
      have e0 : (0 : Int) + (i : Int) = (i : Int) := Int.zero_add _
      rw [e0]
      refine hs i σ' kn' n' hi p H' g' _ fun σ2 kn2 n2 H2 h2 g2 => h2 H2 g2 _ ⟨fun σ3 kn3 n3 H3 h3 g3 => ⟨kn3, n3, h3, g3⟩, f.rt, fun σ3 kn3 n3 H3 h3 g3 => f.nx _ _ _ _ h3 g3, fun σ3 kn3 n3 H3 h3 g3 => ⟨kn3, n3, h3, g3⟩⟩
    · obtain ⟨kn', n', p, g'⟩ := p
      exact f.nx _ _ _ _ (hd σ' kn' n' p) g'
end
end AW

namespace AW
open PySem PySem.Spec PyProof.Rows L2 LamX

/-! ### contexts: a def without a pen -/
/-- all that the caller had, but what kn0 knows and may change -/
def pureC (kn0 H0 : Hp) : Cw where
  inv _ H := Kept kn0 H0 H
  res x := H0 x ≠ none ∧ kn0 x = none
  live n H x k r := by
    obtain ⟨r1, r2⟩ := r
    cases e : H0 x with
    | none => exact absurd e r1
    | some o =>
      rw [k x o e (.inl r2)]
      exact fun z => nomatch z
  step n kn H H' k r s := fun x o e h => by
    refine s x o (k x o e h) ?_
    rcases h with h | h
    · exact .inl (r x ⟨(by rw [e]; exact fun z => nomatch z), h⟩)
    · exact .inr h
  up _ _ _ h _ := h
theorem pure_start {kn H : Hp} (h : Ext kn H) (t : ∀ x o, kn x = some o → isTbl o = false) : Good (pureC kn H) kn 0 H := ⟨h, Kept.refl, fun _ r => r.2, t⟩
theorem pure_any {kn0 H0 kn H : Hp} {n m : Nat} (g : Good (pureC kn0 H0) kn n H) : Good (pureC kn0 H0) kn m H := ⟨g.ex, g.inv, g.res, g.nt⟩
/-- a state of the callee is one of the caller -/
theorem Good.back {c : Cw} {kn kn' H H' : Hp} {n m : Nat} (g : Good c kn n H) (h : Good (pureC kn H) kn' m H') : Good c kn' n H' :=
  ⟨h.ex, c.step n kn H H' g.inv g.res h.inv, fun x r => h.res x ⟨c.live n H x g.inv r, g.res x r⟩, h.nt⟩

theorem both_t {A B : Prop} (h : A) : (true = true → A) ∧ (true = false → B) := ⟨fun _ => h, fun z => Bool.noConfusion z⟩
theorem both_f {A B : Prop} (h : B) : (false = true → A) ∧ (false = false → B) := ⟨fun z => Bool.noConfusion z, fun _ => h⟩
abbrev AK := V → Hp → Prop
abbrev AXK := Value → Option Addr → Hp → Prop
/-- a promise told of what is known -/
def liftX (B : List V → Hp → AK → AXK → Prop) : Sp := fun vs H Q E => ∃ kn, Ext kn H ∧ (∀ x o, kn x = some o → isTbl o = false) ∧ B vs kn (fun v kn' => ∀ n' H', Good (pureC kn H) kn' n' H' → Q v H') (fun cls d kn' => ∀ n' H', Good (pureC kn H) kn' n' H' → E cls d H')
def MonoX (B : List V → Hp → AK → AXK → Prop) : Prop := ∀ vs kn Q R E F, (∀ v k, Q v k → R v k) → (∀ cls d k, E cls d k → F cls d k) → B vs kn Q E → B vs kn R F
abbrev noX (B : List V → Hp → AK → Prop) : List V → Hp → AK → AXK → Prop := fun vs kn Q _ => B vs kn Q
section
variable {c : Cw} {kn : Hp} {n : Nat} {σ : L2.St} {Q : V → Hp → Nat → Prop} {K : PySem.W.Frag}
theorem sp_call {B : List V → Hp → AK → AXK → Prop} {vs : List V} {E : XK} {EA : Value → Option Addr → Hp → Nat → Prop} (hm : MonoX B)
    (hE : ∀ cls d kn' n' H', EA cls d kn' n' → Good c kn' n' H' → E cls d H') (h : B vs kn (fun v k => Q v k n) (fun cls d k => EA cls d k n)) : W c (fun H Q' => liftX B vs H Q' E) kn n Q :=
  fun H g Q' q => ⟨kn, g.ex, g.nt, hm vs kn _ _ _ _ (fun v k hq n' H' g' => q v k n H' hq (g.back g')) (fun cls d k he n' H' g' => hE cls d k n H' he (g.back g')) h⟩
theorem w_callX {B : List V → Hp → AK → AXK → Prop} {dvs : List V} {E : XK} {t : TA} {EA : Value → Option Addr → Hp → Nat → Prop} (hm : MonoX B)
    (hE : ∀ cls d kn' n' H', EA cls d kn' n' → Good c kn' n' H' → E cls d H') (h : W c (t σ) kn n fun vs kn1 n1 => B (vs ++ dvs) kn1 (fun v k => Q v k n1) (fun cls d k => EA cls d k n1)) : W c (tCall (liftX B) dvs E t σ) kn n Q :=
  fun H g Q' q => h H g _ fun vs kn1 n1 H1 h1 g1 => sp_call hm hE h1 H1 g1 Q' q
theorem w_call0 {B : List V → Hp → AK → AXK → Prop} {dvs : List V} {E : XK} {t : TA} (hm : MonoX B)
    (h : W c (t σ) kn n fun vs kn1 n1 => B (vs ++ dvs) kn1 (fun v k => Q v k n1) (fun _ _ _ => False)) : W c (tCall (liftX B) dvs E t σ) kn n Q :=
  w_callX (EA := fun _ _ _ _ => False) hm (fun _ _ _ _ _ h => h.elim) h
/-- the ends of a def's body -/
abbrev bodyE (c : Cw) (Q : VK) : AE := { nx := fun _ kn n => ∀ H', Good c kn n H' → Q .non H', rt := fun v kn n => ∀ H', Good c kn n H' → Q v H' }
theorem fits_body {c : Cw} {Q : VK} : Fits c (bodyE c Q) { nx := fun _ H' => Q .non H', rt := Q } :=
  ⟨fun σ kn n H h g => h H g, fun v kn n H h g => h H g, fun _ _ _ _ h _ => h.elim, fun _ _ _ _ h _ => h.elim⟩
theorem body_of {c : Cw} {t : TS} {Q : VK} {H : Hp} (g : Good c kn n H) (h : WS c t (bodyE c Q) σ kn n) : t { nx := fun _ H' => Q .non H', rt := Q } σ H := h H g _ fits_body
theorem s_mono {D D' : AE} {t : TS} (h : WS c t D σ kn n) (e1 : ∀ σ kn n, D.nx σ kn n → D'.nx σ kn n) (e2 : ∀ v kn n, D.rt v kn n → D'.rt v kn n) (e3 : ∀ σ kn n, D.bk σ kn n → D'.bk σ kn n) (e4 : ∀ σ kn n, D.ct σ kn n → D'.ct σ kn n) : WS c t D' σ kn n :=
  fun H g D2 f => h H g D2 ⟨fun σ kn n H h g => f.nx σ kn n H (e1 _ _ _ h) g, fun v kn n H h g => f.rt v kn n H (e2 _ _ _ h) g, fun σ kn n H h g => f.bk σ kn n H (e3 _ _ _ h) g, fun σ kn n H h g => f.ct σ kn n H (e4 _ _ _ h) g⟩
/-- the ways of a statement are joined -/
theorem s_join {D : AE} {t : TS} (J : L2.St → Hp → Nat → Prop) (h : WS c t { D with nx := J } σ kn n) (k : ∀ σ' kn' n', J σ' kn' n' → D.nx σ' kn' n') : WS c t D σ kn n :=
  s_mono h k (fun _ _ _ h => h) (fun _ _ _ h => h) (fun _ _ _ h => h)
theorem s_seqJ {D : AE} {t u : TS} (J : L2.St → Hp → Nat → Prop) (h : WS c t { D with nx := J } σ kn n) (k : ∀ σ' kn' n', J σ' kn' n' → WS c u D σ' kn' n') : WS c (tSeq t u) D σ kn n :=
  s_seq (s_join J h k)

/-! ### built-ins by names of their own -/
def rInt1 : List V → Hp → VK → Prop := fun xs H Q => (∃ i, xs = [.int i] ∧ Q (.int i) H) ∨ ∃ k, xs = [.bl k] ∧ Q (.int (if k then 1 else 0)) H
theorem c_int {X : Cx} : CallR X (.type "int") rInt1 := call_int1
theorem r_int1 {i : Int} (q : Q (.int i) kn n) : W c (rInt1 [.int i]) kn n Q := fun H g _ k => .inl ⟨i, rfl, k _ kn n H q g⟩
theorem r_int1b {b : Bool} (q : Q (.int (if b then 1 else 0)) kn n) : W c (rInt1 [.bl b]) kn n Q := fun H g _ k => .inr ⟨b, rfl, k _ kn n H q g⟩
def rAbs : List V → Hp → VK → Prop := fun xs H Q => ∃ i, xs = [.int i] ∧ Q (.int (if i < 0 then -i else i)) H
theorem c_abs {X : Cx} : CallR X (.builtin "abs") rAbs := call_abs
theorem r_abs {i : Int} (q : Q (.int (if i < 0 then -i else i)) kn n) : W c (rAbs [.int i]) kn n Q := fun H g _ k => ⟨i, rfl, k _ kn n H q g⟩
def rLenQ (K : PySem.W.Frag) : List V → Hp → VK → Prop := fun xs H Q => ∃ p ys, xs = [.ref p] ∧ (SqL K H p ys ∨ SqT K H p ys) ∧ Q (.int ys.length) H
theorem c_len {X : Cx} : CallR X (.builtin "len") (rLenQ X.K) := call_len_seq
theorem r_lenL {p : Addr} {xs : List V} (h : kn p = some (.lst xs)) (q : Q (.int xs.length) kn n) : W c (rLenQ K [.ref p]) kn n Q := fun H g _ k => ⟨p, xs, rfl, .inl (sql (g.ex _ _ h)), k _ kn n H q g⟩
theorem r_lenT {p : Addr} {xs : List V} (h : kn p = some (.tup xs)) (q : Q (.int xs.length) kn n) : W c (rLenQ K [.ref p]) kn n Q := fun H g _ k => ⟨p, xs, rfl, .inr (sqt (g.ex _ _ h)), k _ kn n H q g⟩
def rListQ (K : PySem.W.Frag) : List V → Hp → VK → Prop := fun xs H Q => ∃ p ys, xs = [.ref p] ∧ (SqL K H p ys ∨ SqT K H p ys) ∧ ∀ l, H l = none → Q (.ref l) (upd H l (.lst ys))
theorem c_list {X : Cx} : CallR X (.type "list") (rListQ X.K) := call_list_of
theorem r_listL {p : Addr} {xs : List V} (h : kn p = some (.lst xs)) (q : ∀ l, kn l = none → Q (.ref l) (upd kn l (.lst xs)) n) : W c (rListQ K [.ref p]) kn n Q := fun H g _ k => ⟨p, xs, rfl, .inl (sql (g.ex _ _ h)), fun l hl => k _ _ _ _ (q l (g.free hl)) (g.new hl)⟩
def rStrI : List V → Hp → VK → Prop := fun xs H Q => ∃ i, xs = [.int i] ∧ i.natAbs.log2 < 1920 ∧ Q (.str (toString i)) H
theorem c_strI {X : Cx} : CallR X (.type "str") rStrI := call_str_int
theorem r_strI {i : Int} (h : i.natAbs.log2 < 1920) (q : Q (.str (toString i)) kn n) : W c (rStrI [.int i]) kn n Q := fun H g _ k => ⟨i, rfl, h, k _ kn n H q g⟩

/-! ### == of data -/
theorem r_eqD {x y : V} {d e : PyData} (hx : Dp K kn x d) (hy : Dp K kn y e) (sx : SeqAt.shaped d = true) (sy : SeqAt.shaped e = true) (hmono : ∀ H v d, Ext kn H → Dp K kn v d → Dp K H v d) (q : Q (.bl (PyData.eqv d e)) kn n) : W c (rEqD K x y) kn n Q :=
  fun H g _ k => ⟨d, e, hmono H x d g.ex hx, hmono H y e g.ex hy, sx, sy, k _ kn n H q g⟩
mutual
theorem Dp.ext {H H' : Hp} (e : Ext H H') : ∀ (d : PyData) (v : V), Dp K H v d → Dp K H' v d
  | .none, _, h => by cases h; exact .non
  | .bool b, _, h => by cases h; exact .bl b
  | .int i, _, h => by cases h; exact .int i
  | .str x, _, h => by cases h; exact .str x
  | .list ds, _, h => by
    cases h with
    | lst hs ha => exact .lst (hs.ext e) (Dp.extAll e ds _ ha)
  | .tuple ds, _, h => by
    cases h with
    | tup hs ha => exact .tup (hs.ext e) (Dp.extAll e ds _ ha)
  | .dict _, _, h => by cases h
theorem Dp.extAll {H H' : Hp} (e : Ext H H') : ∀ (ds : List PyData) (vs : List V), DpAll K H vs ds → DpAll K H' vs ds
  | [], _, h => by cases h; exact .nil
  | d :: ds, _, h => by
    cases h with
    | cons h1 h2 => exact .cons (Dp.ext e d _ h1) (Dp.extAll e ds _ h2)
end
theorem r_eq_d {x y : V} {d e : PyData} (hx : Dp K kn x d) (hy : Dp K kn y e) (sx : SeqAt.shaped d = true) (sy : SeqAt.shaped e = true) (q : Q (.bl (PyData.eqv d e)) kn n) : W c (rEqD K x y) kn n Q :=
  r_eqD hx hy sx sy (fun H v d e h => Dp.ext e d v h) q
theorem r_ne_d {x y : V} {d e : PyData} (hx : Dp K kn x d) (hy : Dp K kn y e) (sx : SeqAt.shaped d = true) (sy : SeqAt.shaped e = true) (q : Q (.bl (!PyData.eqv d e)) kn n) : W c (rNeD K x y) kn n Q :=
  fun H g _ k => ⟨d, e, Dp.ext g.ex d x hx, Dp.ext g.ex e y hy, sx, sy, k _ kn n H q g⟩
end
end AW

/-! Operators of own classes. -/
namespace OX
open PySem PySem.W PySem.Calls PyProof.Rows Builtin
section
variable {prog : Program} {w : World} {A : Around} {E : Value → Shared → Prop} {s : Shared} {K : Frag} {x C f : Addr} {ox : Obj} {od : Option Obj} {b : Value}

theorem numSlot_own {M : Model} {h : Heap} {nm : String} (X : K.In h) (hs : findIn K (.ref C) (PySem.dunder nm) = some (some (.ref f))) (hr : findIn K (.ref C) (dunderR nm) = some none) :
    Looks M h (numberSlotInPython (.ref C) nm) true := by
  intro A Q E s k q
  unfold numberSlotInPython
  dsimp only
  refine wpAny_bind (looks_findIn X hs A _ E s k ?_)
  show wpAny M A (pure true >>= _) _ _ _
  refine wpAny_bind (wpAny_pure ?_)
  refine wpAny_bind (looks_findIn X hr A _ E s k ?_)
  show wpAny M A (pure false >>= _) _ _ _
  refine wpAny_bind (wpAny_pure ?_)
  simp only [Bool.or_false, if_true]
  exact wpAny_pure q
/-- an operator of an own class, the other operand of a built-in type -/
theorem binop1_T {nm T : String} {r : Bool} {o : Option Value} {Q : Value → Shared → Prop} (X : K.In s.heap) (I : InstAt s.heap x ox C od) (hb : Looks (model prog w) s.heap (typeOf b) (.type T)) (hc : selfFirst K C = true)
    (hs : findIn K (.ref C) (PySem.dunder nm) = some (some (.ref f))) (hf : isFn K (.ref f) = true) (hr : findIn K (.ref C) (dunderR nm) = some none) (fill : fillsNumberSlot (.type T) nm = pure r)
    (sub : subIn K (.type T) (.ref C) = some false) (hT : typeLookup (.type T) (dunderR nm) = pure o)
    (h : wpAny (model prog w) A (call (.ref f) [.ref x, b]) (PySem.W.CmpBack Q) E s) : wpAny (model prog w) A (binaryOp1 nm (.ref x) b) (fun r s' => ∃ v, r = some v ∧ Q v s') E s := by
  obtain ⟨cd, hcd, hm⟩ := any_some hc
  obtain ⟨rest, hm⟩ : ∃ rest, cd.mro = .ref C :: rest := by
    cases q : cd.mro with
    | nil => rw [q] at hm; cases hm
    | cons a r => rw [q] at hm; exact ⟨r, by rw [List.head?_cons] at hm; cases (beq_iff_eq.mp hm); rfl⟩
  have ne : ((Value.ref C) == (Value.type T)) = false := beq_eq_false_iff_ne.mpr (fun z => nomatch z)
  have last : ∀ {α : Type} (k : Option Value → Sem α) (P : α → Shared → Prop), (∀ v s', PySem.W.CmpBack Q v s' → wpAny (model prog w) A (k (some v)) P E s') → wpAny (model prog w) A (tryMethod (.ref x) (PySem.dunder nm) b >>= k) P E s := fun k P hk => by
    refine wpAny_bind ?_
    unfold tryMethod
    refine wpAny_bind (special_fn X I hs (beq_iff_eq.mp hf) (wpAny_mono h (fun v s' hv => ?_) fun _ _ e => e))
    cases v <;> first | exact hv.elim | exact wpAny_pure (hk _ _ hv)
  unfold binaryOp1
  refine wpAny_bind (I.type.here (wpAny_bind (hb.here (wpAny_bind ((fills_K X hcd hm hs).here ?_)))))
  rw [ne]
  simp only [Bool.false_eq_true, if_false]
  refine wpAny_bind (wpAny_of_eq fill ?_)
  cases r with
  | false =>
    simp only [Bool.and_false, Bool.false_eq_true, if_false, Bool.false_and]
    refine wpAny_bind (wpAny_pure ?_)
    simp only [Bool.false_eq_true, if_false, if_true]
    refine last _ _ fun v s' hv => ?_
    cases v <;> first | exact hv.elim | exact wpAny_pure ⟨_, rfl, hv⟩
  | true =>
    simp only [Bool.and_true, if_true]
    refine wpAny_bind ((looks_subIn X sub).here ?_)
    simp only [Bool.false_eq_true, if_false, Bool.not_false, Bool.and_true, if_true]
    refine wpAny_bind ((numSlot_own X hs hr).here ?_)
    simp only [if_true]
    refine wpAny_bind (wpAny_of_eq (show numberSlotInPython (.type T) nm = pure false from rfl) ?_)
    simp only [Bool.not_false, if_true]
    refine wpAny_bind (wpAny_of_eq hT ?_)
    refine last _ _ fun v s' hv => ?_
    cases v <;> first | exact hv.elim | exact wpAny_pure ⟨_, rfl, hv⟩
/-- .. the other operand of the same class -/
theorem binop1_C {nm : String} {Q : Value → Shared → Prop} (X : K.In s.heap) (I : InstAt s.heap x ox C od) (hb : Looks (model prog w) s.heap (typeOf b) (.ref C)) (hc : selfFirst K C = true)
    (hs : findIn K (.ref C) (PySem.dunder nm) = some (some (.ref f))) (hf : isFn K (.ref f) = true)
    (h : wpAny (model prog w) A (call (.ref f) [.ref x, b]) (PySem.W.CmpBack Q) E s) : wpAny (model prog w) A (binaryOp1 nm (.ref x) b) (fun r s' => ∃ v, r = some v ∧ Q v s') E s := by
  obtain ⟨cd, hcd, hm⟩ := any_some hc
  obtain ⟨rest, hm⟩ : ∃ rest, cd.mro = .ref C :: rest := by
    cases q : cd.mro with
    | nil => rw [q] at hm; cases hm
    | cons a r => rw [q] at hm; exact ⟨r, by rw [List.head?_cons] at hm; cases (beq_iff_eq.mp hm); rfl⟩
  unfold binaryOp1
  refine wpAny_bind (I.type.here (wpAny_bind (hb.here (wpAny_bind ((fills_K X hcd hm hs).here ?_)))))
  simp only [beq_self_eq_true, if_true]
  refine wpAny_bind (wpAny_pure ?_)
  simp only [Bool.and_false, Bool.false_eq_true, if_false, Bool.false_and]
  refine wpAny_bind (wpAny_pure ?_)
  simp only [Bool.false_eq_true, if_false]
  refine wpAny_bind (m := tryMethod (.ref x) _ b) ?_
  unfold tryMethod
  refine wpAny_bind (special_fn X I hs (beq_iff_eq.mp hf) (wpAny_mono h (fun v s' hv => ?_) fun _ _ e => e))
  cases v <;> first | exact hv.elim | exact wpAny_pure (wpAny_pure ⟨_, rfl, hv⟩)
theorem binop_of {op : Operator} {a : Value} {Q : Value → Shared → Prop} (h : wpAny (model prog w) A (binaryOp1 op.info.2 a b) (fun r s' => ∃ v, r = some v ∧ Q v s') E s) : wpAny (model prog w) A (binaryOp op a b) Q E s := by
  unfold binaryOp
  refine wpAny_holding (wpAny_bind (wpAny_mono h (fun r s' z => ?_) fun _ _ z => z))
  obtain ⟨v, rfl, q⟩ := z
  exact wpAny_pure q
theorem inplace_of {op : Operator} {Q : Value → Shared → Prop} (I : InstAt s.heap x ox C od) (hno : Looks (model prog w) s.heap (fillsInplaceSlot (.ref C) op.info.2 (op == .Add)) false)
    (h : wpAny (model prog w) A (binaryOp1 op.info.2 (.ref x) b) (fun r s' => ∃ v, r = some v ∧ Q v s') E s) : wpAny (model prog w) A (inplaceOp op (.ref x) b) Q E s := by
  unfold inplaceOp
  refine wpAny_holding (wpAny_bind (I.type.here (wpAny_bind (hno.here ?_))))
  simp only [Bool.false_eq_true, if_false]
  refine wpAny_bind (wpAny_mono h (fun r s' z => ?_) fun _ _ z => z)
  obtain ⟨v, rfl, q⟩ := z
  exact wpAny_pure q
/-- a class with no other own class above it has no slot in place -/
theorem noInplace {M : Model} {h : Heap} {nm : String} {add : Bool} {cd : ClassData} (X : K.In h) (hc : clsIn K C = some cd) (hm : cd.mro = [.ref C, .type "object"]) (hi : findIn K (.ref C) (dunderI nm) = some none)
    (ho : typeLookup (.type "object") (dunderI nm) = pure none) : Looks M h (fillsInplaceSlot (.ref C) nm add) false := by
  intro A Q E s k q
  unfold fillsInplaceSlot
  dsimp only
  refine wpAny_bind ((looks_clsIn X hc).andThen (f := fun cd => pure cd.mro) .now A _ E s k ?_)
  rw [hm, List.anyM_cons]
  refine wpAny_bind (wpAny_bind (looks_findIn X hi A _ E s k ?_))
  dsimp only
  refine wpAny_pure ?_
  simp only [Bool.false_eq_true, if_false]
  rw [List.anyM_cons, ho]
  refine wpAny_bind (wpAny_bind (wpAny_pure ?_))
  dsimp only
  refine wpAny_pure ?_
  simp only [Bool.false_eq_true, if_false, List.anyM_nil]
  exact wpAny_pure q

/-! ### != by an own == -/
theorem ifBound_bi {M : Model} {id : String} {name : Str} {args : List Value} {Q : Option Value → Shared → Prop} (X : K.In s.heap) (I : InstAt s.heap x ox C od) (hs : findIn K (.ref C) name = some (some (.builtin id)))
    (hbd : bindSpecial (.builtin id) (.ref x) = pure (.builtin id, [.ref x])) (h : wpAny M A (call (.builtin id) (.ref x :: args)) (fun v => Q (some v)) E s) : wpAny M A (callSpecialIfBound? (.ref x) name args) Q E s := by
  simp only [callSpecialIfBound?, bindSpecialIfBound?]
  refine wpAny_holding (wpAny_bind (wpAny_bind (wpAny_bind (I.type.here ((looks_findIn X hs).here ?_)))))
  refine wpAny_bind (wpAny_askSetting (wpAny_ite ?_))
  have fin : wpAny M A (call (.builtin id) ([.ref x] ++ args) >>= fun v => pure (some v)) Q E s := wpAny_bind (wpAny_mono h (fun v s' h' => wpAny_pure h') fun _ _ h' => h')
  rw [hbd]
  split
  · exact wpAny_bind (wpAny_pure (wpAny_pure (by exact fin)))
  · exact wpAny_tryCatch (wpAny_bind (wpAny_pure (wpAny_pure (by exact fin))))
/-- x != b, __eq__ the text's own, __ne__ object's -/
theorem ne_own {tb : Value} {Q : Value → Shared → Prop} (hu : A.units + 1 < cLine) (X : K.In s.heap) (I : InstAt s.heap x ox C od) (hb : Looks (model prog w) s.heap (typeOf b) tb) (hn : notFirst K C tb = true)
    (hs : findIn K (.ref C) "__eq__" = some (some (.ref f))) (hf : isFn K (.ref f) = true) (hne : findIn K (.ref C) "__ne__" = some (some (.builtin "object.__ne__"))) (hm : mroIn K C (.type "object") = some true)
    (h : wpAny (model prog w) A.in1 (call (.ref f) [.ref x, b]) (fun v s' => ∃ k, v = .bool k ∧ Q (.bool (!k)) s') E s) : wpAny (model prog w) A (richCompare .NotEq (.ref x) b) Q E s := by
  have hu0 : A.units < cLine := Nat.lt_of_succ_lt hu
  have sub : Looks (model prog w) s.heap (isInstance (.ref x) (.type "object")) true := I.type.andThen (looks_mroIn X hm)
  have one : wpAny (model prog w) A (tryCompare (.ref x) "__ne__" b) (fun r s' => ∃ k, r = some (.bool k) ∧ Q (.bool k) s') E s := by
    unfold tryCompare
    refine wpAny_bind (ifBound_bi X I hne (F.cmp_object.ne.bind (.ref x)) (wpAny_call (codeAny_call_builtin F.cmp_object.ne.plain F.cmpEntry_ne (W.check_slot F.cmpKind_ne F.cmpSplit_ne sub (F.cmpArgs_ne _ _) ?_))))
    unfold Builtin.«object.__ne__»
    refine wpAny_bind (wpAny_of_eq (a := ((Value.ref x : Value), [b])) (by first | rfl | (simp only [slotArgs]; rfl)) ?_)
    dsimp only
    refine wpAny_bind (wpAny_cRoomFor (show A.in1.units < cLine from hu) ?_)
    refine wpAny_bind (ifBound_K X I hs hf (wpAny_mono h (fun v s' hv => ?_) fun _ _ e => e))
    obtain ⟨k, rfl, hq⟩ := hv
    dsimp only
    refine wpAny_bind (wpAny_truthy_bool ?_)
    exact wpAny_pure (wpAny_pure ⟨_, rfl, hq⟩)
  unfold richCompare
  simp only [oneThing_ref]
  refine wpAny_holding (wpAny_bind (wpAny_cRoomFor hu0 ?_))
  refine wpAny_bind (I.type.here (wpAny_bind (hb.here ?_)))
  split
  · rename_i q
    have e : subIn K tb (.ref C) = some false := by
      rcases Bool.or_eq_true_iff.mp hn with e | e
      · rw [beq_iff_eq.mp e] at q; simp at q
      · exact beq_iff_eq.mp e
    refine wpAny_bind ((looks_subIn X e).here ?_)
    simp only [Bool.false_eq_true, if_false]
    refine wpAny_bind (wpAny_mono one (fun r s' z => ?_) fun _ _ e => e)
    obtain ⟨v, rfl, hq⟩ := z
    exact wpAny_pure hq
  · refine wpAny_bind (wpAny_pure ?_)
    simp only [Bool.false_eq_true, if_false]
    refine wpAny_bind (wpAny_mono one (fun r s' z => ?_) fun _ _ e => e)
    obtain ⟨v, rfl, hq⟩ := z
    exact wpAny_pure hq
end
end OX

/-! Own operators as rules over the abstract heap. -/
namespace L2
open PySem PySem.Spec PyProof.Rows
section
variable {X : Cx} {CX : CXT} {k : Nat} {f C : Addr} {fd : FuncData} {ps : List Str} {sp : Sp} {E : XK}
theorem callA {A : Around} {pins : List (Addr × Obj)} {σ : St} {H : Hp} {s : Shared} {Q : VK} {us : List Value} {vs : List V} (F : FnOk X.prog X.w X.K X.mg X.base CX k f fd ps sp) (hr : Room k A) (hfr : A.frames = X.A.frames)
    (hb : Binds X.K fd ps []) (hx : Passes CX X E) (I : Inv X pins σ H s) (r : Vals vs us) (h : sp vs H Q E) : wpAny (model X.prog X.w) A (call (.ref f) us) (EP X pins σ Q) X.xe s := by
  have hl : us.length = ps.length := by rw [← r.length]; exact F.len _ _ _ _ h
  have e0 : Env0 X.prog X.w X.K X.mg X.base A X.stack s H := by
    have e := I.env0
    exact ⟨by rw [hfr]; exact e.frames, e.mod, e.bs, e.bsz, e.funs, e.frf, e.hok, e.bare⟩
  refine wpAny_call (codeAny_mono (F.run A X.stack s H ⟨us, []⟩ us vs Q E hr e0 (by have := hb s us I.kIn (by simpa using hl); simpa using this) r h) fun r s' hq => ?_)
  cases r with
  | error e => exact hx pins σ H s e s' I hq
  | ok fl =>
    cases fl with
    | ret u => exact I.after hq
    | next => exact False.elim hq
    | brk => exact False.elim hq
    | cont => exact False.elim hq
theorem relV_ni {v : V} {u : Value} (r : RelV v u) {P : Value → Shared → Prop} {s : Shared} (h : P u s) : PySem.W.CmpBack P u s := by
  cases v with
  | non => cases (show u = Value.none from r); exact h
  | bl b => cases (show u = Value.bool b from r); exact h
  | int i => obtain ⟨t, e⟩ := (show ∃ t, u = Value.int i t from r); subst e; exact h
  | str x => obtain ⟨t, e⟩ := (show ∃ t, u = Value.str x t from r); subst e; exact h
  | byt x => obtain ⟨t, e⟩ := (show ∃ t, u = Value.bytes x t from r); subst e; exact h
  | flt x => obtain ⟨t, e⟩ := (show ∃ t, u = Value.float x t from r); subst e; exact h
  | ref a => cases (show u = Value.ref a from r); exact h
  | ty n => cases (show u = Value.type n from r); exact h

/-- what the written part says of an own class -/
structure OwnC (K : PySem.W.Frag) (C : Addr) : Prop where
  cl : Cls K C
  ha : PySem.W.findIn K (.ref C) "__class__" = some (some (.builtin "object.__class__"))
  hn : PySem.W.specialIn K (.builtin "object.__class__") "__get__" = some (some (.builtin "getset_descriptor.__get__"))
  htk : PySem.W.takesIn K (.builtin "object.__class__") = some true
  hm : PySem.W.mroIn K C (.type "object") = some true
theorem OwnC.ty {K : PySem.W.Frag} (c : OwnC K C) {H : Hp} {a dx : Addr} {fs : List (Str × V)} (e : H a = some (.ins C dx fs)) : TyX K H (.ref a) (.ref C) := .base (.ins e c.cl c.ha c.hn c.htk c.hm)
/-- an operator of the text's own for a left operand of the class at C -/
structure OpM (K : PySem.W.Frag) (op : Operator) (C f : Addr) : Prop where
  self : PySem.W.selfFirst K C = true
  hs : PySem.W.findIn K (.ref C) (PySem.dunder op.info.2) = some (some (.ref f))
  hf : PySem.W.isFn K (.ref f) = true
  hr : PySem.W.findIn K (.ref C) (dunderR op.info.2) = some none
/-- the right operand's type -/
inductive OpT (K : PySem.W.Frag) (op : Operator) (C : Addr) : Value → Prop where
  | own : OpT K op C (.ref C)
  | ty {T : String} {r : Bool} {o : Option Value} (fill : fillsNumberSlot (.type T) op.info.2 = pure r) (sub : PySem.W.subIn K (.type T) (.ref C) = some false) (hT : typeLookup (.type T) (dunderR op.info.2) = pure o) : OpT K op C (.type T)
def rOwn (K : PySem.W.Frag) (op : Operator) (C : Addr) (sp : Sp) (E : XK) : R2 := fun x y H Q => ∃ a dx fs t, x = .ref a ∧ H a = some (.ins C dx fs) ∧ TyX K H y t ∧ OpT K op C t ∧ sp [.ref a, y] H Q E
theorem typeOf_of {pins : List (Addr × Obj)} {σ : St} {H : Hp} {s : Shared} {y : V} {u t : Value} (I : Inv X pins σ H s) (ry : RelV y u) (ty : TyX X.K H y t) : PySem.W.Looks (model X.prog X.w) s.heap (typeOf u) t := by
  obtain ⟨P, Z, p, _⟩ := kit_of I ry ty
  exact Z.ty _ _ I.kIn p
theorem op_own {op : Operator} (M : OpM X.K op C f) (F : FnOk X.prog X.w X.K X.mg X.base CX k f fd ps sp) (hr : Room k X.A) (hb : Binds X.K fd ps []) (hx : Passes CX X E) : OpR X (binaryOp op) (rOwn X.K op C sp E) := by
  intro pins s σ H x y v u Q I rx ry h
  obtain ⟨a, dx, fs, t, rfl, ha, ty, ot, hq⟩ := h
  cases rx
  obtain ⟨mA, J, _⟩ := ins_get I.hok ha
  obtain ⟨od, J, _⟩ := J.look
  have hbt := typeOf_of I ry ty
  have hc : wpAny (model X.prog X.w) X.A (call (.ref f) [.ref a, u]) (PySem.W.CmpBack (EP X pins σ Q)) X.xe s :=
    wpAny_mono (callA (vs := [.ref a, y]) F hr rfl hb hx I (.cons rfl (.cons ry .nil)) hq) (fun z s' hz => by
      obtain ⟨v', H', I', rv, q⟩ := id hz
      exact relV_ni rv hz) fun _ _ z => z
  refine OX.binop_of ?_
  cases ot with
  | own => exact OX.binop1_C I.kIn J hbt M.self M.hs M.hf hc
  | ty fill sub hT => exact OX.binop1_T I.kIn J hbt M.self M.hs M.hf M.hr fill sub hT hc
/-- no method of the class works in place -/
structure NoIp (K : PySem.W.Frag) (op : Operator) (C : Addr) : Prop where
  cd : ∃ cd, PySem.W.clsIn K C = some cd ∧ cd.mro = [.ref C, .type "object"]
  hi : PySem.W.findIn K (.ref C) (dunderI op.info.2) = some none
  ho : typeLookup (.type "object") (dunderI op.info.2) = pure none
theorem ip_own {op : Operator} (M : OpM X.K op C f) (N : NoIp X.K op C) (F : FnOk X.prog X.w X.K X.mg X.base CX k f fd ps sp) (hr : Room k X.A) (hb : Binds X.K fd ps []) (hx : Passes CX X E) : PIp X op (rOwn X.K op C sp E) := by
  intro pins s σ H x y v u Q I rx ry h
  obtain ⟨a, dx, fs, t, rfl, ha, ty, ot, hq⟩ := h
  cases rx
  obtain ⟨mA, J, _⟩ := ins_get I.hok ha
  obtain ⟨od, J, _⟩ := J.look
  have hbt := typeOf_of I ry ty
  have hc : wpAny (model X.prog X.w) X.A (call (.ref f) [.ref a, u]) (PySem.W.CmpBack (EP X pins σ Q)) X.xe s :=
    wpAny_mono (callA (vs := [.ref a, y]) F hr rfl hb hx I (.cons rfl (.cons ry .nil)) hq) (fun z s' hz => by
      obtain ⟨v', H', I', rv, q⟩ := id hz
      exact relV_ni rv hz) fun _ _ z => z
  obtain ⟨cd, hcd, hm⟩ := N.cd
  refine OX.inplace_of J (OX.noInplace I.kIn hcd hm N.hi N.ho) ?_
  cases ot with
  | own => exact OX.binop1_C I.kIn J hbt M.self M.hs M.hf hc
  | ty fill sub hT => exact OX.binop1_T I.kIn J hbt M.self M.hs M.hf M.hr fill sub hT hc

/-! ### == and != by an own == -/
structure EqM (K : PySem.W.Frag) (C f : Addr) : Prop where
  hs : PySem.W.findIn K (.ref C) "__eq__" = some (some (.ref f))
  hf : PySem.W.isFn K (.ref f) = true
  hne : PySem.W.findIn K (.ref C) "__ne__" = some (some (.builtin "object.__ne__"))
  hm : PySem.W.mroIn K C (.type "object") = some true
def rEqO (K : PySem.W.Frag) (C : Addr) (sp : Sp) (neg : Bool) : R2 := fun x y H Q => ∃ a dx fs t, x = .ref a ∧ H a = some (.ins C dx fs) ∧ TyX K H y t ∧ PySem.W.notFirst K C t = true ∧
  sp [.ref a, y] H (fun v H' => ∃ b, v = .bl b ∧ Q (.bl (if neg then !b else b)) H') (fun _ _ _ => False)
theorem op_eqO (M : EqM X.K C f) (F : FnOk X.prog X.w X.K X.mg X.base CX k f fd ps sp) (hr : Room (k + 1) X.A) (hb : Binds X.K fd ps []) (hx : Passes CX X (fun _ _ _ => False)) : OpR X (compareOp .Eq) (rEqO X.K C sp false) := by
  intro pins s σ H x y v u Q I rx ry h
  obtain ⟨a, dx, fs, t, rfl, ha, ty, nf, hq⟩ := h
  cases rx
  obtain ⟨mA, J, _⟩ := ins_get I.hok ha
  obtain ⟨od, J, _⟩ := J.look
  have hbt := typeOf_of I ry ty
  obtain ⟨m, hF⟩ := I.fr
  show wpAny (model X.prog X.w) X.A (richCompare .Eq (.ref a) u) (EP X pins σ Q) X.xe s
  refine PySem.W.cmp_K (op := .Eq) hr.units0 hF I.ok.mod.kin J hbt nf M.hs M.hf ?_
  refine wpAny_mono (callA (vs := [.ref a, y]) F (hr.mono (Nat.le_succ _)) rfl hb hx I (.cons rfl (.cons ry .nil)) hq) (fun z s' hz => ?_) fun _ _ z => z
  obtain ⟨v', H', I', rv, b, e, q⟩ := hz
  subst e
  cases (show z = Value.bool b from rv)
  exact ⟨.bl b, H', I', rfl, q⟩
theorem op_neO (M : EqM X.K C f) (F : FnOk X.prog X.w X.K X.mg X.base CX k f fd ps sp) (hr : Room (k + 1) X.A) (hb : Binds X.K fd ps []) (hx : Passes CX X (fun _ _ _ => False)) : OpR X (compareOp .NotEq) (rEqO X.K C sp true) := by
  intro pins s σ H x y v u Q I rx ry h
  obtain ⟨a, dx, fs, t, rfl, ha, ty, nf, hq⟩ := h
  cases rx
  obtain ⟨mA, J, _⟩ := ins_get I.hok ha
  obtain ⟨od, J, _⟩ := J.look
  have hbt := typeOf_of I ry ty
  show wpAny (model X.prog X.w) X.A (richCompare .NotEq (.ref a) u) (EP X pins σ Q) X.xe s
  have hu := hr.un
  refine OX.ne_own (by omega) I.kIn J hbt nf M.hs M.hf M.hne M.hm ?_
  refine wpAny_mono (callA (A := X.A.in1) (vs := [.ref a, y]) F hr.in1 rfl hb hx I (.cons rfl (.cons ry .nil)) hq) (fun z s' hz => ?_) fun _ _ z => z
  obtain ⟨v', H', I', rv, b, e, q⟩ := hz
  subst e
  cases (show z = Value.bool b from rv)
  exact ⟨b, rfl, .bl (!b), H', I', rfl, q⟩
end
end L2

/-! A caught error that is kept behind its suite. -/
namespace L2
open PySem PySem.Spec PyProof.Rows
/-- an error of the class cls that was caught, its own dict at d -/
def exh (e : Addr) (cls : Value) (d : Option Addr) : HO := .ext fun h => ∃ oe : Obj, h.get? e = some oe ∧ Zc cls d oe ∧ ∃ vs, oe.data = .fields vs
theorem exh_ok {P : Program} {w : World} {H : Hp} {h : Heap} {e : Addr} {cls : Value} {d : Option Addr} {oe : Obj} (he : h.get? e = some oe) (hz : Zc cls d oe) (hf : ∃ vs, oe.data = .fields vs) : ObjOk P w H h e (exh e cls d) :=
  ⟨⟨oe, he, hz, hf⟩, ⟨oe, he⟩, fun h1 h2 z k => by
    obtain ⟨o, q, r⟩ := z
    exact ⟨o, k _ q, r⟩⟩
theorem exh_at {P : Program} {w : World} {H : Hp} {h : Heap} {e : Addr} {cls : Value} {d : Option Addr} (ok : HOk P w H h) (q : H e = some (exh e cls d)) : ∃ oe : Obj, h.get? e = some oe ∧ Zc cls d oe ∧ ∃ vs, oe.data = .fields vs := by
  have z : ObjOk P w H h e (.ext fun h => ∃ oe : Obj, h.get? e = some oe ∧ Zc cls d oe ∧ ∃ vs, oe.data = .fields vs) := ok e _ q
  exact z.1
section
variable {X : Cx} {pins : List (Addr × Obj)} {σ : St} {H : Hp} {s : Shared}
/-- an object that no one knew is known from now on -/
theorem Inv.track {a : Addr} {oe : Obj} {vs : Array Value} {cls : Value} {d : Option Addr} (I : Inv X ((a, oe) :: pins) σ H s) (hd : oe.data = .fields vs) (hz : Zc cls d oe) (n0 : X.s_0.heap.get? a = none) (np : ∀ p ∈ X.pn ++ pins, p.1 ≠ a) :
    Inv X pins σ (upd H a (exh a cls d)) s := by
  obtain ⟨ea, na, nL, nF, _⟩ := I.pin (a, oe) (List.mem_append_right _ List.mem_cons_self)
  have old : ∀ {b o}, X.s_0.heap.get? b = some o → b ≠ a := fun {b o} e z => by rw [z, n0] at e; cases e
  have kn : ∀ {b u}, H b = some u → b ≠ a := fun {b u} e => ne_of_none e na
  refine ⟨I.ok, I.os, I.bare, ⟨I.base.keep, I.base.slot, fun b o e n hx => ?_, I.base.there, fun b xs e => ?_, fun b o u e => ?_, fun b ps e => ?_⟩, I.loc, I.cell, ?_, fun y c e => ?_, fun p hp => ?_, fun b u e => ?_, I.len⟩
  · rw [upd_ne (old e)]
    exact I.base.free b o e n hx
  · have q := I.base.tups b xs e
    rw [upd_ne (kn q)]
    exact q
  · have q := I.base.frzs b o u e
    rw [upd_ne (kn q)]
    exact q
  · obtain ⟨m, q⟩ := I.base.tbls b ps e
    exact ⟨m, by rw [upd_ne (kn q)]; exact q⟩
  · rw [upd_ne (Ne.symm nL)]
    exact I.free
  · obtain ⟨v, oc, hoc, hdc⟩ := I.cell y c e
    have hca : c ≠ a := fun z => by
      rw [z] at hoc
      have e2 : some oe = some oc := ea.symm.trans hoc
      rw [← Option.some.inj e2, hd] at hdc
      cases hdc
    rw [upd_ne hca]
    exact I.freeC y c e
  · obtain ⟨e, n, r⟩ := I.pin p (by
      rcases List.mem_append.mp hp with h | h
      · exact List.mem_append_left _ h
      · exact List.mem_append_right _ (List.mem_cons_of_mem _ h))
    exact ⟨e, by rw [upd_ne (np p hp)]; exact n, r⟩
  · by_cases hb : b = a
    · rw [hb, upd_same] at e
      cases e
      rw [hb]
      exact exh_ok ea hz ⟨vs, hd⟩
    · rw [upd_ne hb] at e
      exact (I.hok b u e).stay (fun c w' _ q => q) (fun c q => by rw [upd_ne (kn q)]; exact q) fun c xs q => by rw [upd_ne (kn q)]; exact q
theorem Inv.unsuiteK {a : Addr} {q : Addr × Obj} (I : Inv (X.suite a (q :: (X.pn ++ pins))) [] σ H s) (ok : X.Ok) : Inv X (q :: pins) σ H s :=
  ⟨ok, I.os, I.bare, I.base, I.loc, I.cell, I.free, I.freeC, fun p hp => I.pin p (List.mem_append_left _ (by
    rcases List.mem_append.mp hp with h | h
    · exact List.mem_cons_of_mem _ (List.mem_append_left _ h)
    · rcases List.mem_cons.mp h with h | h
      · rw [h]; exact List.mem_cons_self
      · exact List.mem_cons_of_mem _ (List.mem_append_right _ h))), I.hok, I.len⟩
end
/-- the wish of a body whose errors the clause takes, all of them, and keeps -/
def wKeep (K : PySem.W.Frag) (c : Value) (i : Nat) (ts : Addr → Value → Option Addr → TS) (D : Ends) : WX := fun cls d σ H => PySem.W.exmOne K cls c = some true ∧ ∀ a, H a = none →
  ts a cls d { nx := fun σ' H' => D.nx (σ'.set i none) (upd H' a (exh a cls d)), rt := fun v H' => D.rt v (upd H' a (exh a cls d)), bk := fun σ' H' => D.bk (σ'.set i none) (upd H' a (exh a cls d)), ct := fun σ' H' => D.ct (σ'.set i none) (upd H' a (exh a cls d)) } (σ.set i (some (.ref a))) H
section
variable {X : Cx} {x n : Str} {c : Value} {i : Nat} {body suite : List Stmt} {b₀ : Stmt} {np pos pos' : Pos} {tb : WX → TS} {ts : Addr → Value → Option Addr → TS}
theorem ps_try_keep (hex : X.ex = []) (hs : X.stack = X.env :: X.outer) (hf : X.env.frame = some X.env.locals) (hN : X.N.Nodup) (hi : X.N[i]? = some n) (hln : X.env.kindOf n = some .local) (hc : Names X x c)
    (hb : ∀ (W : WX) (pn : List (Addr × Obj)) (xe : Value → Shared → Prop), Takes (X.tr pn xe) W → PassesOwn (model X.prog X.w) X.A X.env xe → PSs (X.tr pn xe) body (tb W))
    (hsu : ∀ (a : Addr) (oe : Obj) (cls : Value) (d : Option Addr) (pn : List (Addr × Obj)), Zc cls d oe → (∃ vs, oe.data = .fields vs) → PSs (X.suite a ((a, oe) :: pn)) (b₀ :: suite) (ts a cls d)) :
    PS X (.Try body [.ExceptHandler (some (.Name x np)) (some n) (b₀ :: suite) pos'] [] [] pos) (fun D σ H => tb (wKeep X.K c i ts D) D σ H) := by
  refine ⟨fun pins s σ H D I h => ?_⟩
  have ok := I.ok
  have frm : X.A.frames = some (X.env :: X.outer) := by rw [ok.frames, hs]
  refine wpAny_Try_except ?_
  refine wpAny_mono ((hb (wKeep X.K c i ts D) (X.pn ++ pins) (fun e s₁ => wpAny (model X.prog X.w) X.A (noteFrame e X.env) (fun _ s₂ => wpAny (model X.prog X.w) X.A (setFlight e none)
    (fun _ s₃ => wpAny (model X.prog X.w) X.A (handleBy e X.env [.ExceptHandler (some (.Name x np)) (some n) (b₀ :: suite) pos']) (SP X pins D) X.xe s₃) X.xe s₂) X.xe s₁) (fun u s' xx => ?_) PassesOwn.looking).run [] s σ H D (I.toTry _) h) (fun f s1 hsp => ?_) (fun _ _ z => z)
  · obtain ⟨a, B, sI, pins', σ', H', cls, d, rfl, J', nb, up, sky, na, os, ag, hyes1, hyes⟩ := xx
    have J : Inv X pins σ' H' sI := J'.ofTry ok
    show wpAny (model X.prog X.w) X.A (noteFrame (.ref a) X.env) _ _ _
    refine Sky.land Zc.steady frm hf (show Sky B (X.env :: X.outer) a (Zc cls d) X.env.locals s'.heap by rw [← hs]; exact sky) fun h3 fl3 up3 => ?_
    have J3 : Inv X pins σ' H' { s' with heap := h3 } := J.landed nb fl3.1 (up.trans up3) os ag
    obtain ⟨oe3, vs3, he3, hz3, hd3⟩ := fl3.there
    have nfr : a ∉ frs (X.env :: X.outer) := fun hm => by
      obtain ⟨_, o', e', hnf⟩ := fl3.2.2.1.mem hm
      rw [he3] at e'
      cases e'
      exact hnf _ hd3
    have nL : a ≠ X.env.locals := fun z => nfr (List.mem_filterMap.mpr ⟨X.env, List.mem_cons_self, by rw [hf, z]⟩)
    have nF : a ∉ X.fs := fun hm => by
      obtain ⟨e, he, q⟩ := List.mem_filterMap.mp hm
      exact nfr (List.mem_filterMap.mpr ⟨e, List.mem_cons_of_mem _ he, q⟩)
    have inB : ∀ {b : Addr} {o : Obj}, sI.heap.get? b = some o → b ∉ frs X.stack → b ≠ a := fun {b o} e hb z => by
      have q := nb b o e hb
      rw [z, fl3.2.1] at q
      cases q
    have n0 : X.s_0.heap.get? a = none := by
      cases e : X.s_0.heap.get? a with
      | none => rfl
      | some o =>
        obtain ⟨o', e'⟩ := J.base.there a o e (by rw [hex]; exact fun z => nomatch z)
        exact absurd rfl (inB e' (by rw [hs]; exact nfr))
    have npin : ∀ p ∈ X.pn ++ pins, p.1 ≠ a := fun p hp => by
      obtain ⟨e, _, n1, n2, _⟩ := J.pin p hp
      exact inB e fun hm => (List.mem_cons.mp (J.stkSub _ hm)).elim n1 n2
    refine wpAny_handleBy_cons (codeAny_handlers_test ?_) (by intro q; cases q)
    have LT : PySem.W.Looks (model X.prog X.w) h3 (typeOf (.ref a)) cls := fun A Q E s k q => wpAny_typeOf_ref (k _ _ he3) (by rw [hz3.1]; exact q)
    have S3 := J3.suite he3 hd3 na nL nF
    have test : ∀ {Q : Value → Shared → Prop} {E : Value → Shared → Prop}, Q c { s' with heap := h3 } → wpAny (model X.prog X.w) (X.A.mark (some (.ref a))) (eval (.Name x np) X.env) Q E { s' with heap := h3 } := fun {Q E} q => by
      obtain ⟨g1, g2, g3 | ⟨g3, g4, g5⟩⟩ := hc
      · exact ld_glob (X := X.suite a ((a, oe3) :: (X.pn ++ pins))) S3 g1 g3 q g2
      · exact ld_blt (X := X.suite a ((a, oe3) :: (X.pn ++ pins))) S3 g1 g3 g4 q g5 g2
    refine test ((PySem.W.exm_one (M := model X.prog X.w) (J3.kIn) LT hyes1).here ?_)
    refine codeAny_handlers_suite_as ?_
    refine HandSPX.lands_againZ fl3 fun h4 fl4 up4 => ?_
    have J4 : Inv X pins σ' H' { s' with heap := h4 } := J.landed nb fl4.1 ((up.trans up3).trans up4) os ag
    obtain ⟨oe4, vs4, he4, hz4, hd4⟩ := fl4.there
    refine store_ok (X := X.suite a ((a, oe4) :: (X.pn ++ pins))) (v := .ref a) (J4.suite he4 hd4 na nL nF) hN hi (.inl hln) rfl (fun s5 S5 => ?_) (.inr hln)
    refine wpAny_mono ((hsu a oe4 cls d (X.pn ++ pins) hz4 ⟨_, hd4⟩).run [] s5 _ H' _ S5 (hyes a na)) (fun f s6 hsp => ?_) (fun _ _ z => False.elim z)
    have fin : ∀ {σ6 : St} {H6 : Hp} {Q : Shared → Prop}, Inv (X.suite a ((a, oe4) :: (X.pn ++ pins))) [] σ6 H6 s6 → (∀ s7, Inv X pins (σ6.set i none) (upd H6 a (exh a cls d)) s7 → Q s7) →
        wpAny (model X.prog X.w) X.A (do bindName X.env n .none; unbindBehindTheSuite X.env n pos') (fun _ s7 => Q s7) X.xe s6 := fun {σ6 H6 Q} S6 hq => gone_ok (S6.unsuiteK ok) hN hi hln fun s7 J7 => hq s7 (J7.track hd4 hz4 n0 npin)
    cases f with
    | ret u =>
      obtain ⟨v6, σ6, H6, S6, r6, q6⟩ := hsp
      exact fin S6 fun s7 J7 => ⟨_, _, _, J7, r6, q6⟩
    | next =>
      obtain ⟨σ6, H6, S6, q6⟩ := hsp
      exact fin S6 fun s7 J7 => ⟨_, _, J7, q6⟩
    | cont =>
      obtain ⟨σ6, H6, S6, q6⟩ := hsp
      exact fin S6 fun s7 J7 => ⟨_, _, J7, q6⟩
    | brk =>
      obtain ⟨σ6, H6, S6, q6⟩ := hsp
      exact fin S6 fun s7 J7 => ⟨_, _, J7, q6⟩
  · cases f with
    | ret u =>
      obtain ⟨v, σ', H', J', r, q⟩ := hsp
      exact ⟨v, σ', H', J'.ofTry ok, r, q⟩
    | next =>
      obtain ⟨σ', H', J', q⟩ := hsp
      exact wpAny_execs_nil ⟨σ', H', J'.ofTry ok, q⟩
    | cont =>
      obtain ⟨σ', H', J', q⟩ := hsp
      exact ⟨σ', H', J'.ofTry ok, q⟩
    | brk =>
      obtain ⟨σ', H', J', q⟩ := hsp
      exact ⟨σ', H', J'.ofTry ok, q⟩
end
end L2
/-! ### isinstance and fields of such an error -/
namespace PySem.W
open PySem PySem.Calls PyProof.Rows Builtin Builtin.ObjectAttr
section
variable {prog : Program} {w : World} {A : Around} {E : Value → Shared → Prop} {s : Shared} {K : Frag} {x D : Addr} {ox : Obj} {od : Option Obj}
theorem kxc_class {Q : Option Value → Shared → Prop} (C : L2.ExcC K D) (hf : findObj K D od "__class__" = some (.bind (.builtin "getset_descriptor.__get__") (.builtin "object.__class__")))
    (X : K.In s.heap) (I : InstAt s.heap x ox D od) (h : Q (some (.ref D)) { s with toks := s.toks + 1 }) : wpAny (model prog w) A (getAttr? (.ref x) "__class__") Q E s := by
  obtain ⟨hp, g, dr, t, os⟩ := s
  have LT := I.type (M := model prog w)
  have LA := looks_findIn (M := model prog w) X C.hg
  have LB := looks_findIn (M := model prog w) X C.hk
  have LF := looks_find (M := model prog w) X I hf
  have isB : Looks (model prog w) hp (isInstance (.ref x) (.type "BaseException")) true := LT.andThen (looks_subIn X C.hs)
  have q0 : (false && onTheHeap (Value.builtin "BaseException.__getattribute__")) = false := rfl
  have q2 : (Value.builtin "BaseException.__getattribute__" == Value.builtin "object.__getattribute__") = false := by decide +kernel
  have q1 : (onTheHeap (Value.ref D) && Value.builtin "BaseException.__getattribute__" == Value.builtin "object.__getattribute__") = false := by rw [q2]; rfl
  unfold getAttr? getAttrBy? getAttrBy
  refine wpAny_bind (wpAny_mkText (wpAny_bind (wpAny_attempt (wpAny_holding (wpAny_bind (LT.at (wpAny_bind (LA.at ?_))))))))
  show wpAny _ _ (if (onTheHeap (Value.ref D) && Value.builtin "BaseException.__getattribute__" == Value.builtin "object.__getattribute__") = true then _ else _) _ _ _
  rw [q1, if_neg Bool.false_ne_true]
  unfold getAttrByItsOwn hookBefore
  refine wpAny_bind ?_
  rw [if_pos (show onTheHeap (Value.ref D) = true from rfl)]
  refine LB.at (wpAny_bind (wpAny_attempt (wpAny_holding ?_)))
  unfold callGetattribute
  rw [q0, if_neg Bool.false_ne_true]
  unfold boundAndCalled
  rw [PySem.F.excAttr_ValueError.ga.bind (.ref x)]
  refine wpAny_bind (wpAny_pure ?_)
  show wpAny _ _ (call (.builtin "BaseException.__getattribute__") [.ref x, .str "__class__" t]) _ _ _
  refine wpAny_call (codeAny_call_builtin PySem.F.excAttr_ValueError.ga.plain PySem.F.entry_bexc_ga ?_)
  refine @check_slot (model prog w) _ _ ⟨hp, g, dr, t + 1, os⟩ "BaseException.__getattribute__" "BaseException" "__getattribute__" (.ref x) [.str "__class__" t] [] _ (by decide +kernel) (by decide +kernel) isB (PySem.F.args_bexc_ga (.ref x) (.str "__class__" t)) ?_
  unfold Builtin.«object.__getattribute__»
  refine wpAny_bind (wpAny_of_eq (a := ((Value.ref x : Value), [Value.str "__class__" t])) (by first | rfl | (simp only [slotArgs]; rfl)) (wpAny_bind (wpAny_pure (wpAny_bind (LT.at (wpAny_bind (LF.at ?_)))))))
  show wpAny _ _ (holding [Value.builtin "object.__class__"] (call (.builtin "getset_descriptor.__get__") [.builtin "object.__class__", .ref x, .ref D]) >>= ret) _ _ _
  refine wpAny_bind (wpAny_holding (wpAny_call (class_get (s := ⟨hp, g, dr, t + 1, os⟩) (ox := ox) (od := od) X I C.hm (wpAny_pure ?_))))
  show wpAny _ _ (handedOut (.ref D)) _ _ _
  rw [handedOut_of (v := .ref D) rfl]
  first
    | exact wpAny_pure (wpAny_pure h)
    | exact wpAny_pure h
    | exact wpAny_pure (wpAny_bind (wpAny_pure (wpAny_pure h)))
theorem kxc_kit (C : L2.ExcC K D) (hf : findObj K D od "__class__" = some (.bind (.builtin "getset_descriptor.__get__") (.builtin "object.__class__"))) : KitX K (.ref x) (.ref D) (fun h => InstAt h x ox D od) where
  ty := fun _ _ _ I => I.type
  it := fun _ _ X _ => by
    obtain ⟨cd0, hc0, _⟩ := any_some C.hd
    unfold clsIn at hc0
    split at hc0
    · rename_i _ _ _ _ ho
      intro A' Q' E' s' k q
      unfold isType loadHead
      exact wpAny_bind (wpAny_loadPart (k _ _ (X _ _ ho)) (wpAny_pure q))
    · cases hc0
  ne := fun h tp dd its n sl X htp => by
    obtain ⟨cd0, hc0, _⟩ := any_some C.hd
    refine Bool.eq_false_iff.mpr fun q => ?_
    have e : D = tp := Value.ref.inj (beq_iff_eq.mp q)
    subst e
    unfold clsIn at hc0
    split at hc0
    · rename_i _ _ _ _ ho
      have z := (X _ _ ho).symm.trans htp
      cases z
    · cases hc0
  ca := fun X I k => kxc_class C hf X I k
end
end PySem.W
namespace L2
open PySem PySem.Spec PyProof.Rows
section
variable {X : Cx} {pins : List (Addr × Obj)} {σ : St} {H : Hp} {s : Shared}
theorem exh_inst {K : PySem.W.Frag} {a D : Addr} {d : Option Addr} {fs : List (Str × V)} (I : Inv X pins σ H s) (ea : H a = some (exh a (.ref D) d)) (ed : ∀ dd, d = some dd → H dd = some (.xd fs)) :
    ∃ (oe : Obj) (od : Option Obj), PySem.W.InstAt s.heap a oe D od ∧ (d.isSome = od.isSome) ∧ ∀ name, d.isSome = true → ∃ m : Str → Option Value, PySem.W.lookIn name (od.getD oe) = some (m name) ∧ ∀ f, RelO (fs.lookup f) (m f) := by
  obtain ⟨oe, hoe, ⟨z1, z2⟩, vs, hd⟩ := exh_at I.hok ea
  have nc : PySem.W.notCls oe = true := by unfold PySem.W.notCls; rw [hd] <;> rfl
  cases d with
  | none => exact ⟨oe, none, ⟨hoe, z1, nc, by rw [z2]; exact True.intro⟩, rfl, fun _ z => nomatch z⟩
  | some dd =>
    have hx : ObjOk X.prog X.w H s.heap dd (.xd fs) := I.hok dd _ (ed dd rfl)
    obtain ⟨mA, hns, hr⟩ := hx
    obtain ⟨od, ho, hl⟩ := lookIn_ns hns
    exact ⟨oe, some od, ⟨hoe, z1, nc, by rw [z2]; exact ho⟩, rfl, fun name _ => ⟨mA, hl name, hr⟩⟩
end
/-- isinstance(e, c), e an error that was caught and kept -/
def rIsK (K : PySem.W.Frag) : List V → Hp → VK → Prop := fun xs H Q => ∃ (a D dd : Addr) (fs : List (Str × V)) (c : V) (cv : Value) (b : Bool), xs = [.ref a, c] ∧ ClsV c cv ∧ H a = some (exh a (.ref D) (some dd)) ∧ H dd = some (.xd fs) ∧ ExcC K D ∧ PySem.W.kitOne K (.ref D) cv = some b ∧ Q (.bl b) H
theorem call_isK {X : Cx} : CallR X (.builtin "isinstance") (rIsK X.K) := by
  intro pins s σ H xs us Q I r h
  obtain ⟨a, D, dd, fs, c, cv, b, rfl, hcv, ea, ed, C, e, q⟩ := h
  obtain ⟨u1, u2, rfl, r1, r2⟩ := vals2 r
  cases (show u1 = Value.ref a from r1)
  have ec := hcv.eq r2
  subst ec
  obtain ⟨oe, od, J, hd, _⟩ := exh_inst (K := X.K) I ea (fun d' e' => by cases e'; exact ed)
  cases od with
  | none => cases hd
  | some od =>
    have hf := PySem.W.findObj_data (K := X.K) (C := D) (od := od) (name := "__class__") (by obtain ⟨cd, hc, _⟩ := PySem.W.any_some C.hd; rw [hc]; rfl) C.ha C.hn C.ht
    exact PySem.W.kia_one (PySem.W.kxc_kit C hf) I.kIn J e (fun z => nomatch z) fun tk => ⟨.bl b, H, I.tok tk, rfl, q⟩
/-- e.f, e such an error -/
def tXk (K : PySem.W.Frag) (te : TE) (f : Str) : TE := fun σ H Q => te σ H fun x H1 => ∃ (a C dd : Addr) (fs : List (Str × V)) (v : V), x = .ref a ∧ H1 a = some (exh a (.ref C) (some dd)) ∧ H1 dd = some (.xd fs) ∧ XfC K C ∧ PySem.W.findIn K (.ref C) f = some none ∧ fs.lookup f = some v ∧ Q v H1
theorem pe_xk {X : Cx} {e : Expr} {te : TE} {pos : Pos} {n : Str} (he : PE X e te) (hb : attributeBase e n X.env (eval e X.env) = eval e X.env := by rfl) : PE X (.Attribute e n pos) (tXk X.K te n) := by
  refine ⟨fun pins s σ H Q I h => attr_of hb (thn (he.run pins s σ H _ I h) fun u s1 hh => ?_)⟩
  obtain ⟨x, H1, I1, rx, a, C, dd, fs, v, ex, ea, ed, T, hno, l, q⟩ := hh
  subst ex
  obtain rfl : u = Value.ref a := rx
  obtain ⟨oe, od, J, hd, hl⟩ := exh_inst (K := X.K) I1 ea (fun d' e' => by cases e'; exact ed)
  cases od with
  | none => cases hd
  | some od =>
    obtain ⟨m, h1, h2⟩ := hl n rfl
    obtain ⟨u, hu, ru⟩ := RelO.some_of (v := v) (o := m n) (by rw [← l]; exact h2 n)
    exact HandSPX.exc_get I1.kIn J T.ga T.gg T.exC (PySem.W.findObj_own T.hdC hno rfl (by rw [← hu]; exact h1)) (handed_of ru) ⟨v, H1, I1.tok _, ru, q⟩
end L2

/-! try .. except C as n: .. except D: ..: the first clause takes all errors. -/
namespace L2
open PySem PySem.Spec PyProof.Rows
section
variable {X : Cx} {x n : Str} {c : Value} {i : Nat} {body suite : List Stmt} {b₀ : Stmt} {np pos pos' : Pos} {tb : WX → TS} {ts : Addr → Value → Option Addr → TS}
theorem ps_try_keepR {hds : List ExceptHandler} (hex : X.ex = []) (hs : X.stack = X.env :: X.outer) (hf : X.env.frame = some X.env.locals) (hN : X.N.Nodup) (hi : X.N[i]? = some n) (hln : X.env.kindOf n = some .local) (hc : Names X x c)
    (hb : ∀ (W : WX) (pn : List (Addr × Obj)) (xe : Value → Shared → Prop), Takes (X.tr pn xe) W → PassesOwn (model X.prog X.w) X.A X.env xe → PSs (X.tr pn xe) body (tb W))
    (hsu : ∀ (a : Addr) (oe : Obj) (cls : Value) (d : Option Addr) (pn : List (Addr × Obj)), Zc cls d oe → (∃ vs, oe.data = .fields vs) → PSs (X.suite a ((a, oe) :: pn)) (b₀ :: suite) (ts a cls d)) :
    PS X (.Try body (.ExceptHandler (some (.Name x np)) (some n) (b₀ :: suite) pos' :: hds) [] [] pos) (fun D σ H => tb (wKeep X.K c i ts D) D σ H) := by
  refine ⟨fun pins s σ H D I h => ?_⟩
  have ok := I.ok
  have frm : X.A.frames = some (X.env :: X.outer) := by rw [ok.frames, hs]
  refine wpAny_Try_except ?_
  refine wpAny_mono ((hb (wKeep X.K c i ts D) (X.pn ++ pins) (fun e s₁ => wpAny (model X.prog X.w) X.A (noteFrame e X.env) (fun _ s₂ => wpAny (model X.prog X.w) X.A (setFlight e none)
    (fun _ s₃ => wpAny (model X.prog X.w) X.A (handleBy e X.env (.ExceptHandler (some (.Name x np)) (some n) (b₀ :: suite) pos' :: hds)) (SP X pins D) X.xe s₃) X.xe s₂) X.xe s₁) (fun u s' xx => ?_) PassesOwn.looking).run [] s σ H D (I.toTry _) h) (fun f s1 hsp => ?_) (fun _ _ z => z)
  · obtain ⟨a, B, sI, pins', σ', H', cls, d, rfl, J', nb, up, sky, na, os, ag, hyes1, hyes⟩ := xx
    have J : Inv X pins σ' H' sI := J'.ofTry ok
    show wpAny (model X.prog X.w) X.A (noteFrame (.ref a) X.env) _ _ _
    refine Sky.land Zc.steady frm hf (show Sky B (X.env :: X.outer) a (Zc cls d) X.env.locals s'.heap by rw [← hs]; exact sky) fun h3 fl3 up3 => ?_
    have J3 : Inv X pins σ' H' { s' with heap := h3 } := J.landed nb fl3.1 (up.trans up3) os ag
    obtain ⟨oe3, vs3, he3, hz3, hd3⟩ := fl3.there
    have nfr : a ∉ frs (X.env :: X.outer) := fun hm => by
      obtain ⟨_, o', e', hnf⟩ := fl3.2.2.1.mem hm
      rw [he3] at e'
      cases e'
      exact hnf _ hd3
    have nL : a ≠ X.env.locals := fun z => nfr (List.mem_filterMap.mpr ⟨X.env, List.mem_cons_self, by rw [hf, z]⟩)
    have nF : a ∉ X.fs := fun hm => by
      obtain ⟨e, he, q⟩ := List.mem_filterMap.mp hm
      exact nfr (List.mem_filterMap.mpr ⟨e, List.mem_cons_of_mem _ he, q⟩)
    have inB : ∀ {b : Addr} {o : Obj}, sI.heap.get? b = some o → b ∉ frs X.stack → b ≠ a := fun {b o} e hb z => by
      have q := nb b o e hb
      rw [z, fl3.2.1] at q
      cases q
    have n0 : X.s_0.heap.get? a = none := by
      cases e : X.s_0.heap.get? a with
      | none => rfl
      | some o =>
        obtain ⟨o', e'⟩ := J.base.there a o e (by rw [hex]; exact fun z => nomatch z)
        exact absurd rfl (inB e' (by rw [hs]; exact nfr))
    have npin : ∀ p ∈ X.pn ++ pins, p.1 ≠ a := fun p hp => by
      obtain ⟨e, _, n1, n2, _⟩ := J.pin p hp
      exact inB e fun hm => (List.mem_cons.mp (J.stkSub _ hm)).elim n1 n2
    refine wpAny_handleBy_cons (codeAny_handlers_test ?_) (by intro q; cases q)
    have LT : PySem.W.Looks (model X.prog X.w) h3 (typeOf (.ref a)) cls := fun A Q E s k q => wpAny_typeOf_ref (k _ _ he3) (by rw [hz3.1]; exact q)
    have S3 := J3.suite he3 hd3 na nL nF
    have test : ∀ {Q : Value → Shared → Prop} {E : Value → Shared → Prop}, Q c { s' with heap := h3 } → wpAny (model X.prog X.w) (X.A.mark (some (.ref a))) (eval (.Name x np) X.env) Q E { s' with heap := h3 } := fun {Q E} q => by
      obtain ⟨g1, g2, g3 | ⟨g3, g4, g5⟩⟩ := hc
      · exact ld_glob (X := X.suite a ((a, oe3) :: (X.pn ++ pins))) S3 g1 g3 q g2
      · exact ld_blt (X := X.suite a ((a, oe3) :: (X.pn ++ pins))) S3 g1 g3 g4 q g5 g2
    refine test ((PySem.W.exm_one (M := model X.prog X.w) (J3.kIn) LT hyes1).here ?_)
    refine codeAny_handlers_suite_as ?_
    refine HandSPX.lands_againZ fl3 fun h4 fl4 up4 => ?_
    have J4 : Inv X pins σ' H' { s' with heap := h4 } := J.landed nb fl4.1 ((up.trans up3).trans up4) os ag
    obtain ⟨oe4, vs4, he4, hz4, hd4⟩ := fl4.there
    refine store_ok (X := X.suite a ((a, oe4) :: (X.pn ++ pins))) (v := .ref a) (J4.suite he4 hd4 na nL nF) hN hi (.inl hln) rfl (fun s5 S5 => ?_) (.inr hln)
    refine wpAny_mono ((hsu a oe4 cls d (X.pn ++ pins) hz4 ⟨_, hd4⟩).run [] s5 _ H' _ S5 (hyes a na)) (fun f s6 hsp => ?_) (fun _ _ z => False.elim z)
    have fin : ∀ {σ6 : St} {H6 : Hp} {Q : Shared → Prop}, Inv (X.suite a ((a, oe4) :: (X.pn ++ pins))) [] σ6 H6 s6 → (∀ s7, Inv X pins (σ6.set i none) (upd H6 a (exh a cls d)) s7 → Q s7) →
        wpAny (model X.prog X.w) X.A (do bindName X.env n .none; unbindBehindTheSuite X.env n pos') (fun _ s7 => Q s7) X.xe s6 := fun {σ6 H6 Q} S6 hq => gone_ok (S6.unsuiteK ok) hN hi hln fun s7 J7 => hq s7 (J7.track hd4 hz4 n0 npin)
    cases f with
    | ret u =>
      obtain ⟨v6, σ6, H6, S6, r6, q6⟩ := hsp
      exact fin S6 fun s7 J7 => ⟨_, _, _, J7, r6, q6⟩
    | next =>
      obtain ⟨σ6, H6, S6, q6⟩ := hsp
      exact fin S6 fun s7 J7 => ⟨_, _, J7, q6⟩
    | cont =>
      obtain ⟨σ6, H6, S6, q6⟩ := hsp
      exact fin S6 fun s7 J7 => ⟨_, _, J7, q6⟩
    | brk =>
      obtain ⟨σ6, H6, S6, q6⟩ := hsp
      exact fin S6 fun s7 J7 => ⟨_, _, J7, q6⟩
  · cases f with
    | ret u =>
      obtain ⟨v, σ', H', J', r, q⟩ := hsp
      exact ⟨v, σ', H', J'.ofTry ok, r, q⟩
    | next =>
      obtain ⟨σ', H', J', q⟩ := hsp
      exact wpAny_execs_nil ⟨σ', H', J'.ofTry ok, q⟩
    | cont =>
      obtain ⟨σ', H', J', q⟩ := hsp
      exact ⟨σ', H', J'.ofTry ok, q⟩
    | brk =>
      obtain ⟨σ', H', J', q⟩ := hsp
      exact ⟨σ', H', J'.ofTry ok, q⟩
end
end L2

/-! repr of data: it asks which reprs are under way; a def's promise where none is. -/
namespace L2
open PySem PySem.Spec PyProof.Rows
/-- a promise that holds where no repr is under way -/
structure FnG (P : Program) (w : World) (K : PySem.W.Frag) (mg : Str → Option Value) (base : Heap) (CX : CXT) (k : Nat) (f : Addr) (fd : FuncData) (ps : List Str) (sp : Sp) : Prop where
  len : ∀ vs H Q E, sp vs H Q E → vs.length = ps.length
  run : ∀ (A : Around) (outer : List Env) (s : Shared) (H : Hp) (args : Args) (us : List Value) (vs : List V) (Q : VK) (E : XK), Room k A → A.guards = some [] → Env0 P w K mg base A outer s H → BindsTo s fd args (ps.zip us) → Vals vs us → sp vs H Q E →
    codeAny (model P w) A (.call (.ref f) args) (CR CX outer P w H s Q E) s
theorem FnOk.g {P : Program} {w : World} {K : PySem.W.Frag} {mg : Str → Option Value} {base : Heap} {CX : CXT} {k : Nat} {f : Addr} {fd : FuncData} {ps : List Str} {sp : Sp} (F : FnOk P w K mg base CX k f fd ps sp) : FnG P w K mg base CX k f fd ps sp :=
  ⟨F.len, fun A outer s H args us vs Q E hr _ => F.run A outer s H args us vs Q E hr⟩
section
variable {P : Program} {w : World} {K : PySem.W.Frag} {mg : Str → Option Value} {base : Heap}
theorem Fun.okG {x qual : Str} {st : Stmt} {f : Addr} {fd : FuncData} {N ps : List Str} {k : Nat} {sp : Sp} (F : Fun K x qual st f fd) (S : FnScope N ps (defScope st)) (len : ∀ vs H Q E, sp vs H Q E → vs.length = ps.length)
    (hbody : ∀ (cdv : Value) (A : Around) (outer : List Env) (s : Shared) (H : Hp) (vs : List V) (Q : VK) (E : XK), Room k (A.deeper (envOfC qual (defScope st) s.heap.objs.size f cdv)) → A.guards = some [] → sp vs H Q E →
      ∃ t, PSs (cxOf CX0 P w K mg base N qual (defScope st) f cdv A outer s H E).nox (defBody st) t ∧ t { nx := fun _ H' => Q .non H', rt := Q } (start N vs) H) : FnG P w K mg base CX0 (k + 1) f fd ps sp := by
  obtain ⟨oc, od, kV, doc, pm, an, cdv, ct, osl, rfl, lk, hcd⟩ := F.ex
  refine ⟨len, fun A outer s H args us vs Q E hr hg e0 hb r hsp => LamX.run_ofS lk hcd S hr e0 hb r (len _ _ _ _ hsp) fun hr' => ?_⟩
  obtain ⟨t, h, q⟩ := hbody cdv A outer s H vs Q E hr' hg hsp
  exact ⟨t, h.nox, q⟩
end
section
variable {X : Cx} {CX : CXT} {k : Nat} {f : Addr} {fd : FuncData} {ps : List Str} {sp : Sp} {E : XK} {x : Str} {ds : List Value} {dvs : List V} {e : Expr} {es : List Expr} {t : TA} {p pos : Pos}
theorem run_fnG {pins : List (Addr × Obj)} {σ : St} {H : Hp} {s : Shared} {Q : VK} {us : List Value} {vs : List V} (hG : X.A.guards = some []) (F : FnG X.prog X.w X.K X.mg X.base CX k f fd ps sp) (hr : Room k X.A) (hb : Binds X.K fd ps ds) (hd : Vals dvs ds)
    (hx : Passes CX X E) (I : Inv X pins σ H s) (r : Vals vs us) (h : sp (vs ++ dvs) H Q E) : wpAny (model X.prog X.w) X.A (call (.ref f) us) (EP X pins σ Q) X.xe s := by
  have rr : Vals (vs ++ dvs) (us ++ ds) := r.append hd
  have hlen : (us ++ ds).length = ps.length := by rw [← rr.length]; exact F.len _ _ _ _ h
  refine wpAny_call (codeAny_mono (F.run X.A X.stack s H ⟨us, []⟩ (us ++ ds) (vs ++ dvs) Q E hr hG I.env0 (hb s us I.kIn hlen) rr h) fun r s' hq => ?_)
  cases r with
  | error e => exact hx pins σ H s e s' I hq
  | ok fl =>
    cases fl with
    | ret u => exact I.after hq
    | next => exact False.elim hq
    | brk => exact False.elim hq
    | cont => exact False.elim hq
theorem pe_callG (hG : X.A.guards = some []) (F : FnG X.prog X.w X.K X.mg X.base CX k f fd ps sp) (hr : Room k X.A) (hg : Gl X x) (hm : X.mg x = some (.ref f)) (hk : PySem.W.keepIn X.K (.ref f) = true) (hb : Binds X.K fd ps ds) (hd : Vals dvs ds) (hx : Passes CX X E)
    (ha : PA X (e :: es) t) (hdb : (x == ("__debug__" : Str)) = false := by decide) (he : starEach (e :: es) X.env = (false, eval e X.env) :: starEach es X.env := by rfl) (hpl : (backTo pos (starEach es X.env)).any (·.1) = false := by rfl) :
    PE X (.Call (.Name x p) (e :: es) [] pos) (tCall sp dvs E t) := by
  refine ⟨fun pins s σ H Q I h => wpAny_Call_Name_kw (ld_glob I hg hm ?_ hdb)⟩
  refine PySem.W.callWith_K (h₀ := X.base) I.ok.mod.kin hk (thn (ha.run pos pins s σ H _ I h) fun us s1 ⟨vs, H1, I1, r, q⟩ => ⟨I1.kIn, run_fnG hG F hr hb hd hx I1 r q⟩) he hpl
/-- repr of a list or tuple of data -/
def rRepr (K : PySem.W.Frag) : List V → Hp → VK → Prop := fun xs H Q => ∃ (a : Addr) (d : PyData), xs = [.ref a] ∧ Dp K H (.ref a) d ∧ d.showable = true ∧ d.hasDict = false ∧ d.depth ≤ 64 ∧ d.shown.length ≤ sizeLine ∧ Q (.str d.shown) H
theorem c_repr (hG : X.A.guards = some []) (hu : X.A.units + 128 < cLine) : CallR X (.builtin "repr") (rRepr X.K) := by
  intro pins s σ H xs us Q I r h
  obtain ⟨a, d, rfl, hd, h1, h2, h3, h4, q⟩ := h
  obtain ⟨u, rfl, rx⟩ := vals1 r
  cases (show u = Value.ref a from rx)
  obtain ⟨as, hr⟩ := Dp.reads I d _ _ hd rx
  refine repr_of_reads' hr h1 (fun z => by rw [h2] at z; cases z) hG (by omega) (fun _ _ z => z) (fun h' u tk hk => ?_) h4
  exact ⟨.str d.shown, H, I.kept hk, ⟨u, rfl⟩, q⟩
end
end L2

namespace LamX
open PySem PySem.Spec PyProof.Rows L2
theorem law_callG {P : Program} {w : World} {K : PySem.W.Frag} {mg mBlt : Str → Option Value} {CX : CXT} {k : Nat} {fLaw a : Addr} {tabs : List (Addr × Addr)} {fdLaw : FuncData} {x : Str} {spc : Sp} {s₁ : Shared} {items : List Value} {nums : List Int}
    (KH : K.In s₁.heap) (nsG : s₁.heap.Ns mainGlobals mg) (hB2 : s₁.heap.Ns builtinsNs mBlt) (bltB : ∀ x : Str, x ≠ "__name__" → mBlt x = bootBuiltins x) (limG : s₁.heap.NoLimit) (gnE : s₁.gens = #[])
    (tabE : ∀ p ∈ tabs, s₁.heap.get? p.2 = some { cls := .none, data := .fields #[] }) (tabK : ∀ p ∈ tabs, K.lookup p.2 = none) (cdE : ∀ p ∈ tabs, PySem.W.CodeHd s₁.heap p.1 p.2)
    (bmE : ∃ (bmA : Addr) (obj : Obj), mg "__builtins__" = some (.ref bmA) ∧ bmA ≠ builtinsNs ∧ s₁.heap.get? bmA = some obj ∧ obj.cls = .type "module" ∧ obj.dict = some builtinsNs ∧ obj.data = .plain)
    (scE : s₁.heap.get? a = some { cls := .type "list", data := .seq items.toArray }) (inE : IntsAre items nums) (lnE : nums.length ≤ sizeLine) (rmE : Room k callerA)
    (FF : ∀ base : Heap, K.In base → base.Ns mainGlobals mg → (∀ p ∈ tabs, TabB base mg p.1 p.2) → L2.FnG P w K mg base CX k fLaw fdLaw [x] spc) (bdE : ∀ (s : Shared) (u : Value), BindsTo s fdLaw ⟨[u], []⟩ [(x, u)])
    (spE : ∀ H : Hp, (∀ p ∈ tabs, H p.2 = some (.tbl #[])) → SqL K H a (nums.map V.int) → spc [.ref a] H (fun v _ => v = .bl true) fun _ _ _ => False)
    (cxE : ∀ H e s', CX [] H s₁ (fun _ _ _ => False) e s' → False) :
    codeAny (model P w) callerA (.call (.ref fLaw) ⟨[.ref a], []⟩) (fun r s' => r = .ok (.ret (.bool true)) ∧ OldK s₁.heap s'.heap ∧ s'.os = s₁.os ∧ AllBare s'.gens) s₁ := by
  have rvs := vals_ints inE
  have lenW := inE.length
  have isTb : ∀ b : Addr, b ∈ tabs.map (·.2) → s₁.heap.get? b = some { cls := .none, data := .fields #[] } := fun b hB2 => by
    obtain ⟨p, memP, e⟩ := List.mem_map.mp hB2
    rw [← e]
    exact tabE p memP
  have notTb : a ∉ tabs.map (·.2) := fun zq => by
    have qq := isTb a zq
    rw [scE] at qq
    have z' : Data.seq items.toArray _ = Data.fields #[] := congrArg Obj.data (Option.some.inj qq)
    cases z'
  have inTb : ∀ p ∈ tabs, p.2 ∈ tabs.map (·.2) := fun p memP => List.mem_map.mpr ⟨p, memP, rfl⟩
  -- from an abstract heap in which nothing but the script and the tables may be tracked
  have main0 : ∀ H : Hp, (∀ p ∈ tabs, H p.2 = some (.tbl #[])) → (∀ b, H b = none ∨ b ∈ tabs.map (·.2) ∨ ∃ o xs, H b = some (.frz o (.lst xs))) → SqL K H a (nums.map V.int) → HOk P w H s₁.heap → (∀ b, H b ≠ none → b = a ∨ b ∈ tabs.map (·.2)) → (H a ≠ none → K.lookup a = none) →
      codeAny (model P w) callerA (.call (.ref fLaw) ⟨[.ref a], []⟩) (fun r s' => r = .ok (.ret (.bool true)) ∧ OldK s₁.heap s'.heap ∧ s'.os = s₁.os ∧ AllBare s'.gens) s₁ := by
    intro H Htab Hone Hscr Hok0 Hall HKn
    have toBase : ∀ {b : Addr} {o : Obj}, s₁.heap.get? b = some o → H b = none → (hidT s₁.heap H).get? b = some o := fun e n => hidT_get e n
    have notD : ∀ {b : Addr} {o : Obj}, s₁.heap.get? b = some o → (∀ items n, o.data ≠ .seq items n) → o.data ≠ .fields #[] → H b = none := fun {b o} e h11 hh => by
      cases qq : H b with
      | none => rfl
      | some u =>
        rcases Hall b (by rw [qq]; simp) with e' | e'
        · rw [e', scE] at e
          cases e
          exact (h11 _ _ rfl).elim
        · rw [isTb b e'] at e
          cases e
          exact (hh rfl).elim
    have notA : ∀ {b : Addr} {o : Obj} {es : Array DictEntry} {epp : Nat}, s₁.heap.get? b = some o → o.data = .dict es epp → H b = none := fun {b o es epp} e d => by
      refine notD e (fun items n zq => ?_) fun zq => ?_
      · rw [d] at zq
        cases zq
      · rw [d] at zq
        cases zq
    have nsB0 : ∀ {b : Addr} {m : Str → Option Value}, s₁.heap.Ns b m → (hidT s₁.heap H).Ns b m := fun {b m} ⟨o, es, epp, e, d, r⟩ => ⟨o, es, epp, toBase e (notA e d), d, r⟩
    have KBase : K.In (hidT s₁.heap H) := fun b o e => toBase (KH b o e) (by
      cases qq : H b with
      | none => rfl
      | some u =>
        rcases Hall b (by rw [qq]; simp) with e' | e'
        · rw [e'] at e qq
          rw [HKn (by rw [qq]; simp)] at e
          cases e
        · obtain ⟨p, memP, epp⟩ := List.mem_map.mp e'
          rw [← epp, tabK p memP] at e
          cases e)
    have modB : L2.Mod K mg (hidT s₁.heap H) := ⟨KBase, nsB0 nsG, ⟨mBlt, nsB0 hB2, bltB⟩, let ⟨mc, h11, hh⟩ := limG; ⟨mc, nsB0 h11, hh⟩⟩
    have tabB0 : ∀ p ∈ tabs, TabB (hidT s₁.heap H) mg p.1 p.2 := fun p memP => by
      have hTp := tabE p memP
      refine ⟨?_, ?_, fun zq => ?_⟩
      · obtain ⟨o, uus, file, tf, flags, tg, inF, text, tt, e1, r1, r2, r3, r4, r5, r6, r7, r8, hne⟩ := cdE p memP
        refine ⟨o, uus, file, tf, flags, tg, inF, text, tt, toBase e1 (notD e1 (fun items n zq => ?_) fun zq => ?_), r1, r2, r3, r4, r5, r6, r7, r8, hne⟩
        · rw [r2] at zq
          cases zq
        · rw [r2] at zq
          cases zq
          simp at r3
      · obtain ⟨bmA, obj, b1, b2, b3, b4, b5, b6⟩ := bmE
        have nG : bmA ≠ mainGlobals := fun qq => by
          obtain ⟨o, es, epp, e, hd, _⟩ := nsG
          rw [qq, e] at b3
          cases b3
          rw [hd] at b6
          cases b6
        have nP : bmA ≠ p.2 := fun qq => by
          rw [qq, hTp] at b3
          cases b3
          cases b6
        refine ⟨bmA, obj, b1, b2, nG, nP, toBase b3 (notD b3 (fun items n zq => ?_) fun zq => ?_), b4, b5, b6⟩
        · rw [b6] at zq
          cases zq
        · rw [b6] at zq
          cases zq
      · obtain ⟨o, es, epp, e, hd, _⟩ := nsG
        rw [zq, hTp] at e
        cases e
        cases hd
    have env0 : Env0 P w K mg (hidT s₁.heap H) callerA [] s₁ H := ⟨rfl, modB, fun b o e => of_hidT e, Nat.le_of_eq (hidT_size _ _), trivial, fun b hB2 => absurd (show b ∈ ([] : List Addr) from hB2) (by simp), Hok0, .of_eq gnE⟩
    refine codeAny_mono ((FF _ KBase (nsB0 nsG) tabB0).run callerA [] s₁ H ⟨[.ref a], []⟩ [.ref a] [.ref a] _ _ rmE rfl env0 (bdE s₁ (.ref a)) (.cons rfl .nil) (spE H Htab Hscr)) fun r s' h => ?_
    cases r with
    | error e => exact (cxE H e s' h).elim
    | ok fl =>
      cases fl with
      | next => exact False.elim h
      | brk => exact False.elim h
      | cont => exact False.elim h
      | ret u =>
        obtain ⟨v, H', osE, bareE, unk, Hok1, r', qq⟩ := h
        have q' : v = .bl true := qq
        subst q'
        obtain rfl : u = Value.bool true := r'
        have kept0 : ∀ b o, b ∉ tabs.map (·.2) → s₁.heap.get? b = some o → s'.heap.get? b = some o := fun b o nb e => by
          cases qq : H b with
          | none => exact unk.keep b o e qq (by intro zq; exact absurd (show b ∈ ([] : List Addr) from zq) (by simp)) (by simp)
          | some u =>
            rcases Hone b with zq | zq | ⟨obj, xs, zq⟩
            · rw [qq] at zq; cases zq
            · exact absurd zq nb
            · have zz := unk.frzs b obj _ zq
              obtain ⟨e1, _⟩ := Hok0 b _ zq
              obtain ⟨ee, _⟩ := Hok1 b _ zz
              rw [e] at e1; cases e1
              exact ee
        have grew : ∀ p ∈ tabs, ∃ rest : Array Value, s'.heap.get? p.2 = some { cls := .none, data := .fields rest } := fun p memP => by
          obtain ⟨rest, zq⟩ := unk.tbls p.2 #[] (Htab p memP)
          exact ⟨_, Hok1 p.2 _ zq⟩
        refine ⟨rfl, ⟨fun b o e => ?_, fun b o e => ?_⟩, osE, bareE⟩
        · by_cases hB2 : b ∈ tabs.map (·.2)
          · obtain ⟨p, memP, epp⟩ := List.mem_map.mp hB2
            obtain ⟨rest, hmo⟩ := grew p memP
            rw [← epp] at e ⊢
            rw [tabE p memP] at e
            cases e
            exact .inr (.inl ⟨((cdE p memP).tab (tabE p memP)).isCodeTable, rfl, #[], rest, rfl, by rw [Array.empty_append]; exact hmo⟩)
          · exact .inl (kept0 b o hB2 e)
        · by_cases hB2 : b ∈ tabs.map (·.2)
          · obtain ⟨p, memP, epp⟩ := List.mem_map.mp hB2
            obtain ⟨rest, hmo⟩ := grew p memP
            rw [← epp]
            exact ⟨_, hmo⟩
          · exact ⟨o, kept0 b o hB2 e⟩
  cases lookE : K.lookup a with
  | some o =>
    have e := KH a o lookE
    rw [scE] at e
    cases e
    refine main0 (fun b => if b ∈ tabs.map (·.2) then some (.tbl #[]) else none) (fun p memP => if_pos (inTb p memP)) (fun b => ?_) (.inr ⟨_, items.toArray, _, lookE, rfl, rfl, rfl, by rw [List.size_toArray, lenW]; exact lnE, by simpa using rvs⟩) (fun b u zq => ?_) (fun b zq => ?_) fun zq => absurd (show (if a ∈ tabs.map (·.2) then some (HO.tbl #[]) else none) = none from if_neg notTb) zq
    · by_cases hB2 : b ∈ tabs.map (·.2)
      · exact .inr (.inl hB2)
      · exact .inl (if_neg hB2)
    · by_cases hB2 : b ∈ tabs.map (·.2)
      · have z' := (if_pos hB2).symm.trans zq
        cases z'
        exact isTb b hB2
      · have z' := (if_neg hB2).symm.trans zq
        cases z'
    · by_cases hB2 : b ∈ tabs.map (·.2)
      · exact .inr hB2
      · exact absurd (if_neg hB2) zq
  | none =>
    refine main0 (fun b => if b = a then some (.frz { cls := .type "list", data := .seq items.toArray } (.lst (nums.map V.int))) else if b ∈ tabs.map (·.2) then some (.tbl #[]) else none) (fun p memP => (if_neg (show ¬ p.2 = a from fun zq => notTb (by rw [← zq]; exact inTb p memP))).trans (if_pos (inTb p memP))) (fun b => ?_)
      (.inl (.inr ⟨{ cls := .type "list", data := .seq items.toArray }, if_pos rfl⟩)) (fun b u zq => ?_) (fun b zq => ?_) fun _ => lookE
    · by_cases hB2 : b = a
      · exact .inr (.inr ⟨_, _, if_pos hB2⟩)
      · by_cases hb2 : b ∈ tabs.map (·.2)
        · exact .inr (.inl hb2)
        · exact .inl ((if_neg hB2).trans (if_neg hb2))
    · by_cases hB2 : b = a
      · have z' := (if_pos hB2).symm.trans zq
        cases z'
        rw [hB2]
        exact ⟨scE, by rw [List.length_map]; exact lnE, items, _, rvs, scE⟩
      · have z1 := (if_neg hB2).symm.trans zq
        by_cases hb2 : b ∈ tabs.map (·.2)
        · have z' := (if_pos hb2).symm.trans z1
          cases z'
          exact isTb b hb2
        · have z' := (if_neg hb2).symm.trans z1
          cases z'
    · by_cases hB2 : b = a
      · exact .inl hB2
      · by_cases hb2 : b ∈ tabs.map (·.2)
        · exact .inr hb2
        · exact absurd ((if_neg hB2).trans (if_neg hb2)) zq
/-- what is known of the law's promise at the head's heap h -/
def LawAtG (l : PySem.W.OpenLaw) (w : World) (K : PySem.W.Frag) (CX : CXT) (k n : Nat) (x : Str) (mg : Str → Option Value) (fLaw : Addr) (h : Heap) : Prop :=
  ∃ (fdLaw : FuncData) (tabs : List (Addr × Addr)) (spc : Sp), (∀ p ∈ tabs, h.get? p.2 = some { cls := .none, data := .fields #[] }) ∧ (∀ p ∈ tabs, K.lookup p.2 = none) ∧ (∀ p ∈ tabs, PySem.W.CodeHd h p.1 p.2) ∧ (∀ (s : Shared) (u : Value), BindsTo s fdLaw ⟨[u], []⟩ [(x, u)]) ∧
    (∀ (H : Hp) (a : Addr) (nums : List Int), nums.length ≤ n → (∀ zq ∈ nums, Builtin.Int.intBits zq ≤ 1048576) → (∀ p ∈ tabs, H p.2 = some (.tbl #[])) → SqL K H a (nums.map V.int) → spc [.ref a] H (fun v _ => v = .bl true) fun _ _ _ => False) ∧
    ∀ base : Heap, K.In base → base.Ns mainGlobals mg → (∀ p ∈ tabs, TabB base mg p.1 p.2) → L2.FnG l.prog w K mg base CX k fLaw fdLaw [x] spc
theorem walk_ofG {l : PySem.W.OpenLaw} {n k : Nat} {qq : Program} {loose : List Str} {XP : (Str → Option Value) → Heap → Prop} {YP : World → Heap → Prop} {d : DefRec} {K : Params → PySem.W.Frag} {CX : World → CXT} {x : Str}
    (hn : l.most = some n) (hn2 : n ≤ sizeLine) (hdf : d.params.defaults = []) (rmE : Room k callerA) (hY : ∀ (w : World) (h : Heap), YP w h → (K w.params).In h)
    (FF : ∀ (w : World) (mg : Str → Option Value) (fLaw : Addr) (h : Heap), YP w h → (K w.params).In h → h.Ns mainGlobals mg → mg d.name = some (.ref fLaw) → LawAtG l w (K w.params) (CX w) k n x mg fLaw h)
    (cxE : ∀ (w : World) (H : Hp) (s : Shared) (e : Value) (s' : Shared), CX w [] H s (fun _ _ _ => False) e s' → False) :
    PySem.W.WalkO qq loose XP YP l.row.toRowW d [] (fun f items => PySem.call f items) := by
  refine Att.attach_callB hn hdf fun w s₀ s₁ mg mBlt fLaw o pm cd doc a items nums G Y ho hd hcd hmg hobj hints hlen hbits gnE => ?_
  have KH := hY w _ Y
  obtain ⟨fdLaw, tabs, spc, tabE, tabK, cdE, hB2, spE, hF⟩ := FF w mg fLaw _ Y KH G.T.g hmg
  exact law_callG KH G.T.g G.T.b G.T.builtins G.T.nolimit gnE tabE tabK cdE G.T.bmain hobj hints (Nat.le_trans hlen hn2) rmE hF hB2 (fun H Htab Hscr => spE H a nums hlen hbits Htab Hscr) fun H e s' => cxE w H s₁ e s'
end LamX

/-! len(x), str(x) of an own class. -/
namespace L2
open PySem PySem.Spec PyProof.Rows
section
variable {X : Cx} {CX : CXT} {k : Nat} {f C : Addr} {fd : FuncData} {ps : List Str} {sp : Sp}
/-- a special method of the class -/
structure SpM (K : PySem.W.Frag) (C f : Addr) (name : Str) : Prop where
  hs : PySem.W.findIn K (.ref C) name = some (some (.ref f))
  hf : PySem.W.isFn K (.ref f) = true
def rLenO (C : Addr) (sp : Sp) : List V → Hp → VK → Prop := fun xs H Q => ∃ a dx fs, xs = [.ref a] ∧ H a = some (.ins C dx fs) ∧ sp [.ref a] H (fun v H' => ∃ n : Int, v = .int n ∧ (0 ≤ n ∧ n < 2 ^ 63) ∧ Q (.int n) H') (fun _ _ _ => False)
theorem c_lenO (M : SpM X.K C f "__len__") (F : FnOk X.prog X.w X.K X.mg X.base CX k f fd ps sp) (hr : Room (k + 1) X.A) (hb : Binds X.K fd ps []) (hx : Passes CX X (fun _ _ _ => False)) : CallR X (.builtin "len") (rLenO C sp) := by
  intro pins s σ H xs us Q I r h
  obtain ⟨a, dx, fs, rfl, ha, hq⟩ := h
  obtain ⟨u, rfl, rx⟩ := vals1 r
  cases (show u = Value.ref a from rx)
  obtain ⟨_, J, _⟩ := ins_get I.hok ha
  obtain ⟨_, J, _⟩ := J.look
  obtain ⟨_, hF⟩ := I.fr
  refine PySem.W.len_K hF I.ok.mod.kin J M.hs M.hf (wpAny_mono (callA (A := X.A.in1) (vs := [.ref a]) F hr.in1 rfl hb hx I (.cons rfl .nil) hq) (fun z s' hz => ?_) fun _ _ z => z)
  obtain ⟨v', H', I', rv, n, e, hn, q⟩ := hz
  subst e
  obtain ⟨t, rfl⟩ := (show ∃ t, z = Value.int n t from rv)
  exact ⟨hn, .int n, H', I'.tok _, ⟨_, rfl⟩, q⟩
def rStrO (C : Addr) (sp : Sp) : List V → Hp → VK → Prop := fun xs H Q => ∃ a dx fs, xs = [.ref a] ∧ H a = some (.ins C dx fs) ∧ sp [.ref a] H (fun v H' => ∃ x : Str, v = .str x ∧ Q (.str x) H') (fun _ _ _ => False)
theorem c_strO (M : SpM X.K C f "__str__") (F : FnOk X.prog X.w X.K X.mg X.base CX k f fd ps sp) (hr : Room (k + 2) X.A) (hb : Binds X.K fd ps []) (hx : Passes CX X (fun _ _ _ => False)) : CallR X (.type "str") (rStrO C sp) := by
  intro pins s σ H xs us Q I r h
  obtain ⟨a, dx, fs, rfl, ha, hq⟩ := h
  obtain ⟨u, rfl, rx⟩ := vals1 r
  cases (show u = Value.ref a from rx)
  obtain ⟨_, J, _⟩ := ins_get I.hok ha
  obtain ⟨_, J, _⟩ := J.look
  have hu := hr.un
  refine PySem.W.kso_call (by show X.A.units + 1 + 1 < cLine; omega) I.kIn J M.hs M.hf (wpAny_mono (callA (A := X.A.in1.in1) (vs := [.ref a]) F hr.in1.in1 rfl hb hx I (.cons rfl .nil) hq) (fun z s' hz => ?_) fun _ _ z => z)
  obtain ⟨v', H', I', rv, x, e, q⟩ := hz
  subst e
  obtain ⟨t, rfl⟩ := (show ∃ t, z = Value.str x t from rv)
  exact ⟨.str x, H', I', ⟨_, rfl⟩, q⟩
end
end L2

/-! Abstract rules for own classes, errors, lambdas, pens. -/
namespace L2
open PySem PySem.Spec PyProof.Rows
/-- as Fun.okG, the code object told -/
theorem Fun.okGC {P : Program} {w : World} {K : PySem.W.Frag} {mg : Str → Option Value} {base : Heap} {x qual : Str} {st : Stmt} {f : Addr} {fd : FuncData} {N ps : List Str} {k : Nat} {sp : Sp} (F : Fun K x qual st f fd) (S : FnScope N ps (defScope st)) (len : ∀ vs H Q E, sp vs H Q E → vs.length = ps.length)
    (hb : ∀ (A : Around) (outer : List Env) (s : Shared) (H : Hp) (vs : List V) (Q : VK) (E : XK), Room k (A.deeper (envOfC qual (defScope st) s.heap.objs.size f fd.code)) → A.guards = some [] → sp vs H Q E →
      ∃ t, PSs (cxOf CX0 P w K mg base N qual (defScope st) f fd.code A outer s H E).nox (defBody st) t ∧ t { nx := fun _ H' => Q .non H', rt := Q } (start N vs) H) : FnG P w K mg base CX0 (k + 1) f fd ps sp := by
  obtain ⟨oc, od, kV, doc, pm, an, cdv, ct, osl, rfl, lk, hcd⟩ := F.ex
  refine ⟨len, fun A outer s H args us vs Q E hr hg e0 hbd r hsp => LamX.run_ofS lk hcd S hr e0 hbd r (len _ _ _ _ hsp) fun hr' => ?_⟩
  obtain ⟨t, h, q⟩ := hb A outer s H vs Q E hr' hg hsp
  exact ⟨t, h.nox, q⟩
end L2
namespace AW
open PySem PySem.Spec PyProof.Rows L2 LamX ClX
theorem both_nt {A B : Prop} (h : B) : ((!true) = true → A) ∧ ((!true) = false → B) := ⟨fun z => Bool.noConfusion z, fun _ => h⟩
theorem both_nf {A B : Prop} (h : A) : ((!false) = true → A) ∧ ((!false) = false → B) := ⟨fun _ => h, fun z => Bool.noConfusion z⟩
theorem bor_t {A B : Prop} (h : B) : (true = false → A) ∧ (true = true → B) := ⟨fun z => Bool.noConfusion z, fun _ => h⟩
theorem bor_f {A B : Prop} (h : A) : (false = false → A) ∧ (false = true → B) := ⟨fun _ => h, fun z => Bool.noConfusion z⟩
theorem bor_nt {A B : Prop} (h : A) : ((!true) = false → A) ∧ ((!true) = true → B) := ⟨fun _ => h, fun z => Bool.noConfusion z⟩
theorem bor_nf {A B : Prop} (h : B) : ((!false) = false → A) ∧ ((!false) = true → B) := ⟨fun z => Bool.noConfusion z, fun _ => h⟩
theorem keep2 {kn : Hp} {a q : Addr} {o : HO} {u : HO} (h : a ≠ q) (e : kn a = some u) : upd kn q o a = some u := by
  rw [upd_ne h]
  exact e
section
variable {K : PySem.W.Frag} {H H' : Hp} {x : V} {t : Value}
theorem tyof_ext (e : Ext H H') (h : TyOf K H x t) : TyOf K H' x t := by
  cases h with
  | non => exact .non
  | bl x => exact .bl x
  | int i => exact .int i
  | str x => exact .str x
  | flt x => exact .flt x
  | lst h => exact .lst (e _ _ h)
  | frz h => exact .frz (e _ _ h)
  | tup h => exact .tup (e _ _ h)
  | dK h => exact .dK (e _ _ h)
  | dT h => exact .dT (e _ _ h)
  | ins h a b c d m => exact .ins (e _ _ h) a b c d m
theorem tyx_ext (e : Ext H H') (h : TyX K H x t) : TyX K H' x t := by
  cases h with
  | base b => exact .base (tyof_ext e b)
  | byt b => exact .byt b
  | set h => exact .set (e _ _ h)
  | kList h c => exact .kList h c
  | kTuple h c => exact .kTuple h c
  | kDict h c => exact .kDict h c
  | fTuple h => exact .fTuple (e _ _ h)
  | fDict h => exact .fDict (e _ _ h)
end
/-- the wish of errors -/
abbrev EAK := Value → Option Addr → Hp → Nat → Prop
def ErrOk (c : Cw) (EA : EAK) (E : XK) : Prop := ∀ cls d kn' n' H', EA cls d kn' n' → Good c kn' n' H' → E cls d H'
theorem err_no {c : Cw} {E : XK} : ErrOk c (fun _ _ _ _ => False) E := fun _ _ _ _ _ h => h.elim
abbrev bodyX (c : Cw) (E : XK) : EAK := fun cls d kn n => ∀ H', Good c kn n H' → E cls d H'
theorem err_body {c : Cw} {E : XK} : ErrOk c (bodyX c E) E := fun _ _ _ _ H' h g => h H' g
section
variable {c : Cw} {kn : Hp} {n : Nat} {σ : L2.St} {Q : V → Hp → Nat → Prop} {K : PySem.W.Frag} {E : XK} {EA : EAK} {B : List V → Hp → AK → AXK → Prop}
theorem r_isi {x cv : V} {t u : Value} {b : Bool} (k : ClsV cv u) (ty : TyX K kn x t) (e : PySem.W.kitOne K t u = some b) (q : Q (.bl b) kn n) : W c (rIsi K [x, cv]) kn n Q :=
  fun H g _ f => ⟨x, cv, t, u, b, rfl, k, tyx_ext g.ex ty, e, f _ kn n H q g⟩
theorem w_call {dvs : List V} {t : TA} (hm : MonoX B) (hE : ErrOk c EA E) (h : W c (t σ) kn n fun vs kn1 n1 => B (vs ++ dvs) kn1 (fun v k => Q v k n1) (fun cls d k => EA cls d k n1)) : W c (tCall (liftX B) dvs E t σ) kn n Q :=
  w_callX hm hE h
def rIsN : R2 := fun x y H Q => y = V.non ∧ Q (V.bl (decide (x = V.non))) H
theorem c_isN {X : Cx} : OpR X (compareOp .Is) rIsN := op_isN
theorem r_isN {x : V} (q : Q (.bl (decide (x = V.non))) kn n) : W c (rIsN x .non) kn n Q := fun H g _ k => ⟨rfl, k _ kn n H q g⟩
theorem r_isNt (q : Q (V.bl true) kn n) : W c (rIsN .non .non) kn n Q := fun H g _ k => ⟨rfl, k _ kn n H q g⟩
theorem r_isNr {a : Addr} (q : Q (V.bl false) kn n) : W c (rIsN (.ref a) .non) kn n Q := fun H g _ k => ⟨rfl, k _ kn n H q g⟩
theorem r_neV {v : V} (h : scal v v = true) (q : Q (V.bl false) kn n) : W c (rNe v v) kn n Q := r_ne h (by rw [decide_eq_true rfl]; exact q)
theorem r_eqV {v : V} (h : scal v v = true) (q : Q (V.bl true) kn n) : W c (rEq v v) kn n Q := r_eq h (by rw [decide_eq_true rfl]; exact q)
theorem r_neSelf {x : Str} (q : Q (V.bl false) kn n) : W c (rNe (.str x) (.str x)) kn n Q := r_ne rfl (by rw [decide_eq_true rfl]; exact q)
theorem r_eqSelf {x : Str} (q : Q (V.bl true) kn n) : W c (rEq (.str x) (.str x)) kn n Q := r_eq rfl (by rw [decide_eq_true rfl]; exact q)
theorem w_make {C : Addr} {t : TA} (hm : MonoX B) (hE : ErrOk c EA E) (h : W c (t σ) kn n fun vs kn1 n1 => ∀ x dx, kn1 x = none → kn1 dx = none → dx ≠ x →
    B (.ref x :: vs) (upd (upd kn1 dx (.own x)) x (.ins C dx [])) (fun v kn2 => v = .non ∧ Q (.ref x) kn2 n1) (fun cls d k => EA cls d k n1)) : W c (tMake C (liftX B) [] E t σ) kn n Q :=
  fun H g Q' q => h H g _ fun vs kn1 n1 H1 h1 g1 => fun x dx hx hdx hne => by
    have hx2 : upd H1 dx (.own x) x = none := by rw [upd_ne (Ne.symm hne)]; exact hx
    have z := sp_call (c := c) (n := n1) (Q := fun v kn2 n2 => v = .non ∧ Q (.ref x) kn2 n2) hm hE (h1 x dx (g1.free hx) (g1.free hdx) hne) _ ((g1.new hdx).new hx2) (fun v H2 => v = .non ∧ Q' (.ref x) H2)
      (fun v kn2 n2 H2 hq g2 => ⟨hq.1, q _ _ _ _ hq.2 g2⟩)
    have e : vs ++ [] = vs := List.append_nil vs
    rw [e]
    exact z
theorem w_meth {C : Addr} {m : Str} {ta : TE} {t : TA} (hm : MonoX B) (hE : ErrOk c EA E) (h : W c (ta σ) kn n fun x kn1 n1 => ∃ a dx fs, x = .ref a ∧ kn1 a = some (.ins C dx fs) ∧ fs.lookup m = none ∧
    W c (t σ) kn1 n1 fun vs kn2 n2 => B (.ref a :: vs) kn2 (fun v k => Q v k n2) (fun cls d k => EA cls d k n2)) : W c (tMeth C m (liftX B) [] E ta t σ) kn n Q :=
  fun H g Q' q => h H g _ fun x kn1 n1 H1 h1 g1 => by
    obtain ⟨a, dx, fs, rfl, ha, hl, h2⟩ := h1
    refine ⟨a, dx, fs, rfl, g1.ex _ _ ha, hl, h2 H1 g1 _ fun vs kn2 n2 H2 h3 g2 => ?_⟩
    have e : vs ++ [] = vs := List.append_nil vs
    rw [e]
    exact sp_call hm hE h3 H2 g2 Q' q
theorem r_own {op : Operator} {C a dx : Addr} {fs : List (Str × V)} {y : V} {t : Value} (hm : MonoX B) (hE : ErrOk c EA E) (ha : kn a = some (.ins C dx fs)) (ty : TyX K kn y t) (ot : OpT K op C t)
    (h : B [.ref a, y] kn (fun v k => Q v k n) (fun cls d k => EA cls d k n)) : W c (rOwn K op C (liftX B) E (.ref a) y) kn n Q :=
  fun H g Q' q => ⟨a, dx, fs, t, rfl, g.ex _ _ ha, tyx_ext g.ex ty, ot, sp_call hm hE h H g Q' q⟩
theorem r_eqO {C a dx : Addr} {fs : List (Str × V)} {y : V} {t : Value} {neg : Bool} (hm : MonoX B) (ha : kn a = some (.ins C dx fs)) (ty : TyX K kn y t) (nf : PySem.W.notFirst K C t = true)
    (h : B [.ref a, y] kn (fun v k => ∃ b, v = .bl b ∧ Q (.bl (if neg then !b else b)) k n) (fun _ _ _ => False)) : W c (rEqO K C (liftX B) neg (.ref a) y) kn n Q :=
  fun H g Q' q => ⟨a, dx, fs, t, rfl, g.ex _ _ ha, tyx_ext g.ex ty, nf, sp_call (EA := fun _ _ _ _ => False) (Q := fun v k n => ∃ b, v = .bl b ∧ Q (.bl (if neg then !b else b)) k n) hm err_no h H g _ fun v kn1 n1 H1 ⟨b, e, hq⟩ g1 => ⟨b, e, q _ _ _ _ hq g1⟩⟩
theorem r_lenO {C a dx : Addr} {fs : List (Str × V)} (hm : MonoX B) (ha : kn a = some (.ins C dx fs)) (h : B [.ref a] kn (fun v k => ∃ i : Int, v = .int i ∧ (0 ≤ i ∧ i < 2 ^ 63) ∧ Q (.int i) k n) (fun _ _ _ => False)) : W c (rLenO C (liftX B) [.ref a]) kn n Q :=
  fun H g Q' q => ⟨a, dx, fs, rfl, g.ex _ _ ha, sp_call (EA := fun _ _ _ _ => False) (Q := fun v k n => ∃ i : Int, v = .int i ∧ (0 ≤ i ∧ i < 2 ^ 63) ∧ Q (.int i) k n) hm err_no h H g _ fun v kn1 n1 H1 ⟨b, e, e2, hq⟩ g1 => ⟨b, e, e2, q _ _ _ _ hq g1⟩⟩
theorem r_strO {C a dx : Addr} {fs : List (Str × V)} (hm : MonoX B) (ha : kn a = some (.ins C dx fs)) (h : B [.ref a] kn (fun v k => ∃ x : Str, v = .str x ∧ Q (.str x) k n) (fun _ _ _ => False)) : W c (rStrO C (liftX B) [.ref a]) kn n Q :=
  fun H g Q' q => ⟨a, dx, fs, rfl, g.ex _ _ ha, sp_call (EA := fun _ _ _ _ => False) (Q := fun v k n => ∃ x : Str, v = .str x ∧ Q (.str x) k n) hm err_no h H g _ fun v kn1 n1 H1 ⟨b, e, hq⟩ g1 => ⟨b, e, q _ _ _ _ hq g1⟩⟩
theorem w_cval {ta : TE} {f : Str} (h : W c (ta σ) kn n fun x kn1 n1 => ∃ C mc v u, x = .ref C ∧ CRead K C mc ∧ CVal K C mc f v u ∧ Q v kn1 n1) : W c (tCVal K ta f σ) kn n Q :=
  fun H g Q' q => h H g _ fun x kn1 n1 H1 ⟨C, mc, v, u, e, r, cv, hq⟩ g1 => ⟨C, mc, v, u, e, r, cv, q _ _ _ _ hq g1⟩
theorem w_tupRg {ta tb : TE} (h : W c (ta σ) kn n fun x kn1 n1 => W c (tb σ) kn1 n1 fun y kn2 n2 => ∃ i j, x = .int i ∧ y = .int j ∧ RgOk i j ∧ ∀ q, kn2 q = none → Q (.ref q) (upd kn2 q (.tup (rgV i j))) n2) : W c (tTupRg (tRg2 ta tb) σ) kn n Q :=
  fun H g Q' q => h H g _ fun x kn1 n1 H1 h1 g1 => h1 H1 g1 _ fun y kn2 n2 H2 ⟨i, j, e1, e2, ok, h2⟩ g2 => ⟨i, j, e1, e2, ok, fun p hp => q _ _ _ _ (h2 p (g2.free hp)) (g2.new hp)⟩
theorem w_fmtI {te : TE} (h : W c (te σ) kn n fun x kn1 n1 => ∃ i : Int, x = .int i ∧ i.natAbs.log2 < 1920 ∧ Q (.str (toString i)) kn1 n1) : W c (tFmt te σ) kn n Q :=
  fun H g Q' q => h H g _ fun x kn1 n1 H1 ⟨i, e, hi, hq⟩ g1 => .inr ⟨i, e, hi, q _ _ _ _ hq g1⟩
theorem w_fmtS {te : TE} (h : W c (te σ) kn n fun x kn1 n1 => ∃ y : Str, x = .str y ∧ y.length ≤ sizeLine ∧ Q (.str y) kn1 n1) : W c (tFmt te σ) kn n Q :=
  fun H g Q' q => h H g _ fun x kn1 n1 H1 ⟨i, e, hi, hq⟩ g1 => .inl ⟨i, e, hi, q _ _ _ _ hq g1⟩
theorem w_js0 {acc : Str} {QS : Str → Hp → Nat → Prop} (q : QS acc kn n) : W c (tJs [] acc σ) kn n QS := fun H g _ k => k _ kn n H q g
theorem w_js {t : TE} {ts : List TE} {acc : Str} {QS : Str → Hp → Nat → Prop} (h : W c (t σ) kn n fun x kn1 n1 => ∃ y : Str, x = .str y ∧ (acc ++ y).length ≤ sizeLine ∧ W c (tJs ts (acc ++ y) σ) kn1 n1 QS) : W c (tJs (t :: ts) acc σ) kn n QS :=
  fun H g Q' q => h H g _ fun x kn1 n1 H1 ⟨y, e, hl, h2⟩ g1 => ⟨y, e, hl, h2 H1 g1 Q' q⟩
theorem w_joined {ts : List TE} (h : W c (tJs ts Str.empty σ) kn n fun out kn1 n1 => Q (.str out) kn1 n1) : W c (fun H Q' => tJs ts Str.empty σ H fun out H1 => Q' (.str out) H1) kn n Q :=
  fun H g Q' q => h H g _ fun out kn1 n1 H1 h1 g1 => q _ _ _ _ h1 g1
theorem r_repr {a : Addr} {d : PyData} (hd : Dp K kn (.ref a) d) (h1 : d.showable = true) (h2 : d.hasDict = false) (h3 : d.depth ≤ 64) (h4 : d.shown.length ≤ sizeLine) (q : Q (.str d.shown) kn n) : W c (rRepr K [.ref a]) kn n Q :=
  fun H g _ k => ⟨a, d, rfl, Dp.ext g.ex d _ hd, h1, h2, h3, h4, k _ kn n H q g⟩
theorem r_isK {a D dd : Addr} {fs : List (Str × V)} {cv : V} {u : Value} {b : Bool} (k : ClsV cv u) (ea : kn a = some (exh a (.ref D) (some dd))) (ed : kn dd = some (.xd fs)) (ex : ExcC K D) (e : PySem.W.kitOne K (.ref D) u = some b) (q : Q (.bl b) kn n) : W c (rIsK K [.ref a, cv]) kn n Q :=
  fun H g _ f => ⟨a, D, dd, fs, cv, u, b, rfl, k, g.ex _ _ ea, g.ex _ _ ed, ex, e, f _ kn n H q g⟩
theorem w_xk {te : TE} {f : Str} (h : W c (te σ) kn n fun x kn1 n1 => ∃ (a C dd : Addr) (fs : List (Str × V)) (v : V), x = .ref a ∧ kn1 a = some (exh a (.ref C) (some dd)) ∧ kn1 dd = some (.xd fs) ∧ XfC K C ∧ PySem.W.findIn K (.ref C) f = some none ∧ fs.lookup f = some v ∧ Q v kn1 n1) : W c (tXk K te f σ) kn n Q :=
  fun H g Q' q => h H g _ fun x kn1 n1 H1 ⟨a, C, dd, fs, v, e, ea, ed, xf, hn, hl, hq⟩ g1 => ⟨a, C, dd, fs, v, e, g1.ex _ _ ea, g1.ex _ _ ed, xf, hn, hl, q _ _ _ _ hq g1⟩
theorem w_dnew (h : ∀ q, kn q = none → Q (.ref q) (upd kn q (.dK [])) n) : W c (tDNewK σ) kn n Q := fun H g Q' q => fun p hp => q _ _ _ _ (h p (g.free hp)) (g.new hp)
theorem w_chain {r r' : R2} {ta tb tc : TE} (h : W c (ta σ) kn n fun x kn1 n1 => W c (tb σ) kn1 n1 fun y kn2 n2 => W c (r x y) kn2 n2 fun z kn3 n3 => ∃ k, z = .bl k ∧ (k = true → W c (tc σ) kn3 n3 fun w kn4 n4 => W c (r' y w) kn4 n4 Q) ∧ (k = false → Q (.bl false) kn3 n3)) : W c (tChain r r' ta tb tc σ) kn n Q :=
  fun H g Q' q => h H g _ fun x kn1 n1 H1 h1 g1 => h1 H1 g1 _ fun y kn2 n2 H2 h2 g2 => h2 H2 g2 _ fun z kn3 n3 H3 h3 g3 => by
    obtain ⟨k, e, a, b⟩ := h3
    refine ⟨k, e, ?_⟩
    cases k with
    | true => exact iteT (a rfl H3 g3 _ fun w kn4 n4 H4 h4 g4 => h4 H4 g4 Q' q)
    | false => exact iteF (q _ _ _ _ (b rfl) g3)
variable {D : AE}
theorem s_fld {ta tv : TE} {f : Str} (h : W c (tv σ) kn n fun y kn1 n1 => W c (ta σ) kn1 n1 fun x kn2 n2 => ∃ a C dx fs, x = .ref a ∧ kn2 a = some (.ins C dx fs) ∧ Cls K C ∧ NoAttr K C f ∧ fs.length < 1000 ∧ D.nx σ (upd kn2 a (.ins C dx (putF f y fs))) n2) : WS c (sFld K ta tv f) D σ kn n :=
  fun H g D' fit => h H g _ fun y kn1 n1 H1 h1 g1 => h1 H1 g1 _ fun x kn2 n2 H2 ⟨a, C, dx, fs, e, ha, cl, na, hl, hq⟩ g2 => ⟨a, C, dx, fs, e, g2.ex _ _ ha, cl, na, hl, fit.nx _ _ _ _ hq (g2.put ha rfl)⟩
theorem s_aug {i : Nat} {te : TE} {ti : TIp} {x : V} (hv : σ[i]? = some (some x)) (h : W c (te σ) kn n fun y kn1 n1 => W c (ti x y) kn1 n1 fun z kn2 n2 => D.nx (σ.set i (some z)) kn2 n2) : WS c (tAug i te ti) D σ kn n :=
  fun H g D' fit => ⟨x, hv, h H g _ fun y kn1 n1 H1 h1 g1 => h1 H1 g1 _ fun z kn2 n2 H2 h2 g2 => fit.nx _ _ _ _ h2 g2⟩
theorem room_u128 {k : Nat} {A : Around} (r : Room k A) : A.units + 128 < cLine := by have := r.un; omega
/-- an error class whose __init__ sets one field -/
def spX1 (K : PySem.W.Frag) (f : Str) : Sp := fun vs H Q _ => ∃ (a C : Addr) (y : V), vs = [.ref a, y] ∧ OexC K C ∧ PySem.W.findIn K (.ref C) f = some none ∧ H a = some (exo a C none) ∧
  ∀ dx, H dx = none → dx ≠ a → Q .non (upd (upd H dx (exd dx [(f, y)])) a (exo a C (some dx)))
theorem x1_end {H : Hp} {a d : Addr} {o1 o2 o3 o4 : HO} (ha : H a = none) (hd : d ≠ a) : upd (del (upd (upd (upd H a o1) d o2) a o3) a) d o4 = upd H d o4 := by
  funext x
  by_cases h1 : x = d
  · rw [h1, upd_same, upd_same]
  · rw [upd_ne h1, upd_ne h1]
    by_cases h2 : x = a
    · rw [h2, del_same, ha]
    · rw [del_ne h2, upd_ne h2, upd_ne h1, upd_ne h2]
theorem s_raise1 {C : Addr} {f : Str} {ta : TA} (oc : OexC K C) (hf : PySem.W.findIn K (.ref C) f = some none) (hE : ErrOk c EA E)
    (h : W c (ta σ) kn n fun vs kn1 n1 => ∃ y, vs = [y] ∧ ∀ d, kn1 d = none → EA (.ref C) (some d) (upd kn1 d (.xd [(f, y)])) n1) :
    WS c (fun _ σ H => tMkO C (spX1 K f) [] ta σ H fun cls d H' => E cls d H') D σ kn n :=
  fun H g D' fit => h H g _ fun vs kn1 n1 H1 ⟨y, e, h1⟩ g1 => by
    subst e
    refine ⟨Nat.le_add_left 1 999, fun a ha => ⟨a, C, y, rfl, oc, hf, upd_same, fun d hd hda => ⟨rfl, d, [(f, y)], upd_same, ?_, ?_, ?_⟩⟩⟩
    · rw [upd_ne hda, upd_same]
    · rw [upd_ne hda] at hd
      exact hd
    · rw [upd_ne hda] at hd
      rw [x1_end ha hda]
      exact hE _ _ _ _ _ (h1 d (g1.free hd)) (g1.new hd)
end
end AW

/-! C(.., k = v) at the abstract layer. -/
namespace L2
open PySem PySem.Spec PyProof.Rows
/-- o.m(k = v, ..), no positional argument -/
def tMethKW (C : Addr) (m : Str) (b : Nat) (sp : Sp) (gV : List V → List V → List V) (E : XK) (ta : TE) (tk : TA) : TE := fun σ H Q => ta σ H fun x H1 => ∃ a dx fs, x = .ref a ∧ H1 a = some (.ins C dx fs) ∧ fs.lookup m = none ∧ tk σ H1 fun zs H2 => zs.length = b ∧ sp (gV [x] zs) H2 Q E
section
variable {X : Cx} {CX : CXT} {k : Nat} {f C : Addr} {fd : FuncData} {ps ks : List Str} {sp : Sp} {E : XK} {m : Str} {apos pos : Pos} {o : Expr} {kws : List Keyword} {ta : TE} {tk : TA} {g : List Value → List Value → List Value} {gV : List V → List V → List V}
theorem pe_methKW {pl : Sem Bool} (he : PE X o ta) (c : Cls X.K C) (hm : Meth X.K C m f) (F : FnOk X.prog X.w X.K X.mg X.base CX k f fd ps sp) (hr : Room k X.A) (hb : KBn X.K fd ps 1 ks g gV) (hx : Passes CX X E) (hkw : PK X kws tk)
    (hall : (backToKw pos (keywordEach kws X.env)).all (·.1.isSome) = true := by rfl) (hks : (backToKw pos (keywordEach kws X.env)).filterMap (·.1) = ks := by rfl)
    (hpl : ((backTo pos (starEach [] X.env)).any (·.1) || (backToKw pos (keywordEach kws X.env)).any (·.1.isNone)) = false := by rfl)
    (ht : eval (.Call (.Attribute o m apos) [] kws pos) X.env = (do
      let ov ← eval o X.env
      standAt apos.atName
      let (fn, first) ← holding [ov] (getMethod ov m pl)
      callWith pos fn first (backTo pos (starEach [] X.env)) (backToKw pos (keywordEach kws X.env))) := by rfl) :
    PE X (.Call (.Attribute o m apos) [] kws pos) (tMethKW C m ks.length sp gV E ta tk) := by
  refine ⟨fun pins s σ H Q I h => ?_⟩
  refine PySem.W.methodCall_KW (pl := pl) (thn (he.run pins s σ H _ I h) fun u s1 ⟨x, H1, I1, rx, a, dx, fs, ex, ea, l, q⟩ => ?_) ht
  subst ex
  cases (show u = Value.ref a from rx)
  refine getmeth_ok I1 ea c hm l ?_
  refine PySem.W.callWith_KW0 (first := [.ref a]) (h₀ := X.base) I1.ok.mod.kin hm.kp hall ?_ hpl
  refine thn (hkw.run pos pins s1 σ H1 _ I1 q) fun ws s2 ⟨zs, H2, I2, rz, lz, q2⟩ => ⟨I2.kIn, ?_⟩
  rw [hks]
  have r1 : Vals [V.ref a] [Value.ref a] := .cons rfl .nil
  have lw : ws.length = ks.length := rz.length.symm.trans lz
  refine wpAny_call (codeAny_mono (F.run X.A X.stack s2 H2 ⟨[.ref a], ks.zip ws⟩ (g [.ref a] ws) (gV [.ref a] zs) Q E hr I2.env0 (hb.to s2 [.ref a] ws I2.kIn rfl lw) (hb.rel r1 rz) q2) fun r s' hq => ?_)
  cases r with
  | error e => exact hx pins σ H2 s2 e s' I2 hq
  | ok fl =>
    cases fl with
    | ret u => exact I2.after hq
    | next => exact False.elim hq
    | brk => exact False.elim hq
    | cont => exact False.elim hq
end
end L2
namespace AW
open PySem PySem.Spec PyProof.Rows L2
section
variable {c : Cw} {kn : Hp} {n : Nat} {σ : L2.St} {Q : V → Hp → Nat → Prop} {E : XK} {EA : EAK} {B : List V → Hp → AK → AXK → Prop} {C : Addr} {a b : Nat} {gV : List V → List V → List V} {t tk : TA}
theorem w_makeN (hm : MonoX B) (hE : ErrOk c EA E) (h : W c (t σ) kn n fun vs kn1 n1 => W c (tk σ) kn1 n1 fun zs kn2 n2 => vs.length = a ∧ zs.length = b ∧ ∀ x dx, kn2 x = none → kn2 dx = none → dx ≠ x →
    B (gV (.ref x :: vs) zs) (upd (upd kn2 dx (.own x)) x (.ins C dx [])) (fun v k => v = .non ∧ Q (.ref x) k n2) (fun cls d k => EA cls d k n2)) : W c (tMakeN C a b (liftX B) gV E t tk σ) kn n Q :=
  fun H g Q' q => h H g _ fun vs kn1 n1 H1 h1 g1 => h1 H1 g1 _ fun zs kn2 n2 H2 ⟨l1, l2, h2⟩ g2 => ⟨l1, l2, fun x dx hx hdx hne => by
    have hx2 : upd H2 dx (.own x) x = none := by rw [upd_ne (Ne.symm hne)]; exact hx
    exact sp_call (c := c) (n := n2) (Q := fun v k m => v = .non ∧ Q (.ref x) k m) hm hE (h2 x dx (g2.free hx) (g2.free hdx) hne) _ ((g2.new hdx).new hx2) (fun v H3 => v = .non ∧ Q' (.ref x) H3) fun v k m H3 hq g3 => ⟨hq.1, q _ _ _ _ hq.2 g3⟩⟩
theorem w_makeK (hm : MonoX B) (hE : ErrOk c EA E) (h : W c (t σ) kn n fun vs kn1 n1 => W c (tk σ) kn1 n1 fun zs kn2 n2 => vs.length = a ∧ zs.length = b ∧ ∀ x dx, kn2 x = none → kn2 dx = none → dx ≠ x →
    B (gV (.ref x :: vs) zs) (upd (upd kn2 dx (.own x)) x (.ins C dx [])) (fun v k => v = .non ∧ Q (.ref x) k n2) (fun cls d k => EA cls d k n2)) : W c (tMakeK C a b (liftX B) gV E t tk σ) kn n Q :=
  fun H g Q' q => h H g _ fun vs kn1 n1 H1 h1 g1 => h1 H1 g1 _ fun zs kn2 n2 H2 ⟨l1, l2, h2⟩ g2 => ⟨l1, l2, fun x dx hx hdx hne => by
    have hx2 : upd H2 dx (.own x) x = none := by rw [upd_ne (Ne.symm hne)]; exact hx
    exact sp_call (c := c) (n := n2) (Q := fun v k m => v = .non ∧ Q (.ref x) k m) hm hE (h2 x dx (g2.free hx) (g2.free hdx) hne) _ ((g2.new hdx).new hx2) (fun v H3 => v = .non ∧ Q' (.ref x) H3) fun v k m H3 hq g3 => ⟨hq.1, q _ _ _ _ hq.2 g3⟩⟩
theorem w_methKW {m : Str} {ta : TE} (hm : MonoX B) (hE : ErrOk c EA E) (h : W c (ta σ) kn n fun x kn1 n1 => ∃ a dx fs, x = .ref a ∧ kn1 a = some (.ins C dx fs) ∧ fs.lookup m = none ∧
    W c (tk σ) kn1 n1 fun zs kn2 n2 => zs.length = b ∧ B (gV [.ref a] zs) kn2 (fun v k => Q v k n2) (fun cls d k => EA cls d k n2)) : W c (tMethKW C m b (liftX B) gV E ta tk σ) kn n Q :=
  fun H g Q' q => h H g _ fun x kn1 n1 H1 h1 g1 => by
    obtain ⟨a, dx, fs, rfl, ha, hl, h2⟩ := h1
    exact ⟨a, dx, fs, rfl, g1.ex _ _ ha, hl, h2 H1 g1 _ fun zs kn2 n2 H2 ⟨lz, h3⟩ g2 => ⟨lz, sp_call hm hE h3 H2 g2 Q' q⟩⟩
end
end AW

/-! x in o, x not in o: o of an own class with __contains__; truth of an own class by __bool__ or __len__ is not here. -/
namespace L2
open PySem PySem.Spec PyProof.Rows
section
variable {X : Cx} {CX : CXT} {k : Nat} {f C : Addr} {fd : FuncData} {ps : List Str} {sp : Sp}
def rInO (C : Addr) (sp : Sp) (neg : Bool) : R2 := fun x y H Q => ∃ a dx fs, y = .ref a ∧ H a = some (.ins C dx fs) ∧ sp [.ref a, x] H (fun v H' => ∃ b, v = .bl b ∧ Q (.bl (if neg then !b else b)) H') (fun _ _ _ => False)
theorem op_inO (M : SpM X.K C f "__contains__") (F : FnOk X.prog X.w X.K X.mg X.base CX k f fd ps sp) (hr : Room k X.A) (hb : Binds X.K fd ps []) (hx : Passes CX X (fun _ _ _ => False)) : OpR X (compareOp .In) (rInO C sp false) := by
  intro pins s σ H x y v u Q I rx ry h
  obtain ⟨a, dx, fs, rfl, ha, hq⟩ := h
  cases (show u = Value.ref a from ry)
  obtain ⟨_, J, _⟩ := ins_get I.hok ha
  obtain ⟨_, J, _⟩ := J.look
  obtain ⟨_, hF⟩ := I.fr
  refine PySem.W.in_K hF I.ok.mod.kin J M.hs M.hf (wpAny_mono (callA (vs := [.ref a, x]) F hr rfl hb hx I (.cons rfl (.cons rx .nil)) hq) (fun z s' hz => ?_) fun _ _ z => z)
  obtain ⟨v', H', I', rv, b, e, q⟩ := hz
  subst e
  cases (show z = Value.bool b from rv)
  exact wpAny_truthy_bool ⟨.bl b, H', I', rfl, q⟩
theorem op_notInO (M : SpM X.K C f "__contains__") (F : FnOk X.prog X.w X.K X.mg X.base CX k f fd ps sp) (hr : Room k X.A) (hb : Binds X.K fd ps []) (hx : Passes CX X (fun _ _ _ => False)) : OpR X (compareOp .NotIn) (rInO C sp true) := by
  intro pins s σ H x y v u Q I rx ry h
  obtain ⟨a, dx, fs, rfl, ha, hq⟩ := h
  cases (show u = Value.ref a from ry)
  obtain ⟨_, J, _⟩ := ins_get I.hok ha
  obtain ⟨_, J, _⟩ := J.look
  obtain ⟨_, hF⟩ := I.fr
  refine PySem.W.notIn_K hF I.ok.mod.kin J M.hs M.hf (wpAny_mono (callA (vs := [.ref a, x]) F hr rfl hb hx I (.cons rfl (.cons rx .nil)) hq) (fun z s' hz => ?_) fun _ _ z => z)
  obtain ⟨v', H', I', rv, b, e, q⟩ := hz
  subst e
  cases (show z = Value.bool b from rv)
  exact wpAny_truthy_bool ⟨.bl (!b), H', I', rfl, q⟩
end
end L2
namespace AW
open PySem PySem.Spec PyProof.Rows L2
section
variable {c : Cw} {kn : Hp} {n : Nat} {Q : V → Hp → Nat → Prop} {B : List V → Hp → AK → AXK → Prop}
theorem r_inO {C a dx : Addr} {fs : List (Str × V)} {x : V} {neg : Bool} (hm : MonoX B) (ha : kn a = some (.ins C dx fs)) (h : B [.ref a, x] kn (fun v k => ∃ b, v = .bl b ∧ Q (.bl (if neg then !b else b)) k n) (fun _ _ _ => False)) : W c (rInO C (liftX B) neg x (.ref a)) kn n Q :=
  fun H g Q' q => ⟨a, dx, fs, rfl, g.ex _ _ ha, sp_call (EA := fun _ _ _ _ => False) (Q := fun v k n => ∃ b, v = .bl b ∧ Q (.bl (if neg then !b else b)) k n) hm err_no h H g _ fun v kn1 n1 H1 ⟨b, e, hq⟩ g1 => ⟨b, e, q _ _ _ _ hq g1⟩⟩
end
end AW

/-! The pen: what it draws is not told, but its bounds. -/
namespace AW
open PySem PySem.Spec PyProof.Rows L2 LamX
/-- the pen: a list of the cells' list, the spot, the number that is left over -/
structure PenAt (H : Hp) (p a : Addr) (ns : List Int) (n : Nat) : Prop where
  pen : ∃ i g : Int, H p = some (.lst [.ref a, .int i, .int g]) ∧ 0 ≤ i ∧ i ≤ n ∧ 0 ≤ g
  cells : H a = some (.lst (ns.map V.int))
  pa : p ≠ a
theorem PenAt.mono {H : Hp} {p a : Addr} {ns : List Int} {n m : Nat} (h : PenAt H p a ns n) (e : n ≤ m) : PenAt H p a ns m := by
  obtain ⟨⟨i, g, h1, h2, h3, h4⟩, h5, h6⟩ := h
  exact ⟨⟨i, g, h1, h2, by omega, h4⟩, h5, h6⟩
/-- _law_draw -/
def spDraw : Sp := fun vs H Q _ => ∃ (p a : Addr) (ns : List Int) (n : Nat) (many : Int), vs = [.ref p, .int many] ∧ PenAt H p a ns n ∧ n < 1000000 ∧ 0 < many ∧ many < 1180591620717411303424 ∧
  ∀ (k : Int) (H' : Hp), 0 ≤ k → k < many → PenAt H' p a ns (n + 1) → (∀ x o, x ≠ p → H x = some o → H' x = some o) → Q (.int k) H'
theorem nil_eqv (ns : List Int) : PyData.eqv (.list (ns.map PyData.int)) (.list []) = ns.isEmpty := by
  cases ns <;> simp [PyData.eqv, PyData.eqvAll]
theorem dp_ints {K : PySem.W.Frag} {H : Hp} : ∀ ns : List Int, DpAll K H (ns.map V.int) (ns.map PyData.int)
  | [] => .nil
  | n :: r => .cons (.int n) (dp_ints r)
theorem mul_bd {a b A B : Int} (h1 : 0 ≤ a) (h2 : a ≤ A) (h3 : 0 ≤ b) (h4 : b ≤ B) : 0 ≤ a * b ∧ a * b ≤ A * B :=
  ⟨Int.mul_nonneg h1 h3, Int.mul_le_mul h2 h4 h3 (Int.le_trans h1 h2)⟩
theorem at_mod (ns : List Int) (i : Int) (h : 0 < ns.length) : ∃ z, atI (ns.map V.int) (i % ((ns.map V.int).length : Int)) = some (.int z) := by
  rw [List.length_map]
  have h1 : 0 ≤ i % (ns.length : Int) := Int.emod_nonneg _ (by omega)
  have h2 : i % (ns.length : Int) < ns.length := Int.emod_lt_of_pos _ (by omega)
  obtain ⟨j, hj⟩ : ∃ j : Nat, i % (ns.length : Int) = j := ⟨(i % (ns.length : Int)).toNat, by omega⟩
  have hj2 : j < ns.length := by omega
  rw [hj]
  refine ⟨ns[j], atI_nat ?_⟩
  rw [List.getElem?_map, List.getElem?_eq_getElem hj2]
  rfl
theorem lay_ints : ∀ ns : List Int, PyData.canLayAll0 (ns.map PyData.int) = true
  | [] => by simp [PyData.canLayAll0]
  | n :: r => by simp only [List.map_cons, PyData.canLayAll0, PyData.canLay0, Bool.true_and]; exact lay_ints r
theorem deep_ints : ∀ ns : List Int, PyData.depthAll (ns.map PyData.int) = 0
  | [] => by simp [PyData.depthAll]
  | n :: r => by simp only [List.map_cons, PyData.depthAll, PyData.depth]; rw [deep_ints r]; rfl
theorem shaped_ints (ns : List Int) : SeqAt.shaped (.list (ns.map PyData.int)) = true := by
  unfold SeqAt.shaped
  rw [show PyData.canLay0 (.list (ns.map PyData.int)) = true by simp only [PyData.canLay0]; exact lay_ints ns, show PyData.depth (.list (ns.map PyData.int)) = 1 by simp only [PyData.depth]; rw [deep_ints ns]]
  rfl
theorem weigh_int {i : Int} (h : i.natAbs < 10 ^ 12) : PyData.weight (.int i) ≤ 41 := by
  simp only [PyData.weight]
  split
  · omega
  · rename_i z
    have z0 : i.natAbs ≠ 0 := fun e => z (by rw [beq_iff_eq]; omega)
    have a : i.natAbs < 2 ^ 40 := by omega
    have := (Nat.log2_lt z0).mpr a
    omega
theorem weigh_ints : ∀ ns : List Int, (∀ n ∈ ns, n.natAbs < 10 ^ 12) → PyData.weightAll (ns.map PyData.int) ≤ 42 * ns.length
  | [], _ => by simp [PyData.weightAll]
  | n :: r, h => by
    have h1 := weigh_int (h n List.mem_cons_self)
    have h2 := weigh_ints r fun m hm => h m (List.mem_cons_of_mem _ hm)
    simp only [List.map_cons, PyData.weightAll, List.length_cons]
    omega
theorem lay0_ints {ns : List Int} (h : ∀ n ∈ ns, n.natAbs < 10 ^ 12) (l : ns.length ≤ 1000) : PyData.layable0 (.list (ns.map PyData.int)) = true := by
  have h1 := weigh_ints ns h
  have h2 : PyData.weight (.list (ns.map PyData.int)) ≤ 2 ^ 20 := by simp only [PyData.weight]; omega
  unfold PyData.layable0
  rw [show PyData.canLay0 (.list (ns.map PyData.int)) = true by simp only [PyData.canLay0]; exact lay_ints ns, show PyData.depth (.list (ns.map PyData.int)) = 1 by simp only [PyData.depth]; rw [deep_ints ns], decide_eq_true h2]
  rfl
theorem show_ints : ∀ ns : List Int, (∀ n ∈ ns, n.natAbs < 10 ^ 12) → PyData.showableAll (ns.map PyData.int) = true
  | [], _ => by simp [PyData.showableAll]
  | n :: r, h => by
    have h0 : n.natAbs.log2 < 1920 := by
      have := h n List.mem_cons_self
      by_cases z : n.natAbs = 0
      · rw [z]; decide
      · exact Nat.lt_trans ((Nat.log2_lt z).mpr (show n.natAbs < 2 ^ 40 by omega)) (by decide)
    simp only [List.map_cons, PyData.showableAll, PyData.showable, decide_eq_true h0, Bool.true_and]
    exact show_ints r fun m hm => h m (List.mem_cons_of_mem _ hm)
theorem nodict_ints : ∀ ns : List Int, PyData.hasDictAll (ns.map PyData.int) = false
  | [] => by simp [PyData.hasDictAll]
  | n :: r => by simp only [List.map_cons, PyData.hasDictAll, PyData.hasDict, Bool.false_or]; exact nodict_ints r
theorem r_reprInts {K : PySem.W.Frag} {c : Cw} {kn : Hp} {n : Nat} {Q : V → Hp → Nat → Prop} {a : Addr} {vs : List V} (ns : List Int) (e : vs = ns.map V.int) (h : kn a = some (.lst vs)) (hb : ∀ n ∈ ns, n.natAbs < 10 ^ 12) (hl : ns.length ≤ 1000) (q : Q (.str (PyData.shown (.list (ns.map PyData.int)))) kn n) : W c (rRepr K [.ref a]) kn n Q := by
  subst e
  refine r_repr (.lst (sql h) (dp_ints ns)) ?_ ?_ ?_ ?_ q
  · simp only [PyData.showable]; exact show_ints ns hb
  · simp only [PyData.hasDict]; exact nodict_ints ns
  · simp only [PyData.depth]; rw [deep_ints ns]; decide
  · exact PyData.shown_fits_of_layable0 (B := 13) (by decide) (by decide) (lay0_ints hb hl) (by simp only [PyData.intsShort]; exact PyData.intsShortAll_ints ns hb)
theorem r_cat {c : Cw} {kn : Hp} {n : Nat} {Q : V → Hp → Nat → Prop} {l b : Addr} {xs zs : List V} (h1 : kn l = some (.lst xs)) (h2 : kn b = some (.lst zs)) (hz : xs.length + zs.length ≤ 1000) (q : ∀ p, kn p = none → Q (.ref p) (upd kn p (.lst (xs ++ zs))) n) : W c (rCat (.ref l) (.ref b)) kn n Q :=
  fun H g _ k => ⟨l, b, xs, zs, rfl, rfl, g.ex _ _ h1, g.ex _ _ h2, Nat.le_trans hz (by rw [sizeLine_eq]; decide), fun p hp => k _ _ _ _ (q p (g.free hp)) (g.new hp)⟩
theorem w_append {K : PySem.W.Frag} {c : Cw} {kn : Hp} {n i : Nat} {σ : L2.St} {Q : V → Hp → Nat → Prop} {l : Addr} {xs0 : List V} {t : TA} (hv : σ[i]? = some (some (.ref l))) (h0 : kn l = some (.lst xs0))
    (h : W c (t σ) kn n fun vs kn1 n1 => ∃ y xs, vs = [y] ∧ kn1 l = some (.lst xs) ∧ xs.length ≤ 1000 ∧ Q .non (upd kn1 l (.lst (xs ++ [y]))) n1) : W c (tBM K "list" rAppend (tVar i) t σ) kn n Q :=
  fun H g Q' q => ⟨.ref l, hv, .inl ⟨rfl, _, sql (g.ex _ _ h0)⟩, h H g _ fun vs kn1 n1 H1 ⟨y, xs, e, e1, hl, hq⟩ g1 => ⟨l, xs, y, rfl, e, g1.ex _ _ e1, Nat.lt_of_le_of_lt hl (by rw [sizeLine_eq]; decide), q _ _ _ _ hq (g1.put e1 rfl)⟩⟩
theorem Good.grow {c : Cw} {kn H H' : Hp} {n : Nat} {q : Addr} {o : HO} (g : Good c kn n H) (e : Ext H H') (h0 : H q = none) (h1 : H' q = some o) (ht : isTbl o = false := by rfl) : Good c (upd kn q o) n H' := by
  refine ⟨fun x u hx => ?_, c.step n kn H H' g.inv g.res fun x u hx _ => e x u hx, fun x r => ?_, nt_upd g.nt ht⟩
  · by_cases z : x = q
    · rw [z, upd_same] at hx; cases hx; rw [z]; exact h1
    · rw [upd_ne z] at hx; exact e x u (g.ex x u hx)
  · rw [upd_ne (fun z => c.live n H x g.inv r (by rw [z]; exact h0))]
    exact g.res x r
/-- the pen and its cells alone are known -/
def penKn (H : Hp) (p a : Addr) : Hp := fun x => if x = p ∨ x = a then H x else none
theorem TabS.keep {H H' : Hp} {P : Addr} {q : Str} (e : ∀ b o, H b = some o → isMut o = false → H' b = some o) (h : TabS H P q) : TabS H' P q := by
  obtain ⟨ps, h1, h2, h3⟩ := h
  refine ⟨ps, e _ _ h1 rfl, h2, fun pos cv hc => ?_⟩
  obtain ⟨c, e1, e2⟩ := h3 pos cv hc
  exact ⟨c, e1, e _ _ e2 rfl⟩
theorem Tabs.keep {T : List (Addr × Str)} {H H' : Hp} (e : ∀ b o, H b = some o → isMut o = false → H' b = some o) (h : Tabs T H) : Tabs T H' := fun p hp => TabS.keep e (h p hp)
def penC (p a : Addr) (ns : List Int) (T : List (Addr × Str)) : Cw where
  inv n H := PenAt H p a ns n ∧ Tabs T H
  res x := x = p ∨ x = a ∨ ∃ t ∈ T, x = t.1
  live n H x h r := by
    obtain ⟨⟨⟨i, g, h1, _⟩, h2, _⟩, hT⟩ := h
    rcases r with rfl | rfl | ⟨t, ht, rfl⟩
    · rw [h1]; exact fun z => nomatch z
    · rw [h2]; exact fun z => nomatch z
    · obtain ⟨ps, h3, _⟩ := hT t ht
      rw [h3]; exact fun z => nomatch z
  step n kn H H' h r k := by
    obtain ⟨⟨⟨i, g, h1, h1'⟩, h2, h3⟩, hT⟩ := h
    exact ⟨⟨⟨i, g, k _ _ h1 (.inl (r _ (.inl rfl))), h1'⟩, k _ _ h2 (.inl (r _ (.inr (.inl rfl)))), h3⟩, Tabs.keep (fun b o e m => k b o e (.inr m)) hT⟩
  up n m H h l := ⟨h.1.mono l, h.2⟩
section
variable {p a : Addr} {ns : List Int} {T : List (Addr × Str)} {kn : Hp} {n : Nat} {σ : L2.St} {Q : V → Hp → Nat → Prop} {E : XK} {EA : EAK} {B : List V → Hp → AK → AXK → Prop} {t : TA}
theorem w_draw (h : W (penC p a ns T) (t σ) kn n fun vs kn1 n1 => ∃ many, vs = [.ref p, .int many] ∧ n1 < 1000000 ∧ 0 < many ∧ many < 1180591620717411303424 ∧ ∀ k : Int, 0 ≤ k → k < many → Q (.int k) kn1 (n1 + 1)) : W (penC p a ns T) (tCall spDraw [] E t σ) kn n Q :=
  fun H g Q' q => h H g _ fun vs kn1 n1 H1 h1 g1 => by
    obtain ⟨many, rfl, b1, b2, b3, h2⟩ := h1
    refine ⟨p, a, ns, n1, many, rfl, g1.inv.1, b1, b2, b3, fun k H' k0 k1 hp hk => q _ _ _ _ (h2 k k0 k1) ⟨fun x o e => hk x o (fun z => ?_) (g1.ex x o e), ⟨hp, Tabs.keep (fun b o e m => hk b o (fun z => ?_) e) g1.inv.2⟩, g1.res, g1.nt⟩⟩
    · have := g1.res x (.inl z)
      rw [e] at this
      cases this
    · obtain ⟨i, g, hP, _⟩ := g1.inv.1.pen
      rw [z, hP] at e
      cases e
      cases m
/-- a promise of a def that draws m times at most -/
def liftP (T : List (Addr × Str)) (m : Nat) (B : List V → Hp → AK → AXK → Prop) : Sp := fun vs H Q E => ∃ p a ns n kn ws, vs = .ref p :: ws ∧ Good (penC p a ns T) kn n H ∧ n + m < 1000000 ∧
  B ws kn (fun v k => ∀ H', Good (penC p a ns T) k (n + m) H' → Q v H') (fun cls d k => ∀ H', Good (penC p a ns T) k (n + m) H' → E cls d H')
theorem w_callP {m : Nat} (hm : MonoX B) (hE : ErrOk (penC p a ns T) EA E) (h : W (penC p a ns T) (t σ) kn n fun vs kn1 n1 => ∃ ws, vs = .ref p :: ws ∧ n1 + m < 1000000 ∧ B ws kn1 (fun v k => Q v k (n1 + m)) (fun cls d k => EA cls d k (n1 + m))) : W (penC p a ns T) (tCall (liftP T m B) [] E t σ) kn n Q :=
  fun H g Q' q => h H g _ fun vs kn1 n1 H1 h1 g1 => by
    obtain ⟨ws, rfl, hb, h2⟩ := h1
    refine ⟨p, a, ns, n1, kn1, ws, by simp, g1, hb, hm _ _ _ _ _ _ (fun v k hq H' g' => q _ _ _ _ hq g') (fun cls d k hq H' g' => hE _ _ _ _ _ hq g') h2⟩
theorem takes_len {X : Cx} {W : WX} {m : Nat} (tk : L2.Takes X W) (h : X.N.length = m := by rfl) : L2.Takes X (fun cls d σ H => σ.length = m → W cls d σ H) :=
  fun u s' ⟨a, B, sI, pins, σ, H, cls, d, e, I, nb, up, sky, na, os, ag, w⟩ => tk u s' ⟨a, B, sI, pins, σ, H, cls, d, e, I, nb, up, sky, na, os, ag, w (I.len.trans h)⟩
/-- the abstract meaning of def heard(ask): [what was found], or (.., the error's field) -/
def EAh (B : Addr) (word : Str) (Q : V → Hp → Nat → Prop) : EAK := fun cls d kn n => cls = .ref B ∧ ∃ dd fs y, d = some dd ∧ kn dd = some (.xd fs) ∧ fs.lookup ("part" : Str) = some y ∧
  ∀ q kn2, Ext kn kn2 → kn q = none → kn2 q = some (.tup [.str word, y]) → Q (.ref q) kn2 n
def TTh (B : Addr) (word : Str) : (XK → Hp → VK → Prop) → Hp → VK → Prop := fun tl H Q => ∃ (c : Cw) (kn : Hp) (n : Nat) (QA : V → Hp → Nat → Prop), Good c kn n H ∧ (∀ v kn' n' H', QA v kn' n' → Good c kn' n' H' → Q v H') ∧
  ∀ E, ErrOk c (EAh B word QA) E → W c (fun H' Q' => tl E H' Q') kn n fun v kn1 n1 => ∀ q, kn1 q = none → QA (.ref q) (upd kn1 q (.lst [v])) n1
theorem good_lam {H H1 : Hp} (g : Good (penC p a ns T) kn n H) (e : ExtN H H1) (hT : Tabs T H1) : Good (penC p a ns T) kn n H1 := by
  obtain ⟨⟨⟨i, k, h1, h1'⟩, h2, h3⟩, _⟩ := g.inv
  refine ⟨fun x o hx => e x o (g.ex x o hx) (fun ps z => ?_), ⟨⟨⟨i, k, e _ _ h1 (fun _ z => nomatch z), h1'⟩, e _ _ h2 (fun _ z => nomatch z), h3⟩, hT⟩, g.res, g.nt⟩
  have := g.nt x o hx
  rw [z] at this
  cases this
theorem w_lam {B : Addr} {word : Str} {tt : XK → TE}
    (h : ∀ E, ErrOk (penC p a ns T) (EAh B word Q) E → W (penC p a ns T) (tt E σ) kn n fun v kn1 n1 => ∀ q, kn1 q = none → Q (.ref q) (upd kn1 q (.lst [v])) n1) : W (penC p a ns T) (tLam T (TTh B word) tt σ) kn n Q :=
  fun H g Q' q => ⟨g.inv.2, fun H1 e hT => ⟨penC p a ns T, kn, n, Q, good_lam g e hT, q, h⟩⟩
theorem fin_at {c : Cw} {kn : Hp} {n m : Nat} {P : Hp → Prop} (le : n ≤ m) (f : ∀ H', Good c kn m H' → P H') : ∀ H', Good c kn n H' → P H' := fun H' g => f H' (g.up le)
end
end AW

/-! Built-in types as right operands of own operators. -/
namespace L2
open PySem PySem.Spec PyProof.Rows
section
variable {K : PySem.W.Frag} {C : Addr}
theorem ot_int_shr (h : PySem.W.subIn K (.type "int") (.ref C) = some false) : OpT K .RShift C (.type "int") := .ty (r := true) (o := some (.builtin "int.__rrshift__")) (by first | rfl | kernel_rfl) h (by rw [typeLookup_type, builtinLookup_eq_fast]; kernel_rfl)
theorem ot_int_shl (h : PySem.W.subIn K (.type "int") (.ref C) = some false) : OpT K .LShift C (.type "int") := .ty (r := true) (o := some (.builtin "int.__rlshift__")) (by first | rfl | kernel_rfl) h (by rw [typeLookup_type, builtinLookup_eq_fast]; kernel_rfl)
theorem ot_int_div (h : PySem.W.subIn K (.type "int") (.ref C) = some false) : OpT K .FloorDiv C (.type "int") := .ty (r := true) (o := some (.builtin "int.__rfloordiv__")) (by first | rfl | kernel_rfl) h (by rw [typeLookup_type, builtinLookup_eq_fast]; kernel_rfl)
theorem ot_bool_div (h : PySem.W.subIn K (.type "bool") (.ref C) = some false) : OpT K .FloorDiv C (.type "bool") := .ty (r := true) (o := some (.builtin "int.__rfloordiv__")) (by first | rfl | kernel_rfl) h (by rw [typeLookup_type, builtinLookup_eq_fast]; kernel_rfl)
theorem ot_none_div (h : PySem.W.subIn K (.type "NoneType") (.ref C) = some false) : OpT K .FloorDiv C (.type "NoneType") := .ty (r := false) (o := none) (by first | rfl | kernel_rfl) h (by rw [typeLookup_type, builtinLookup_eq_fast]; kernel_rfl)
theorem ot_str_div (h : PySem.W.subIn K (.type "str") (.ref C) = some false) : OpT K .FloorDiv C (.type "str") := .ty (r := false) (o := none) (by first | rfl | kernel_rfl) h (by rw [typeLookup_type, builtinLookup_eq_fast]; kernel_rfl)
theorem ot_tuple_div (h : PySem.W.subIn K (.type "tuple") (.ref C) = some false) : OpT K .FloorDiv C (.type "tuple") := .ty (r := false) (o := none) (by first | rfl | kernel_rfl) h (by rw [typeLookup_type, builtinLookup_eq_fast]; kernel_rfl)
theorem ot_list_div (h : PySem.W.subIn K (.type "list") (.ref C) = some false) : OpT K .FloorDiv C (.type "list") := .ty (r := false) (o := none) (by first | rfl | kernel_rfl) h (by rw [typeLookup_type, builtinLookup_eq_fast]; kernel_rfl)
theorem ot_dict_div (h : PySem.W.subIn K (.type "dict") (.ref C) = some false) : OpT K .FloorDiv C (.type "dict") := .ty (r := false) (o := none) (by first | rfl | kernel_rfl) h (by rw [typeLookup_type, builtinLookup_eq_fast]; kernel_rfl)
end
end L2

/-! iter(t) of a tuple; list(o), o of an own class whose __iter__ gives that, with a __len__ of its own. -/
namespace L2
open PySem PySem.Spec PyProof.Rows
def TitO (t it : Addr) : HO := .ext fun h => h.IsTupleIter it t 0
theorem titO_ok {P : Program} {w : World} {H : Hp} {h : Heap} {t it : Addr} (e : h.IsTupleIter it t 0) : ObjOk P w H h it (TitO t it) := ⟨e, (let ⟨o, ho, _⟩ := e; ⟨o, ho⟩), fun h1 h2 q k => let ⟨o, ho, r⟩ := q; ⟨o, k _ ho, r⟩⟩
def rIterT (K : PySem.W.Frag) : List V → Hp → VK → Prop := fun xs H Q => ∃ (t : Addr) (zs : List V), xs = [.ref t] ∧ SqT K H t zs ∧ ∀ it, H it = none → Q (.ref it) (upd H it (TitO t it))
section
variable {X : Cx}
theorem c_iterT : CallR X (.builtin "iter") (rIterT X.K) := by
  intro pins s σ H xs us Q I r h
  obtain ⟨t, zs, rfl, hq, q⟩ := h
  obtain ⟨u, rfl, rx⟩ := vals1 r
  cases (show u = Value.ref t from rx)
  obtain ⟨its, rv, pl, hz⟩ := I.tuple hq
  refine Calls.call_function_entry (by decide +kernel) (by decide +kernel) PySem.W.kdk_entry_iter (PySem.W.kdk_args_iter _) ?_
  unfold Builtin.«iter»
  refine wpAny_bind (m := someArgs "iter" 1 2 _) (wpAny_of_eq (a := [Value.ref t]) (by first | rfl | kernel_rfl!) ?_)
  show wpAny _ _ (pyIter (.ref t) >>= _) _ _ _
  refine wpAny_bind (wpAny_pyIter_tuple pl ?_)
  refine wpAny_pure ⟨_, rfl, ?_⟩
  exact ⟨.ref s.heap.objs.size, _, I.laid (t' := s.toks) (fun b u e => Heap.get?_push_of_some _ e) (Nat.le_refl _) (titO_ok ⟨_, Heap.get?_push_size _ rfl, rfl, rfl⟩), rfl, q _ (I.hok.fresh (Nat.le_refl _))⟩
/-- the promise of such an __iter__ -/
def spIterT (C : Addr) (f : Str) : Sp := fun vs H Q _ => ∃ a dx fs t zs, vs = [.ref a] ∧ H a = some (.ins C dx fs) ∧ fs.lookup f = some (.ref t) ∧ H t = some (.tup zs) ∧ ∀ it, H it = none → Q (.ref it) (upd H it (TitO t it))
variable {kI kL n : Nat} {C fI fL S a t : Addr} {fdI fdL : FuncData} {psI psL : List Str} {spL : Sp} {f : Str} {A1 : Around} {pins : List (Addr × Obj)} {σ : St} {HA : Hp} {sA : Shared} {dx : Addr} {fs : List (Str × V)} {zs : List V} {Rs : Result → Shared → Prop}
/-- what the own __len__ answers, wherever more is known -/
def TellsLen (spL : Sp) (a : Addr) (H : Hp) (n : Nat) : Prop := ∀ H', (∀ b o, H b = some o → H' b = some o) → spL [.ref a] H' (fun v H2 => v = .int (n : Int) ∧ ∀ b o, H' b = some o → H2 b = some o) (fun _ _ _ => False)
theorem lot_hint {Q : Bool → Shared → Prop} {E : Value → Shared → Prop} {H : Hp} {s : Shared} (ML : SpM X.K C fL "__len__") (FL : FnOk X.prog X.w X.K X.mg X.base CX0 kL fL fdL psL spL) (bL : Binds X.K fdL psL []) (hr : Room (kL + 1) A1) (hfr : A1.frames = X.A.frames)
    (I : Inv X pins σ H s) (ha : H a = some (.ins C dx fs)) (hz : n ≤ 1000) (hL : TellsLen spL a H n)
    (q : ∀ k s' H', Inv X pins σ H' s' → Un (frs X.stack) [] H H' s.heap s'.heap → s'.os = s.os → (∀ b o, H b = some o → H' b = some o) → Q k s') : wpAny (model X.prog X.w) A1 (Builtin.List.listLengthHint (.ref a)) Q E s := by
  obtain ⟨mA, J, _⟩ := ins_get I.hok ha
  obtain ⟨od, J, _⟩ := J.look
  obtain ⟨m0, hF⟩ := I.fr
  unfold Builtin.List.listLengthHint
  refine wpAny_bind (wpAny_bind (J.type.here ((PySem.W.looks_findIn I.kIn ML.hs).here ?_)))
  refine PySem.W.KFB.if_not rfl ?_
  dsimp only
  refine wpAny_ite_split (fun _ => ?_) (fun z => absurd rfl z)
  refine wpAny_bind (wpAny_rule ?_)
  have e0 : Env0 X.prog X.w X.K X.mg X.base A1.in1 X.stack s H := by
    have e := I.env0
    exact ⟨hfr.trans e.frames, e.mod, e.bs, e.bsz, e.funs, e.frf, e.hok, e.bare⟩
  have r2 : Vals [V.ref a] [Value.ref a] := .cons rfl .nil
  have hsp := hL H fun _ _ z => z
  have hlen := FL.len _ _ _ _ hsp
  refine wpAny_bind (wpAny_attempt (PySem.W.len_K hF I.ok.mod.kin J ML.hs ML.hf (wpAny_call (codeAny_mono (FL.run A1.in1 X.stack s H ⟨[.ref a], []⟩ [.ref a] [.ref a] _ _ hr.in1 e0 (by
    have := bL s [.ref a] I.kIn (by simpa using hlen)
    simpa using this) r2 hsp) fun r s1 hq1 => ?_))))
  cases r with
  | error e => exact hq1.elim
  | ok fl =>
    cases fl with
    | next => exact False.elim hq1
    | brk => exact False.elim hq1
    | cont => exact False.elim hq1
    | ret u =>
      obtain ⟨v, H1, os1, bare1, un1, hok1, rv, ev, ex1⟩ := (show CE _ _ _ _ _ _ _ _ from hq1)
      subst ev
      obtain ⟨tk, rfl⟩ := (show ∃ tk, u = Value.int (n : Int) tk from rv)
      obtain ⟨h1, g1, d1, t1, o1⟩ := s1
      cases (show o1 = s.os from os1)
      have I1 : Inv X pins σ H1 _ := I.call (h' := h1) (g' := g1) (d' := d1) (t' := t1 + 1) (ch := []) un1 hok1 bare1 (fun b z => absurd z (by simp))
      refine ⟨⟨Int.natCast_nonneg _, by omega⟩, ?_⟩
      refine wpAny_bind (m := asInt? (.int (n : Int) _)) (wpAny_pure ?_)
      dsimp only
      have small : Builtin.List.listTooLong ((n : Int)).toNat = false := by
        rw [Int.toNat_natCast]
        unfold Builtin.List.listTooLong
        exact decide_eq_false (by rw [sizeLine_eq]; omega)
      refine PySem.W.KFB.if_not small ?_
      exact wpAny_pure (q _ _ H1 I1 un1 rfl ex1)
theorem items_same {its : List Value} {acc : Array Value} (h : ItemsOf (fun i v => its.toArray[i]? = some v) acc its.toArray.size) : acc.toList = its := by
  refine List.ext_getElem? fun j => ?_
  have h1 : acc.size = its.length := h.1.trans List.size_toArray
  cases e : acc[j]? with
  | some u =>
    have q : its.toArray[j]? = some u := h.2 j u e
    rw [List.getElem?_toArray] at q
    rw [Array.getElem?_toList, e, q]
  | none =>
    have l : acc.size ≤ j := Array.getElem?_eq_none_iff.mp e
    rw [Array.getElem?_toList, e, List.getElem?_eq_none (by omega)]
theorem lot_extend (MI : SpM X.K C fI "__iter__") (FI : FnOk X.prog X.w X.K X.mg X.base CX0 kI fI fdI psI (spIterT C f)) (bI : Binds X.K fdI psI []) (ML : SpM X.K C fL "__len__") (FL : FnOk X.prog X.w X.K X.mg X.base CX0 kL fL fdL psL spL) (bL : Binds X.K fdL psL [])
    (rI : Room kI A1.in1) (rL : Room (kL + 1) A1.in1) (hfr : A1.in1.frames = X.A.frames) (IA : Inv X pins σ HA sA) (ha : HA a = some (.ins C dx fs)) (hl : fs.lookup f = some (.ref t)) (ht : HA t = some (.tup zs)) (hz : zs.length ≤ 1000)
    (hL : TellsLen spL a HA zs.length) (hS : HA S = some (.lst [])) (hdone : ∀ s5 H5, Inv X pins σ H5 s5 → (∀ b o, b ≠ S → HA b = some o → H5 b = some o) → H5 S = some (.lst zs) → Rs (.ok (.ret .none)) s5) :
    wpAny (model X.prog X.w) A1.in1 (Builtin.List.listExtendWith (.ref S) (.ref a) .none)
      (fun fin s' => match fin with | .done g => Rs (.ok g) s' | .again cd => cd.quiet = true ∧ codeAny (model X.prog X.w) A1 cd Rs s') (fun e s' => Rs (.error e) s') sA := by
  have neq : S ≠ a := fun z => by rw [z, ha] at hS; cases hS
  obtain ⟨mA, J, _⟩ := ins_get IA.hok ha
  obtain ⟨od, J, _⟩ := J.look
  obtain ⟨m0, hF⟩ := IA.fr
  unfold Builtin.List.listExtendWith
  refine wpAny_bind (J.type.here ?_)
  have z1 : Builtin.List.listSameRef (.ref S) (.ref a) = false := by simp [Builtin.List.listSameRef, neq]
  have z2 : ((Value.ref C) == (Value.type "list")) = false := rfl
  have z3 : ((Value.ref C) == (Value.type "tuple")) = false := rfl
  simp only [z1, z2, z3, Bool.or_false, Bool.false_eq_true, if_false]
  refine wpAny_bind (PySem.W.owit_iter hF IA.ok.mod.kin J MI.hs MI.hf ?_)
  have e0 : Env0 X.prog X.w X.K X.mg X.base A1.in1 X.stack sA HA := by
    have e := IA.env0
    exact ⟨hfr.trans e.frames, e.mod, e.bs, e.bsz, e.funs, e.frf, e.hok, e.bare⟩
  have rv0 : Vals [V.ref a] [Value.ref a] := .cons rfl .nil
  have hsp : spIterT C f [.ref a] HA (fun v H' => ∃ it, HA it = none ∧ v = .ref it ∧ H' = upd HA it (TitO t it)) (fun _ _ _ => False) := ⟨a, dx, fs, t, zs, rfl, ha, hl, ht, fun it hi => ⟨it, hi, rfl, rfl⟩⟩
  have hlen := FI.len _ _ _ _ hsp
  refine wpAny_call (codeAny_mono (FI.run A1.in1 X.stack sA HA ⟨[.ref a], []⟩ [.ref a] [.ref a] _ _ rI e0 (by
    have z := bI sA [.ref a] IA.kIn (by simpa using hlen)
    simpa using z) rv0 hsp) fun r s1 hr1 => ?_)
  cases r with
  | error e => exact hr1.elim
  | ok fl =>
    cases fl with
    | next => exact False.elim hr1
    | brk => exact False.elim hr1
    | cont => exact False.elim hr1
    | ret u =>
      obtain ⟨v, H1, os1, bare1, un1, hok1, rv, it, hit, ev, eH⟩ := (show CE _ _ _ _ _ _ _ _ from hr1)
      subst ev
      subst eH
      cases (show u = Value.ref it from rv)
      obtain ⟨h1, g1, d1, t1, o1⟩ := s1
      cases (show o1 = sA.os from os1)
      have I1 : Inv X pins σ (upd HA it (TitO t it)) _ := IA.call (h' := h1) (g' := g1) (d' := d1) (t' := t1) (ch := []) un1 hok1 bare1 (fun b z => absurd z (by simp))
      have ex1 : ∀ b o, HA b = some o → upd HA it (TitO t it) b = some o := fun b o e => by rw [upd_ne (ne_of_none e hit)]; exact e
      have ti1 : h1.IsTupleIter it t 0 := (hok1 it _ upd_same).1
      show PySem.W.OwitIt _ _ _ _ _ _
      unfold PySem.W.OwitIt
      refine wpAny_specialOf (name := Str.ofString "__next__") (s := ⟨h1, g1, d1, t1, sA.os⟩) ti1.typeIs PySem.F.slot_tuple_iterator_next.lookup ?_
      dsimp only
      refine wpAny_bind (wpAny_holding (lot_hint ML FL bL rL hfr I1 (ex1 _ _ ha) hz (fun H' e => hL H' fun b o z => e b o (ex1 b o z)) fun k s2 H2 I2 un2 os2 ex2 => ?_))
      have nSi : S ≠ it := ne_of_none hS hit
      have hS2 : H2 S = some (.lst []) := ex2 _ _ (ex1 _ _ hS)
      have hT2 : H2 it = some (TitO t it) := ex2 _ _ upd_same
      have ht2 : H2 t = some (.tup zs) := ex2 _ _ (ex1 _ _ ht)
      obtain ⟨its, rvs, pl, hzz⟩ := I2.tuple (.inl (.inl ht2))
      have nti : t ≠ it := ne_of_none ht hit
      have nSt : S ≠ t := fun z => by rw [z, ht] at hS; cases hS
      have hzl := rvs.length
      have un12 : Un (frs X.stack) [] HA H2 sA.heap s2.heap := un1.trans un2
      have nit : sA.heap.get? it = none := by
        cases z : sA.heap.get? it with
        | none => rfl
        | some o =>
          have := un1.free it o z hit (by simp)
          rw [upd_same] at this
          cases this
      have loop : ∀ (s4 : Shared) (c4 : Nat), (∀ b o, b ≠ S → s2.heap.get? b = some o → s4.heap.get? b = some o) → s4.heap.get? S = some { cls := .type "list", dict := none, data := .seq #[] c4, slots := #[] } → s4.gens = s2.gens → s4.os = s2.os →
          codeAny (model X.prog X.w) A1 (.builtin "list.extend.loop" ⟨[.ref S, .ref it, .none], []⟩) Rs s4 := by
        intro s4 c4 k4 e4 q4 o4
        have hh : A1.in1.handled = none := rI.hd
        have W := (Walks.tuple (prog := X.prog) (w := X.w) (A := A1.in1) hh it t nti its.toArray).toS
        have st0 : s4.heap.IsTupleIter it t 0 ∧ s4.heap.IsTuple t its.toArray := by
          refine ⟨?_, ?_⟩
          · obtain ⟨o, ho, r⟩ := (I2.hok it _ hT2).1
            exact ⟨o, k4 _ _ (Ne.symm nSi) ho, r⟩
          · obtain ⟨o, ho, r⟩ := pl
            exact ⟨o, k4 _ _ (Ne.symm nSt) ho, r⟩
        refine codeAny_extend_loopS W (by rw [List.size_toArray, sizeLine_eq]; omega) S (by simp [nSi, nSt]) .none _ 0 s4 #[] c4 rfl (Nat.zero_le _) st0 e4 (ItemsOf.nil _) fun s5 acc c5 mv e5 hacc => ?_
        have eacc : acc.toList = its := items_same hacc
        have k5 : ∀ b o, b ≠ S → b ≠ it → s2.heap.get? b = some o → s5.heap.get? b = some o := fun b o n1 n2 e => mv.heap b o (by simp [n1, n2]) (k4 b o n1 e)
        have un5 : Un (frs X.stack) [] HA (upd (del H2 it) S (.lst zs)) sA.heap s5.heap := by
          have nS : ∀ b, HA b = none → b ≠ S := fun b n z => by rw [z, hS] at n; cases n
          have nI : ∀ b o, sA.heap.get? b = some o → b ≠ it := fun b o e z => by rw [z, nit] at e; cases e
          have old : ∀ b y, HA b = some y → (∀ xs, y ≠ .lst xs) → upd (del H2 it) S (.lst zs) b = some y := fun b y e n => by
            rw [upd_ne (fun z => by rw [z, hS] at e; cases e; exact n _ rfl), del_ne (ne_of_none e hit)]
            exact ex2 _ _ (ex1 _ _ e)
          refine ⟨fun b o e n hb hx => k5 b o (nS b n) (nI b o e) (un12.keep b o e n hb hx), fun b o e n hb hx => ?_, fun b o e n hx => ?_, fun b o e hx => ?_, fun b xs e => old b _ e (fun _ z => nomatch z), fun b o y e => old b _ e (fun _ z => nomatch z), fun b ps e => ⟨#[], ?_⟩⟩
          · obtain ⟨sl, e'⟩ := un12.slot b o e n hb hx
            exact ⟨sl, k5 b _ (nS b n) (nI b o e) e'⟩
          · rw [upd_ne (nS b n), del_ne (nI b o e)]; exact un12.free b o e n hx
          · by_cases z : b = S
            · rw [z]; exact ⟨_, e5⟩
            · obtain ⟨o', e'⟩ := un12.there b o e hx
              exact ⟨o', k5 b o' z (nI b o e) e'⟩
          · rw [old b _ e (fun _ z => nomatch z)]; simp
        have hok5 : HOk X.prog X.w (upd (del H2 it) S (.lst zs)) s5.heap := fun b y e => by
          by_cases z : b = S
          · rw [z, upd_same] at e
            cases e
            rw [z]
            refine ⟨by rw [sizeLine_eq]; omega, its, c5, rvs, ?_⟩
            rw [← eacc, Array.toArray_toList]
            exact e5
          · rw [upd_ne z] at e
            have n2 : b ≠ it := fun w => by rw [w, del_same] at e; cases e
            rw [del_ne n2] at e
            have same : ∀ c y, H2 c = some y → (∀ xs, y ≠ .lst xs) → (∀ g, y ≠ .ext g) → upd (del H2 it) S (.lst zs) c = some y := fun c y e n m => by
              rw [upd_ne (fun z => by rw [z, hS2] at e; cases e; exact n _ rfl), del_ne (fun z => by rw [z, hT2] at e; cases e; exact m _ rfl)]
              exact e
            refine (I2.hok b y e).stay (fun c x hc q => k5 c x ?_ ?_ q) (fun c q => same c _ q (fun _ w => nomatch w) (fun _ w => nomatch w)) fun c xs q => same c _ q (fun _ w => nomatch w) (fun _ w => nomatch w)
            · rcases hc with hc | hc
              · rw [hc]; exact z
              · exact fun w => by rw [w, hS2] at hc; cases hc
            · rcases hc with hc | hc
              · rw [hc]; exact n2
              · exact fun w => by rw [w, hT2] at hc; cases hc
        obtain ⟨h5, g5, d5, t5, o5⟩ := s5
        have bare5 : AllBare g5 := by
          have : g5 = s4.gens := mv.gens
          rw [this, q4]
          exact I2.bare
        cases (show o5 = sA.os from (mv.os.trans o4).trans os2)
        refine hdone _ _ (IA.call (h' := h5) (g' := g5) (d' := d5) (t' := t5) (ch := []) un5 hok5 bare5 (fun b z => absurd z (by simp))) (fun b o nb e => ?_) upd_same
        rw [upd_ne nb, del_ne (ne_of_none e hit)]
        exact ex2 _ _ (ex1 _ _ e)
      obtain ⟨z4, its4, k4, r4, hl4, e4⟩ := I2.lstM hS2
      cases r4
      refine wpAny_ite_split (fun _ => ?_) (fun _ => wpAny_pure ⟨plainId_quiet PySem.F.plain_extend_loop _, loop s2 k4 (fun _ _ _ e => e) e4 rfl rfl⟩)
      refine wpAny_bind (wpAny_rule (wpAny_bind ?_))
      show wpAny _ _ (updateSeq S (·.push .none) >>= fun _ => updateSeq S (·.pop)) _ _ _
      refine wpAny_bind (wpAny_updateSeq e4 rfl ?_)
      have q1 := PySem.IsL.update e4 (·.push Value.none)
      refine wpAny_updateSeq q1 rfl ?_ (by show 1 ≤ sizeLine; rw [sizeLine_eq]; decide) (by show 0 ≤ sizeLine + 1; exact Nat.zero_le _)
      have q2 := PySem.IsL.update q1 (·.pop)
      refine wpAny_pure ⟨plainId_quiet PySem.F.plain_extend_loop _, loop _ _ (fun b o nb e => ?_) q2 rfl rfl⟩
      exact (Heap.get?_update_other _ _ (Ne.symm nb)).trans ((Heap.get?_update_other _ _ (Ne.symm nb)).trans e)
/-- list(o) -/
def rListOT (C : Addr) (f : Str) (spL : Sp) : List V → Hp → VK → Prop := fun xs H Q => ∃ a dx fs t zs, xs = [.ref a] ∧ H a = some (.ins C dx fs) ∧ fs.lookup f = some (.ref t) ∧ H t = some (.tup zs) ∧ zs.length ≤ 1000 ∧ TellsLen spL a H zs.length ∧
  ∀ q H', H q = none → (∀ b o, H b = some o → H' b = some o) → H' q = some (.lst zs) → Q (.ref q) H'
theorem c_listOT (MI : SpM X.K C fI "__iter__") (FI : FnOk X.prog X.w X.K X.mg X.base CX0 kI fI fdI psI (spIterT C f)) (bI : Binds X.K fdI psI []) (ML : SpM X.K C fL "__len__") (FL : FnOk X.prog X.w X.K X.mg X.base CX0 kL fL fdL psL spL) (bL : Binds X.K fdL psL [])
    (rI : Room (kI + 2) X.A) (rL : Room (kL + 3) X.A) : CallR X (.type "list") (rListOT C f spL) := by
  intro pins s σ H xs us Q I rv h
  obtain ⟨a, dx, fs, t, zs, rfl, ha, hl, ht, hz, hL, hq⟩ := h
  obtain ⟨u, rfl, ru⟩ := vals1 rv
  cases (show u = Value.ref a from ru)
  refine callType_codes (Q₁ := fun ob z => ob = .ref s.heap.objs.size ∧ z = { s with heap := s.heap.push { cls := .type "list", data := .seq #[] } })
    PySem.F.called_list (PySem.F.typeCall_list_1 _) PySem.F.entry_list_init (code_list_new _ ⟨rfl, rfl⟩) fun ob z hoz => ?_
  obtain ⟨rfl, rfl⟩ := hoz
  have gS : (s.heap.push { cls := .type "list", data := .seq #[] }).get? s.heap.objs.size = some { cls := .type "list", data := .seq #[] } := Heap.get?_push_size _ rfl
  refine ⟨⟨_, gS, rfl⟩, PySem.F.args_list_init_2 _ _, ?_⟩
  have nS : H s.heap.objs.size = none := I.hok.fresh (Nat.le_refl _)
  have J1 : Inv X pins σ (upd H s.heap.objs.size (.lst [])) { s with heap := s.heap.push { cls := .type "list", data := .seq #[] } } := I.lnew (its := []) (t' := s.toks) .nil (Nat.zero_le _)
  show wpAny _ _ (do
    let old ← Builtin.List.listItems (.ref s.heap.objs.size)
    Builtin.List.listUpdate (.ref s.heap.objs.size) (fun _ => #[])
    letGo old.toList.reverse
    Builtin.List.listExtendWith (.ref s.heap.objs.size) (.ref a) .none) _ _ _
  refine wpAny_bind ?_
  unfold Builtin.List.listItems
  refine wpAny_bind (wpAny_seqItems gS rfl (wpAny_pure ?_))
  show wpAny _ _ (updateSeq s.heap.objs.size (fun _ => #[]) >>= fun _ =>
    letGo (#[] : Array Value).toList.reverse >>= fun _ =>
    Builtin.List.listExtendWith (.ref s.heap.objs.size) (.ref a) .none) _ _ _
  refine wpAny_bind (wpAny_updateSeq gS rfl ?_)
  have J2 := J1.lset (f := fun _ => #[]) (its := []) (its' := []) (ys := []) (t' := s.toks) upd_same gS rfl .nil (Nat.zero_le _)
  rw [upd_upd] at J2
  refine wpAny_bind (wpAny_letGo ?_)
  have old : ∀ b o, H b = some o → upd H s.heap.objs.size (.lst []) b = some o := fun b o e => by rw [upd_ne (ne_of_none e nS)]; exact e
  exact lot_extend (A1 := X.A.in1) (Rs := wants (fun r z => r = .none ∧ EP X pins σ Q (.ref s.heap.objs.size) z) X.xe) MI FI bI ML FL bL (Room.in1 (Room.in1 rI)) (Room.in1 (Room.in1 rL)) rfl J2 (old _ _ ha) hl (old _ _ ht) hz
    (fun H' e => hL H' fun b o z => e b o (old b o z)) upd_same
    (fun s5 H5 I5 e5 q5 => ⟨rfl, .ref s.heap.objs.size, H5, I5, rfl, hq _ H5 nS (fun b o z => e5 b o (ne_of_none z nS) (old b o z)) q5⟩)
end
end L2

/-! for x in o, o of an own class whose __iter__ gives iter(t), t a tuple of its: the iterator is young. -/
namespace L2
open PySem PySem.Spec PyProof.Rows
/-- a promise that may tell the heap's size at the entry -/
structure FnN (P : Program) (w : World) (K : PySem.W.Frag) (mg : Str → Option Value) (base : Heap) (CX : CXT) (k : Nat) (f : Addr) (fd : FuncData) (ps : List Str) (sp : Nat → Sp) : Prop where
  len : ∀ n vs H Q E, sp n vs H Q E → vs.length = ps.length
  run : ∀ (A : Around) (outer : List Env) (s : Shared) (H : Hp) (args : Args) (us : List Value) (vs : List V) (Q : VK) (E : XK), Room k A → Env0 P w K mg base A outer s H → BindsTo s fd args (ps.zip us) → Vals vs us → sp s.heap.objs.size vs H Q E →
    codeAny (model P w) A (.call (.ref f) args) (CR CX outer P w H s Q E) s
theorem Fun.okN {P : Program} {w : World} {K : PySem.W.Frag} {mg : Str → Option Value} {base : Heap} {x qual : Str} {st : Stmt} {f : Addr} {fd : FuncData} {N ps : List Str} {k : Nat} {sp : Nat → Sp} (F : Fun K x qual st f fd) (S : FnScope N ps (defScope st)) (len : ∀ n vs H Q E, sp n vs H Q E → vs.length = ps.length)
    (hb : ∀ (cdv : Value) (A : Around) (outer : List Env) (s : Shared) (H : Hp) (vs : List V) (Q : VK) (E : XK), Room k (A.deeper (envOfC qual (defScope st) s.heap.objs.size f cdv)) → sp s.heap.objs.size vs H Q E →
      ∃ t, PSs (cxOf CX0 P w K mg base N qual (defScope st) f cdv A outer s H E).nox (defBody st) t ∧ t { nx := fun _ H' => Q .non H', rt := Q } (start N vs) H) : FnN P w K mg base CX0 (k + 1) f fd ps sp := by
  obtain ⟨oc, od, kV, doc, pm, an, cdv, ct, osl, rfl, lk, hcd⟩ := F.ex
  refine ⟨len, fun A outer s H args us vs Q E hr e0 hbd r hsp => LamX.run_ofS lk hcd S hr e0 hbd r (len _ _ _ _ _ hsp) fun hr' => ?_⟩
  obtain ⟨t, h, q⟩ := hb cdv A outer s H vs Q E hr' hsp
  exact ⟨t, h.nox, q⟩
def rIterTN (K : PySem.W.Frag) (n : Nat) : List V → Hp → VK → Prop := fun xs H Q => ∃ (t : Addr) (zs : List V), xs = [.ref t] ∧ SqT K H t zs ∧ ∀ it, H it = none → n ≤ it → Q (.ref it) (upd H it (TitO t it))
section
variable {X : Cx}
theorem c_iterTN : CallR X (.builtin "iter") (rIterTN X.K X.s_0.heap.objs.size) := by
  intro pins s σ H xs us Q I r h
  obtain ⟨t, zs, rfl, hq, q⟩ := h
  obtain ⟨u, rfl, rx⟩ := vals1 r
  cases (show u = Value.ref t from rx)
  obtain ⟨its, rv, pl, hz⟩ := I.tuple hq
  refine Calls.call_function_entry (by decide +kernel) (by decide +kernel) PySem.W.kdk_entry_iter (PySem.W.kdk_args_iter _) ?_
  unfold Builtin.«iter»
  refine wpAny_bind (m := someArgs "iter" 1 2 _) (wpAny_of_eq (a := [Value.ref t]) (by first | rfl | kernel_rfl!) ?_)
  show wpAny _ _ (pyIter (.ref t) >>= _) _ _ _
  refine wpAny_bind (wpAny_pyIter_tuple pl (wpAny_pure ⟨_, rfl, ?_⟩))
  exact ⟨.ref s.heap.objs.size, _, I.laid (t' := s.toks) (fun b u e => Heap.get?_push_of_some _ e) (Nat.le_refl _) (titO_ok ⟨_, Heap.get?_push_size _ rfl, rfl, rfl⟩), rfl, q _ (I.hok.fresh (Nat.le_refl _)) I.sz⟩
def spIterN (C : Addr) (f : Str) : Nat → Sp := fun n vs H Q _ => ∃ a dx fs t zs, vs = [.ref a] ∧ H a = some (.ins C dx fs) ∧ fs.lookup f = some (.ref t) ∧ H t = some (.tup zs) ∧ ∀ it, H it = none → n ≤ it → Q (.ref it) (upd H it (TitO t it))
theorem FnN.plain {P : Program} {w : World} {K : PySem.W.Frag} {mg : Str → Option Value} {base : Heap} {k : Nat} {f C : Addr} {fd : FuncData} {ps : List Str} {g : Str} (F : FnN P w K mg base CX0 k f fd ps (spIterN C g)) : FnOk P w K mg base CX0 k f fd ps (spIterT C g) :=
  ⟨fun vs H Q E h => F.len 0 vs H Q E (let ⟨a, dx, fs, t, zs, h1, h2, h3, h4, q⟩ := h; ⟨a, dx, fs, t, zs, h1, h2, h3, h4, fun it hi _ => q it hi⟩),
   fun A outer s H args us vs Q E hr e0 hb r h => F.run A outer s H args us vs Q E hr e0 hb r (let ⟨a, dx, fs, t, zs, h1, h2, h3, h4, q⟩ := h; ⟨a, dx, fs, t, zs, h1, h2, h3, h4, fun it hi _ => q it hi⟩)⟩
/-- for .. in e, e of such a class -/
def iOwnT (K : PySem.W.Frag) (C : Addr) (f : Str) (te : TE) : TI := fun σ H R => te σ H fun x H1 => ∃ a dx fs t zs, x = .ref a ∧ H1 a = some (.ins C dx fs) ∧ fs.lookup f = some (.ref t) ∧ H1 t = some (.tup zs) ∧ R (Itt K t) H1
variable {kI : Nat} {C fI : Addr} {fdI : FuncData} {psI : List Str} {f : Str} {e tg : Expr} {te : TE}
theorem pi_ownT (MI : SpM X.K C fI "__iter__") (FI : FnN X.prog X.w X.K X.mg X.base CX0 kI fI fdI psI (spIterN C f)) (bI : Binds X.K fdI psI []) (rI : Room kI X.A) (he : PE X e te) : PI X tg e (iOwnT X.K C f te) := by
  refine ⟨fun pins s σ H R I h => ?_⟩
  refine thn (he.run pins s σ H _ I h) fun v s0 ⟨x, HA, IA, rx, a, dx, fs, t, zs, ex, ha, hl, ht, q⟩ => ?_
  subst ex
  cases (show v = Value.ref a from rx)
  obtain ⟨mA, J, _⟩ := ins_get IA.hok ha
  obtain ⟨od, J, _⟩ := J.look
  obtain ⟨m0, hF⟩ := IA.fr
  refine PySem.W.owit_iter hF IA.ok.mod.kin J MI.hs MI.hf ?_
  have rv0 : Vals [V.ref a] [Value.ref a] := .cons rfl .nil
  have hsp : spIterN C f s0.heap.objs.size [.ref a] HA (fun v H' => ∃ it, HA it = none ∧ s0.heap.objs.size ≤ it ∧ v = .ref it ∧ H' = upd HA it (TitO t it)) (fun _ _ _ => False) := ⟨a, dx, fs, t, zs, rfl, ha, hl, ht, fun it hi hn => ⟨it, hi, hn, rfl, rfl⟩⟩
  have hlen := FI.len _ _ _ _ _ hsp
  refine wpAny_call (codeAny_mono (FI.run X.A X.stack s0 HA ⟨[.ref a], []⟩ [.ref a] [.ref a] _ _ rI IA.env0 (by
    have z := bI s0 [.ref a] IA.kIn (by simpa using hlen)
    simpa using z) rv0 hsp) fun r s1 hr1 => ?_)
  cases r with
  | error e => exact hr1.elim
  | ok fl =>
    cases fl with
    | next => exact False.elim hr1
    | brk => exact False.elim hr1
    | cont => exact False.elim hr1
    | ret u =>
      obtain ⟨v, H1, I1, rv, it, hit, hy, ev, eH⟩ := IA.after hr1
      subst ev
      subst eH
      cases (show u = Value.ref it from rv)
      have ti1 : s1.heap.IsTupleIter it t 0 := (I1.hok it _ upd_same).1
      show PySem.W.OwitIt _ _ _ _ _ _
      unfold PySem.W.OwitIt
      refine wpAny_specialOf (name := Str.ofString "__next__") ti1.typeIs PySem.F.slot_tuple_iterator_next.lookup ?_
      dsimp only
      have I2 := ItX.inv_drop I1 upd_same
      have fp := ItX.inv_fp I1 upd_same (Nat.le_trans IA.sz hy)
      rw [ItX.dropH_upd hit] at I2 fp
      exact ⟨it, [it], _, _, HA, rfl, I2, turn_tuple t it, ti1, fun b hb => by rw [List.mem_singleton.mp hb]; exact fp, q⟩
end
end L2

/-! Loops and comprehensions over what is known: lists, tuples, ranges, own classes. -/
namespace AW
open PySem PySem.Spec PyProof.Rows L2
/-- what an iterator gives, as long as ka holds -/
def Gives (J : It) (xs : List V) (ka : Hp → Prop) : Prop := ∀ kn H, Ext kn H → ka kn →
  (∀ i, i < xs.length → J.go i H) ∧ (∀ i, xs.length ≤ i → J.stop i H) ∧ ∀ i x H', J.yld i H x H' → H' = H ∧ (i < xs.length → xs[i]? = some x)
def WI (c : Cw) (wi : Hp → (It → Hp → Prop) → Prop) (kn : Hp) (n : Nat) (R : It → Hp → Nat → Prop) : Prop :=
  ∀ H, Good c kn n H → ∀ R' : It → Hp → Prop, (∀ J kn' n' H', R J kn' n' → Good c kn' n' H' → R' J H') → wi H R'
section
variable {K : PySem.W.Frag} {a : Addr} {xs : List V}
theorem gives_tup : Gives (Itt K a) xs fun kn => kn a = some (.tup xs) := fun kn H e h =>
  ⟨fun i hi => ⟨xs, xs[i], sqt (e _ _ h), List.getElem?_eq_getElem hi⟩, fun i hi => ⟨xs, sqt (e _ _ h), hi⟩, fun i x H' y => ⟨y.1, fun _ => y.2 xs (sqt (e _ _ h))⟩⟩
theorem gives_lst : Gives (Itl K a) xs fun kn => kn a = some (.lst xs) := fun kn H e h =>
  ⟨fun i hi => ⟨xs, xs[i], sql (e _ _ h), List.getElem?_eq_getElem hi⟩, fun i hi => ⟨xs, sql (e _ _ h), hi⟩, fun i x H' y => ⟨y.1, fun _ => y.2 xs (sql (e _ _ h))⟩⟩
theorem gives_rng {lo : Int} {m : Nat} : Gives (Itr lo m) ((List.range m).map fun i => V.int (lo + (i : Nat))) fun _ => True := fun kn H e h =>
  ⟨fun i hi => by rw [List.length_map, List.length_range] at hi; exact hi, fun i hi => by rw [List.length_map, List.length_range] at hi; exact hi,
   fun i x H' y => ⟨y.1, fun hi => by rw [List.length_map, List.length_range] at hi; rw [List.getElem?_map, List.getElem?_range hi, y.2]; rfl⟩⟩
variable {c : Cw} {kn : Hp} {n : Nat} {σ : L2.St} {R : It → Hp → Nat → Prop} {te : TE} {ta : TA}
theorem i_tup (h : W c (te σ) kn n fun x kn1 n1 => ∃ a xs, x = .ref a ∧ kn1 a = some (.tup xs) ∧ R (Itt K a) kn1 n1) : WI c (iTup K te σ) kn n R :=
  fun H g R' q => h H g _ fun x kn1 n1 H1 ⟨a, xs, e, ha, hr⟩ g1 => ⟨a, e, ⟨xs, sqt (g1.ex _ _ ha)⟩, q _ _ _ _ hr g1⟩
theorem i_list (h : W c (te σ) kn n fun x kn1 n1 => ∃ a xs, x = .ref a ∧ kn1 a = some (.lst xs) ∧ R (Itl K a) kn1 n1) : WI c (iList K te σ) kn n R :=
  fun H g R' q => h H g _ fun x kn1 n1 H1 ⟨a, xs, e, ha, hr⟩ g1 => ⟨a, e, ⟨xs, sql (g1.ex _ _ ha)⟩, q _ _ _ _ hr g1⟩
theorem i_rng1 (h : W c (ta σ) kn n fun vs kn1 n1 => ∃ j : Int, vs = [.int j] ∧ -(2 ^ 62) ≤ j ∧ j < 2 ^ 62 ∧ R (Itr 0 j.toNat) kn1 n1) : WI c (iRng1 ta σ) kn n R :=
  fun H g R' q => h H g _ fun vs kn1 n1 H1 ⟨j, e, b1, b2, hr⟩ g1 => ⟨j, e, b1, b2, q _ _ _ _ hr g1⟩
theorem i_rng2 (h : W c (ta σ) kn n fun vs kn1 n1 => ∃ i j : Int, vs = [.int i, .int j] ∧ (-(2 ^ 62) ≤ i ∧ i < 2 ^ 62 ∧ -(2 ^ 62) ≤ j ∧ j < 2 ^ 62) ∧ R (Itr i (j - i).toNat) kn1 n1) : WI c (iRng2 ta σ) kn n R :=
  fun H g R' q => h H g _ fun vs kn1 n1 H1 ⟨i, j, e, b, hr⟩ g1 => ⟨i, j, e, b, q _ _ _ _ hr g1⟩
theorem i_own {C : Addr} {f : Str} (h : W c (te σ) kn n fun x kn1 n1 => ∃ a dx fs t zs, x = .ref a ∧ kn1 a = some (.ins C dx fs) ∧ fs.lookup f = some (.ref t) ∧ kn1 t = some (.tup zs) ∧ R (Itt K t) kn1 n1) : WI c (iOwnT K C f te σ) kn n R :=
  fun H g R' q => h H g _ fun x kn1 n1 H1 ⟨a, dx, fs, t, zs, e, ha, hl, ht, hr⟩ g1 => ⟨a, dx, fs, t, zs, e, g1.ex _ _ ha, hl, g1.ex _ _ ht, q _ _ _ _ hr g1⟩
/-- a loop -/
theorem s_forJ {D : AE} {wi : TI} {gt : TG} {tb : TS}
    (h : WI c (wi σ) kn n fun J kn1 n1 => ∃ (xs : List V) (ka : Hp → Prop) (Pv : Nat → L2.St → Hp → Nat → Prop), Gives J xs ka ∧ Pv 0 σ kn1 n1 ∧ (∀ i σ' kn' n', Pv i σ' kn' n' → ka kn') ∧
      (∀ i x σ' kn' n', xs[i]? = some x → Pv i σ' kn' n' → WG c gt x σ' kn' n' fun σ2 kn2 n2 => WS c tb { D with nx := Pv (i + 1), ct := Pv (i + 1), bk := D.nx } σ2 kn2 n2) ∧
      ∀ σ' kn' n', Pv xs.length σ' kn' n' → D.nx σ' kn' n') : WS c (tFor wi gt tb) D σ kn n := by
  intro H g D' f
  refine h H g _ fun J kn1 n1 H1 hJ g1 => ?_
  obtain ⟨xs, ka, Pv, hG, h0, hk, hs, hd⟩ := hJ
  refine ⟨fun i m σ' H' => m = xs.length - i ∧ i ≤ xs.length ∧ ∃ kn' n', Pv i σ' kn' n' ∧ Good c kn' n' H', ⟨_, rfl, Nat.zero_le _, kn1, n1, h0, g1⟩, ?_⟩
  rintro i m σ' H' ⟨rfl, hi, kn', n', p, g'⟩
  obtain ⟨q1, q2, q3⟩ := hG kn' H' g'.ex (hk _ _ _ _ p)
  by_cases hlt : i < xs.length
  · refine .inr ⟨q1 i hlt, fun σ2 H2 => ∃ kn2 n2, Pv (i + 1) σ2 kn2 n2 ∧ Good c kn2 n2 H2, fun σ2 H2 ⟨kn2, n2, p2, g2⟩ => ⟨xs.length - (i + 1), by omega, rfl, hlt, kn2, n2, p2, g2⟩, fun x H2 y => ?_⟩
    obtain ⟨e, hx⟩ := q3 i x H2 y
    subst e
    refine hs i x σ' kn' n' (hx hlt) p H2 g' _ fun σ3 kn3 n3 H3 h3 g3 => h3 H3 g3 _ ⟨fun σ4 kn4 n4 H4 h4 g4 => ⟨kn4, n4, h4, g4⟩, f.rt, fun σ4 kn4 n4 H4 h4 g4 => f.nx _ _ _ _ h4 g4, fun σ4 kn4 n4 H4 h4 g4 => ⟨kn4, n4, h4, g4⟩⟩
  · have e : i = xs.length := Nat.le_antisymm hi (Nat.le_of_not_lt hlt)
    exact .inl ⟨q2 i (Nat.le_of_not_lt hlt), f.nx _ _ _ _ (hd σ' kn' n' (e ▸ p)) g'⟩
/-- a comprehension of a list -/
theorem w_lc {Q : V → Hp → Nat → Prop} {wi : TI} {gt : TG} {tt : TT} {vs : List Nat}
    (h : WI c (wi σ) kn n fun J kn1 n1 => ∃ (xs : List V) (ka : Hp → Prop) (Pv : Addr → Nat → List V → Hp → Nat → Prop), Gives J xs ka ∧ xs.length ≤ 100000 ∧ (∀ D, kn1 D = none → Pv D 0 [] (upd kn1 D (.lst [])) n1) ∧
      (∀ D i acc kn' n', Pv D i acc kn' n' → ka kn' ∧ kn' D = some (.lst acc) ∧ acc.length ≤ i) ∧
      (∀ D i acc x kn' n', xs[i]? = some x → Pv D i acc kn' n' → WG c gt x (wipe σ vs) kn' n' fun σ2 kn2 n2 => wipe σ2 vs = wipe σ vs ∧ W c (tt σ2) kn2 n2 fun b kn3 n3 =>
        (b = true → W c (te σ2) kn3 n3 fun y kn4 n4 => kn4 D = some (.lst acc) ∧ Pv D (i + 1) (acc ++ [y]) (upd kn4 D (.lst (acc ++ [y]))) n4) ∧ (b = false → Pv D (i + 1) acc kn3 n3)) ∧
      ∀ D acc kn' n', Pv D xs.length acc kn' n' → Q (.ref D) kn' n') : W c (tLc wi gt tt te vs σ) kn n Q := by
  intro H g Q' q
  refine h H g _ fun J kn1 n1 H1 hJ g1 => ?_
  obtain ⟨xs, ka, Pv, hG, hz, h0, hk, hs, hd⟩ := hJ
  intro D hD
  refine ⟨fun i m H' => m = xs.length - i ∧ i ≤ xs.length ∧ ∃ acc kn' n', Pv D i acc kn' n' ∧ Good c kn' n' H', ⟨_, rfl, Nat.zero_le _, [], _, _, h0 D (g1.free hD), g1.new hD⟩, ?_⟩
  rintro i m H' ⟨rfl, hi, acc, kn', n', p, g'⟩
  obtain ⟨k1, k2, k3⟩ := hk _ _ _ _ _ p
  obtain ⟨q1, q2, q3⟩ := hG kn' H' g'.ex k1
  by_cases hlt : i < xs.length
  · refine .inr ⟨q1 i hlt, fun H2 => ∃ acc kn2 n2, Pv D (i + 1) acc kn2 n2 ∧ Good c kn2 n2 H2, fun H2 ⟨acc, kn2, n2, p2, g2⟩ => ⟨xs.length - (i + 1), by omega, rfl, hlt, acc, kn2, n2, p2, g2⟩, fun x H2 y => ?_⟩
    obtain ⟨e, hx⟩ := q3 i x H2 y
    subst e
    refine hs D i acc x kn' n' (hx hlt) p H2 g' _ fun σ3 kn3 n3 H3 h3 g3 => ⟨h3.1, h3.2 H3 g3 _ fun b kn4 n4 H4 h4 g4 => ?_⟩
    cases b with
    | true => exact iteT (h4.1 rfl H4 g4 _ fun y kn5 n5 H5 h5 g5 => ⟨acc, g5.ex _ _ h5.1, by rw [sizeLine_eq]; omega, _, _, _, h5.2, g5.put h5.1 rfl⟩)
    | false => exact iteF ⟨_, _, _, h4.2 rfl, g4⟩
  · have e : i = xs.length := Nat.le_antisymm hi (Nat.le_of_not_lt hlt)
    exact .inl ⟨q2 i (Nat.le_of_not_lt hlt), q _ _ _ _ (hd D acc kn' n' (e ▸ p)) g'⟩
end
end AW

namespace L2
open PySem PySem.Spec PyProof.Rows Builtin
theorem int_eq_inst (b : Int) (u : Tok) (x C dx : Addr) :
    Meets (Builtin.«int.__eq__» ⟨[.int b u, .ref x], []⟩) (fun _ R s => s.heap.get? x = some (PySem.W.instObj C dx) ∧ R (.ok (.ret .notImplemented)) s) :=
  .of_wp fun prog w A R s h => by
    obtain ⟨hp, g, d, tk, os⟩ := s
    obtain ⟨hl, h⟩ := h
    unfold PySem.W.instObj at hl
    wp_walk using wpAny_loadPart' hl, wpAny_load hl
    exact ⟨_, rfl, h⟩
theorem bool_eq_inst (b : Bool) (x C dx : Addr) :
    Meets (Builtin.«int.__eq__» ⟨[.bool b, .ref x], []⟩) (fun _ R s => s.heap.get? x = some (PySem.W.instObj C dx) ∧ R (.ok (.ret .notImplemented)) s) :=
  .of_wp fun prog w A R s h => by
    obtain ⟨hp, g, d, tk, os⟩ := s
    obtain ⟨hl, h⟩ := h
    unfold PySem.W.instObj at hl
    wp_walk using wpAny_loadPart' hl, wpAny_load hl
    exact ⟨_, rfl, h⟩
theorem str_eq_inst (b : Str) (u : Tok) (x C dx : Addr) :
    Meets (Builtin.«str.__eq__» ⟨[.str b u, .ref x], []⟩) (fun _ R s => s.heap.get? x = some (PySem.W.instObj C dx) ∧ R (.ok (.ret .notImplemented)) s) :=
  .of_wp fun prog w A R s h => by
    obtain ⟨hp, g, d, tk, os⟩ := s
    obtain ⟨hl, h⟩ := h
    unfold PySem.W.instObj at hl
    wp_walk using wpAny_loadPart' hl, wpAny_load hl
    exact ⟨_, rfl, h⟩
theorem tup_eq_inst (l x : Addr) :
    Meets (Builtin.«tuple.__eq__» ⟨[.ref l, .ref x], []⟩) (fun _ R s => (∀ (M : Model) (A : Around) (Q : Bool → Shared → Prop) (E : Value → Shared → Prop), Q false s → wpAny M A (isInstance (.ref x) (.type "tuple")) Q E s) ∧ R (.ok (.ret .notImplemented)) s) :=
  .of_wp fun prog w A R s h => by
    obtain ⟨hp, g, d, tk, os⟩ := s
    obtain ⟨hl, h⟩ := h
    wp_walk using hl _ _ _ _
    exact ⟨_, rfl, h⟩
theorem lst_eq_inst (l x : Addr) :
    Meets (Builtin.«list.__eq__» ⟨[.ref l, .ref x], []⟩) (fun _ R s => (∀ (M : Model) (A : Around) (Q : Bool → Shared → Prop) (E : Value → Shared → Prop), Q false s → wpAny M A (isInstance (.ref x) (.type "list")) Q E s) ∧ R (.ok (.ret .notImplemented)) s) :=
  .of_wp fun prog w A R s h => by
    obtain ⟨hp, g, d, tk, os⟩ := s
    obtain ⟨hl, h⟩ := h
    wp_walk using hl _ _ _ _
    exact ⟨_, rfl, h⟩
section
variable {prog : Program} {w : World} {A : Around} {E : Value → Shared → Prop} {s : Shared} {K : PySem.W.Frag} {x C f : Addr} {ox : Obj} {od : Option Obj} {b : Value} {T id : String} {Q : Value → Shared → Prop}
/-- b == x, b of a built-in type that declines, x's class has an own == -/
theorem eq_back (hu : A.units < cLine) (X : K.In s.heap) (I : PySem.W.InstAt s.heap x ox C od) (hT : s.TypeIs b T) (slot : Slot T "__eq__" id) (hs : PySem.W.findIn K (.ref C) "__eq__" = some (some (.ref f))) (hf : PySem.W.isFn K (.ref f) = true) (sub : PySem.W.subIn K (.ref C) (.type T) = some false)
    (dec : ∀ (P : Value → Shared → Prop) (E' : Value → Shared → Prop), P .notImplemented s → wpAny (model prog w) A (call (.builtin id) [b, .ref x]) P E' s)
    (h : wpAny (model prog w) A (call (.ref f) [.ref x, b]) (PySem.W.CmpBack Q) E s) : wpAny (model prog w) A (richCompare .Eq b (.ref x)) Q E s := by
  have ne : ((Value.type T) != (Value.ref C)) = true := rfl
  simp only [richCompare, cmpInfo_Eq, hT.oneThing_none]
  refine wpAny_holding (wpAny_bind (wpAny_cRoomFor hu ?_))
  refine wpAny_bind (wpAny_typeOf hT ?_)
  refine wpAny_bind (I.type.here ?_)
  rw [if_pos ne]
  refine wpAny_bind ((PySem.W.looks_subIn X sub).here ?_)
  simp only [Bool.false_eq_true, if_false, Bool.not_false, if_true]
  refine wpAny_bind (m := tryCompare b _ (.ref x)) (wpAny_tryCompare_declines hT slot (dec _ _ ⟨rfl, ?_⟩))
  refine wpAny_bind (m := tryCompare (.ref x) _ b) ?_
  unfold tryCompare
  refine wpAny_bind (PySem.W.ifBound_K X I hs hf (wpAny_mono h (fun v s' hv => ?_) fun _ _ e => e))
  cases v <;> first | exact hv.elim | exact wpAny_pure (wpAny_pure hv)
end
end L2

/-! x in a list, where == of an item may run a def of the text. -/
namespace L2
open PySem PySem.Spec PyProof.Rows PySem.SeqAt
abbrev lstOf (items : Array Value) (n : Nat) : Obj := { cls := .type "list", dict := none, data := .seq items n, slots := #[] }
/-- the turns that are left, the spot -/
def EqChain (prog : Program) (w : World) (A : Around) (l : Addr) (x : Value) : Nat → Nat → (Result → Shared → Prop) → Shared → Prop
  | 0, i, R, s => ∃ items n, s.heap.get? l = some (lstOf items n) ∧ items[i]? = none ∧ R (.ok (.ret (.bool false))) s
  | m + 1, i, R, s => ∃ items n y, s.heap.get? l = some (lstOf items n) ∧ items[i]? = some y ∧ wpAny (model prog w) A (eqBool y x) (fun b s' => (b = true → R (.ok (.ret (.bool true))) s') ∧ (b = false → EqChain prog w A l x m (i + 1) R s')) (fun e s' => R (.error e) s') s
theorem contains_chain {prog : Program} {w : World} {l : Addr} {x : Value} (m : Nat) :
    ∀ i : Nat, MeetsIn prog w (Builtin.«list.__contains__.loop» ⟨[.ref l, x, rawInt i], []⟩) (fun A R s => EqChain prog w A.in1 l x m i R s) := by
  induction m with
  | zero =>
    intro i A R s h
    obtain ⟨hp, g, d, tk, os⟩ := s
    obtain ⟨items, n, hl, hi, h⟩ := h
    wp_walk using wpAny_loadPart' hl
    have none_at : items[((i : Nat) : Int).toNat]? = none := by simpa using hi
    rw [none_at]
    wp_walk
    exact h
  | succ m ih =>
    intro i A R s h
    obtain ⟨hp, g, d, tk, os⟩ := s
    obtain ⟨items, n, y, hl, hi, h⟩ := h
    wp_walk using wpAny_loadPart' hl
    have some_at : items[((i : Nat) : Int).toNat]? = some y := by simpa using hi
    rw [some_at]
    refine wpAny_bind (wpAny_mono h (fun b s' hb => ?_) fun _ _ z => z)
    obtain ⟨ht, hf⟩ := hb
    cases b with
    | true =>
      wp_walk
      exact ht rfl
    | false =>
      have cast1 : ((i : Int) + 1) = ((i + 1 : Nat) : Int) := by push_cast; rfl
      wp_walk
      rw [cast1]
      refine ⟨plainId_quiet MeetsSeq.plain_contains_loop _, codeAny_builtin MeetsSeq.entry_contains_loop ?_⟩
      rw [Around.under_plainId MeetsSeq.plain_contains_loop _]
      exact ih (i + 1) A R s' (hf rfl)
theorem contains_list {prog : Program} {w : World} {l : Addr} {x : Value} (m : Nat) :
    MeetsIn prog w (Builtin.«list.__contains__» ⟨[.ref l, x], []⟩) (fun A R s => s.TypeIs (.ref l) "list" ∧ EqChain prog w A.in1 l x m 0 R s) := by
  intro A R s h
  obtain ⟨hp, g, d, tk, os⟩ := s
  obtain ⟨hl, h⟩ := h
  wp_walk
  refine ⟨plainId_quiet MeetsSeq.plain_contains_loop _, codeAny_builtin MeetsSeq.entry_contains_loop ?_⟩
  rw [Around.under_plainId MeetsSeq.plain_contains_loop _]
  exact contains_chain m 0 A R _ h
theorem in_chain {prog : Program} {w : World} {A : Around} {E : Value → Shared → Prop} {s : Shared} {l : Addr} {x : Value} {Q : Value → Shared → Prop} (m : Nat) (hl : s.TypeIs (.ref l) "list")
    (h : EqChain prog w A.in1 l x m 0 (wants (fun v s' => ∃ b, v = .bool b ∧ Q (.bool b) s') E) s) : wpAny (model prog w) A (compareOp .In x (.ref l)) Q E s := by
  show wpAny _ A (do return .bool (← contains (.ref l) x)) Q E s
  refine wpAny_bind (wpAny_contains_slot (T := "list") hl F.slot_list_contains (wpAny_mono (call_meetsIn F.slot_list_contains hl F.entry_list_contains (F.args_list_contains_2 _ _) (contains_list m) ⟨hl, h⟩) (fun v s' hv => ?_) fun _ _ e => e))
  obtain ⟨b, rfl, hq⟩ := hv
  exact wpAny_truthy_bool (wpAny_pure hq)
end L2

/-! o in a list of built-in values, o of an own class with an own ==. -/
namespace L2
open PySem PySem.Spec PyProof.Rows PySem.SeqAt
/-- a built-in value whose == leaves the answer to the class at C -/
inductive BackV (K : PySem.W.Frag) (H : Hp) (C : Addr) : V → Prop where
  | non (h : PySem.W.subIn K (.ref C) (.type "NoneType") = some false) : BackV K H C .non
  | bl (b : Bool) (h : PySem.W.subIn K (.ref C) (.type "bool") = some false) : BackV K H C (.bl b)
  | int (i : Int) (h : PySem.W.subIn K (.ref C) (.type "int") = some false) : BackV K H C (.int i)
  | str (x : Str) (h : PySem.W.subIn K (.ref C) (.type "str") = some false) : BackV K H C (.str x)
  | lst {l : Addr} {xs : List V} (e : H l = some (.lst xs)) (h : PySem.W.subIn K (.ref C) (.type "list") = some false) : BackV K H C (.ref l)
  | tup {l : Addr} {xs : List V} (e : H l = some (.tup xs)) (h : PySem.W.subIn K (.ref C) (.type "tuple") = some false) : BackV K H C (.ref l)
def InCh (K : PySem.W.Frag) (C a l : Addr) (vs : List V) (sp : Sp) : List V → Hp → VK → Prop
  | [], H, Q => Q (.bl false) H
  | v :: r, H, Q => BackV K H C v ∧ sp [.ref a, v] H (fun u H1 => ∃ b, u = .bl b ∧ H1 l = some (.lst vs) ∧ (∃ dx fs, H1 a = some (.ins C dx fs)) ∧ (b = true → Q (.bl true) H1) ∧ (b = false → InCh K C a l vs sp r H1 Q)) (fun _ _ _ => False)
def rInLO (K : PySem.W.Frag) (C : Addr) (sp : Sp) : R2 := fun x y H Q => ∃ a dx fs l vs, x = .ref a ∧ y = .ref l ∧ H a = some (.ins C dx fs) ∧ H l = some (.lst vs) ∧ InCh K C a l vs sp vs H Q
section
variable {X : Cx} {CX : CXT} {k : Nat} {f C a l : Addr} {fd : FuncData} {ps : List Str} {sp : Sp} {pins : List (Addr × Obj)} {σ : St} {H : Hp} {s : Shared} {v : V} {u : Value} {dx : Addr} {fs : List (Str × V)}
theorem eqBool_back {A : Around} {Q : Bool → Shared → Prop} {E : Value → Shared → Prop} (hu : A.units < cLine) (M : EqM X.K C f) (I : Inv X pins σ H s) (ha : H a = some (.ins C dx fs)) (b : BackV X.K H C v) (r : RelV v u)
    (h : wpAny (model X.prog X.w) A (call (.ref f) [.ref a, u]) (PySem.W.CmpBack fun z s' => wpAny (model X.prog X.w) A (truthOfDropped z) Q E s') E s) : wpAny (model X.prog X.w) A (eqBool u (.ref a)) Q E s := by
  obtain ⟨mA, J, _⟩ := ins_get I.hok ha
  obtain ⟨od, J, _⟩ := J.look
  have KI := I.kIn
  have isI : ∀ {T : String}, PySem.W.subIn X.K (.ref C) (.type T) = some false → ∀ (M : Model) (A : Around) (Q : Bool → Shared → Prop) (E : Value → Shared → Prop), Q false s → wpAny M A (isInstance (.ref a) (.type T)) Q E s := fun {T} h M' A' Q' E' q => (J.type.andThen (f := fun t => isSubtype t (.type T)) (PySem.W.looks_subIn KI h)).here q
  unfold eqBool
  refine wpAny_holding ?_
  cases b with
  | non hs =>
    cases (show u = Value.none from r)
    refine wpAny_ite_split (fun z => absurd (eq_of_beq z) nofun) (fun _ => ?_)
    refine wpAny_bind (eq_back hu KI J (T := "NoneType") rfl F.slot_NoneType_eq M.hs M.hf hs (fun P E' p => call_gives F.slot_NoneType_eq rfl F.entry_NoneType_eq (F.args_NoneType_eq_2 _ _) (NoneType___eq___none_ref_0 a) p) h)
  | bl y hs =>
    cases (show u = Value.bool y from r)
    refine wpAny_ite_split (fun z => absurd (eq_of_beq z) nofun) (fun _ => ?_)
    refine wpAny_bind (eq_back hu KI J (T := "bool") rfl F.slot_bool_eq M.hs M.hf hs (fun P E' p => call_meets F.slot_bool_eq rfl F.entry_int_eq (F.args_int_eq_2 _ _) (bool_eq_inst y a C dx) ⟨J.1, p⟩) h)
  | int y hs =>
    obtain ⟨t, rfl⟩ := (show ∃ t, u = Value.int y t from r)
    refine wpAny_ite_split (fun z => absurd (eq_of_beq z) nofun) (fun _ => ?_)
    refine wpAny_bind (eq_back hu KI J (T := "int") (typeIs_int _ _ _) F.slot_int_eq M.hs M.hf hs (fun P E' p => call_meets F.slot_int_eq (typeIs_int _ _ _) F.entry_int_eq (F.args_int_eq_2 _ _) (int_eq_inst y t a C dx) ⟨J.1, p⟩) h)
  | str y hs =>
    obtain ⟨t, rfl⟩ := (show ∃ t, u = Value.str y t from r)
    refine wpAny_ite_split (fun z => absurd (eq_of_beq z) nofun) (fun _ => ?_)
    refine wpAny_bind (eq_back hu KI J (T := "str") (typeIs_str _ _ _) F.slot_str_eq M.hs M.hf hs (fun P E' p => call_meets F.slot_str_eq (typeIs_str _ _ _) F.entry_str_eq (F.args_str_eq_2 _ _) (str_eq_inst y t a C dx) ⟨J.1, p⟩) h)
  | @lst l xs e hs =>
    cases (show u = Value.ref l from r)
    have ne : l ≠ a := fun z => by rw [z, ha] at e; cases e
    obtain ⟨_, its, n, _, _, e1⟩ := I.lstM e
    refine wpAny_ite_split (fun z => absurd (Value.ref.inj (eq_of_beq z)) ne) (fun _ => ?_)
    refine wpAny_bind (eq_back hu KI J (T := "list") ⟨_, e1, rfl⟩ F.slot_list_eq M.hs M.hf hs (fun P E' p => call_meets F.slot_list_eq ⟨_, e1, rfl⟩ F.entry_list_eq (F.args_list_eq_2 _ _) (lst_eq_inst l a) ⟨isI hs, p⟩) h)
  | @tup l xs e hs =>
    cases (show u = Value.ref l from r)
    have ne : l ≠ a := fun z => by rw [z, ha] at e; cases e
    obtain ⟨its, _, pl, _⟩ := I.tuple (.inl (.inl e))
    obtain ⟨o, ho, hc, _⟩ := pl
    refine wpAny_ite_split (fun z => absurd (Value.ref.inj (eq_of_beq z)) ne) (fun _ => ?_)
    refine wpAny_bind (eq_back hu KI J (T := "tuple") ⟨o, ho, hc⟩ F.slot_tuple_eq M.hs M.hf hs (fun P E' p => call_meets F.slot_tuple_eq ⟨o, ho, hc⟩ F.entry_tuple_eq (F.args_tuple_eq_2 _ _) (tup_eq_inst l a) ⟨isI hs, p⟩) h)
theorem in_walk {Q : VK} (hu : X.A.in1.units < cLine) (M : EqM X.K C f) (F : FnOk X.prog X.w X.K X.mg X.base CX k f fd ps sp) (hr : Room k X.A.in1) (hb : Binds X.K fd ps []) (hx : Passes CX X (fun _ _ _ => False)) {vs : List V} :
    ∀ (r done : List V) (H : Hp) (s : Shared), vs = done ++ r → Inv X pins σ H s → (∃ dx fs, H a = some (.ins C dx fs)) → H l = some (.lst vs) → InCh X.K C a l vs sp r H Q →
      EqChain X.prog X.w X.A.in1 l (.ref a) r.length done.length (wants (fun v s' => ∃ b, v = .bool b ∧ EP X pins σ Q (.bool b) s') X.xe) s := by
  intro r
  induction r with
  | nil =>
    intro done H s e I ha hl h
    obtain ⟨_, its, n, rv, hlen, e1⟩ := I.lstM hl
    refine ⟨its.toArray, n, e1, ?_, ⟨false, rfl, .bl false, H, I, rfl, h⟩⟩
    rw [List.getElem?_toArray, List.getElem?_eq_none]
    rw [← hlen, e, List.append_nil]
    exact Nat.le_refl _
  | cons v r ih =>
    intro done H s e I ha hl h
    obtain ⟨dx, fs, ha⟩ := ha
    obtain ⟨bv, hsp⟩ := h
    obtain ⟨_, its, n, rv, hlen, e1⟩ := I.lstM hl
    have at_v : vs[done.length]? = some v := by rw [e]; simp
    obtain ⟨u, hu1, ru⟩ := rv.get at_v
    refine ⟨its.toArray, n, u, e1, by rw [List.getElem?_toArray]; exact hu1, ?_⟩
    refine eqBool_back hu M I ha bv ru (wpAny_mono (callA (A := X.A.in1) (vs := [.ref a, v]) F hr rfl hb hx I (.cons rfl (.cons ru .nil)) hsp) (fun z s' hz => ?_) fun _ _ z => z)
    obtain ⟨v', H', I', rv', b, eb, hl', ha', ht, hf⟩ := hz
    subst eb
    cases (show z = Value.bool b from rv')
    show wpAny _ _ (truthOfDropped (.bool b)) _ _ _
    refine (show wpAny _ _ (truthy (.bool b)) _ _ _ from wpAny_truthy_bool ⟨fun hbt => ?_, fun hbf => ?_⟩)
    · exact ⟨true, rfl, .bl true, H', I', rfl, ht hbt⟩
    · have q := ih (done ++ [v]) H' s' (by rw [e]; simp) I' ha' hl' (hf hbf)
      rw [List.length_append] at q
      exact q
theorem op_inLO (M : EqM X.K C f) (F : FnOk X.prog X.w X.K X.mg X.base CX k f fd ps sp) (hr : Room (k + 1) X.A) (hb : Binds X.K fd ps []) (hx : Passes CX X (fun _ _ _ => False)) : OpR X (compareOp .In) (rInLO X.K C sp) := by
  intro pins s σ H x y v u Q I rx ry h
  obtain ⟨a, dx, fs, l, vs, rfl, rfl, ha, hl, h⟩ := h
  cases (show v = Value.ref a from rx)
  cases (show u = Value.ref l from ry)
  obtain ⟨_, its, n, _, _, e1⟩ := I.lstM hl
  exact in_chain vs.length ⟨_, e1, rfl⟩ (in_walk hr.in1.units0 M F hr.in1 hb hx vs [] H s rfl I ⟨dx, fs, ha⟩ hl h)
end
end L2
namespace AW
open PySem PySem.Spec PyProof.Rows L2
theorem backV_ext {K : PySem.W.Frag} {H H' : Hp} {C : Addr} {v : V} (e : Ext H H') (b : BackV K H C v) : BackV K H' C v := by
  cases b with
  | non h => exact .non h
  | bl b h => exact .bl b h
  | int i h => exact .int i h
  | str x h => exact .str x h
  | lst q h => exact .lst (e _ _ q) h
  | tup q h => exact .tup (e _ _ q) h
/-- none of the items is equal -/
theorem r_inL_no {K : PySem.W.Frag} {c : Cw} {kn : Hp} {n : Nat} {Q : V → Hp → Nat → Prop} {B : List V → Hp → AK → AXK → Prop} {C a l dx : Addr} {fs : List (Str × V)} {vs : List V} (hm : MonoX B) (ha : kn a = some (.ins C dx fs)) (hl : kn l = some (.lst vs))
    (hv : ∀ v ∈ vs, BackV K kn C v ∧ B [.ref a, v] kn (fun u k => u = .bl false ∧ k = kn) (fun _ _ _ => False)) (q : Q (.bl false) kn n) : W c (rInLO K C (liftX B) (.ref a) (.ref l)) kn n Q := by
  intro H g Q' k
  have walk : ∀ (r : List V), (∀ v ∈ r, v ∈ vs) → ∀ H, Good c kn n H → InCh K C a l vs (liftX B) r H Q' := by
    intro r
    induction r with
    | nil => exact fun _ H g => k _ _ _ _ q g
    | cons v r ih =>
      intro hr H g
      obtain ⟨b, h⟩ := hv v (hr v List.mem_cons_self)
      refine ⟨backV_ext g.ex b, kn, g.ex, g.nt, hm _ _ _ _ _ _ (fun u k' hu n' H' g' => ?_) (fun _ _ _ z => z.elim) h⟩
      obtain ⟨rfl, rfl⟩ := hu
      have g2 : Good c k' n H' := g.back g'
      exact ⟨false, rfl, g2.ex _ _ hl, ⟨dx, fs, g2.ex _ _ ha⟩, (fun z => nomatch z), fun _ => ih (fun w hw => hr w (List.mem_cons_of_mem _ hw)) H' g2⟩
  exact ⟨a, dx, fs, l, vs, rfl, rfl, g.ex _ _ ha, g.ex _ _ hl, walk vs (fun _ z => z) H g⟩
end AW

/-! An own operator whose right operand is of another own class; built-in == own; repr of any data; properties. -/
namespace OX
open PySem PySem.W PySem.Calls PyProof.Rows Builtin
section
variable {prog : Program} {w : World} {A : Around} {E : Value → Shared → Prop} {s : Shared} {K : Frag} {x C D f : Addr} {ox : Obj} {od : Option Obj} {b : Value}
theorem noNumber {M : Model} {h : Heap} {nm : String} {cd : ClassData} (X : K.In h) (hc : clsIn K D = some cd) (hm : cd.mro = [.ref D, .type "object"]) (h1 : findIn K (.ref D) (PySem.dunder nm) = some none) (h2 : findIn K (.ref D) (dunderR nm) = some none)
    (o1 : typeLookup (.type "object") (PySem.dunder nm) = pure none) (o2 : typeLookup (.type "object") (dunderR nm) = pure none) : Looks M h (fillsNumberSlot (.ref D) nm) false := by
  intro A Q E s k q
  unfold fillsNumberSlot
  dsimp only
  refine wpAny_bind ((looks_clsIn X hc).andThen (f := fun cd => pure cd.mro) .now A _ E s k ?_)
  rw [hm, List.anyM_cons]
  refine wpAny_bind ?_
  dsimp only
  rw [List.anyM_cons]
  refine wpAny_bind (wpAny_bind (looks_findIn X h1 A _ E s k ?_))
  dsimp only
  refine wpAny_pure ?_
  simp only [Bool.false_eq_true, if_false]
  rw [List.anyM_cons]
  refine wpAny_bind (wpAny_bind (looks_findIn X h2 A _ E s k ?_))
  dsimp only
  refine wpAny_pure ?_
  simp only [Bool.false_eq_true, if_false, List.anyM_nil]
  refine wpAny_pure ?_
  simp only [Bool.false_eq_true, if_false]
  rw [List.anyM_cons, o1, o2]
  refine wpAny_bind (wpAny_bind (wpAny_pure (wpAny_bind (wpAny_pure ?_))))
  refine wpAny_pure ?_
  simp only [Option.isSome_none, Bool.false_and, Bool.or_self, Bool.false_eq_true, if_false, List.anyM_nil]
  exact wpAny_pure q
theorem binop1_D {nm : String} {Q : Value → Shared → Prop} (X : K.In s.heap) (I : InstAt s.heap x ox C od) (hb : Looks (model prog w) s.heap (typeOf b) (.ref D)) (hc : selfFirst K C = true)
    (hs : findIn K (.ref C) (PySem.dunder nm) = some (some (.ref f))) (hf : isFn K (.ref f) = true) (fill : Looks (model prog w) s.heap (fillsNumberSlot (.ref D) nm) false)
    (h : wpAny (model prog w) A (call (.ref f) [.ref x, b]) (PySem.W.CmpBack Q) E s) : wpAny (model prog w) A (binaryOp1 nm (.ref x) b) (fun r s' => ∃ v, r = some v ∧ Q v s') E s := by
  obtain ⟨cd, hcd, hm⟩ := any_some hc
  obtain ⟨rest, hm⟩ : ∃ rest, cd.mro = .ref C :: rest := by
    cases q : cd.mro with
    | nil => rw [q] at hm; cases hm
    | cons a r => rw [q] at hm; exact ⟨r, by rw [List.head?_cons] at hm; cases (beq_iff_eq.mp hm); rfl⟩
  have last : ∀ {α : Type} (k : Option Value → Sem α) (P : α → Shared → Prop), (∀ v s', PySem.W.CmpBack Q v s' → wpAny (model prog w) A (k (some v)) P E s') → wpAny (model prog w) A (tryMethod (.ref x) (PySem.dunder nm) b >>= k) P E s := fun k P hk => by
    refine wpAny_bind ?_
    unfold tryMethod
    refine wpAny_bind (special_fn X I hs (beq_iff_eq.mp hf) (wpAny_mono h (fun v s' hv => ?_) fun _ _ e => e))
    cases v <;> first | exact hv.elim | exact wpAny_pure (hk _ _ hv)
  unfold binaryOp1
  refine wpAny_bind (I.type.here (wpAny_bind (hb.here (wpAny_bind ((fills_K X hcd hm hs).here ?_)))))
  cases q : (Value.ref C == Value.ref D) with
  | true =>
    simp only [if_true]
    refine wpAny_bind (wpAny_pure ?_)
    simp only [Bool.and_false, Bool.false_eq_true, if_false, Bool.false_and]
    refine wpAny_bind (wpAny_pure ?_)
    simp only [Bool.false_eq_true, if_false]
    refine last _ _ fun v s' hv => ?_
    cases v <;> first | exact hv.elim | exact wpAny_pure ⟨_, rfl, hv⟩
  | false =>
    simp only [Bool.false_eq_true, if_false]
    refine wpAny_bind (fill.here ?_)
    simp only [Bool.and_false, Bool.false_eq_true, if_false, Bool.false_and]
    refine wpAny_bind (wpAny_pure ?_)
    simp only [Bool.false_eq_true, if_false, if_true]
    refine last _ _ fun v s' hv => ?_
    cases v <;> first | exact hv.elim | exact wpAny_pure ⟨_, rfl, hv⟩
end
end OX
namespace L2
open PySem PySem.Spec PyProof.Rows PySem.SeqAt
/-- the class at D has nothing to say in an operator -/
structure NoNum (K : PySem.W.Frag) (op : Operator) (D : Addr) : Prop where
  cd : ∃ cd, PySem.W.clsIn K D = some cd ∧ cd.mro = [.ref D, .type "object"]
  h1 : PySem.W.findIn K (.ref D) (PySem.dunder op.info.2) = some none
  h2 : PySem.W.findIn K (.ref D) (dunderR op.info.2) = some none
  o1 : typeLookup (.type "object") (PySem.dunder op.info.2) = pure none
  o2 : typeLookup (.type "object") (dunderR op.info.2) = pure none
def rOwnD (K : PySem.W.Frag) (op : Operator) (C D : Addr) (sp : Sp) (E : XK) : R2 := fun x y H Q => ∃ a dx fs b dy gs, x = .ref a ∧ y = .ref b ∧ H a = some (.ins C dx fs) ∧ H b = some (.ins D dy gs) ∧ sp [.ref a, .ref b] H Q E
section
variable {X : Cx} {CX : CXT} {k : Nat} {f C D : Addr} {fd : FuncData} {ps : List Str} {sp : Sp} {E : XK}
theorem op_ownD {op : Operator} (M : OpM X.K op C f) (N : NoNum X.K op D) (O : OwnC X.K D) (F : FnOk X.prog X.w X.K X.mg X.base CX k f fd ps sp) (hr : Room k X.A) (hb : Binds X.K fd ps []) (hx : Passes CX X E) : OpR X (binaryOp op) (rOwnD X.K op C D sp E) := by
  intro pins s σ H x y v u Q I rx ry h
  obtain ⟨a, dx, fs, b, dy, gs, rfl, rfl, ha, hb', hq⟩ := h
  cases rx
  have ry' := ry
  cases ry'
  obtain ⟨mA, J, _⟩ := ins_get I.hok ha
  obtain ⟨od, J, _⟩ := J.look
  have hbt := typeOf_of I ry (O.ty hb')
  obtain ⟨cd, c1, c2⟩ := N.cd
  have hc : wpAny (model X.prog X.w) X.A (call (.ref f) [.ref a, .ref b]) (PySem.W.CmpBack (EP X pins σ Q)) X.xe s :=
    wpAny_mono (callA (vs := [.ref a, .ref b]) F hr rfl hb hx I (.cons rfl (.cons ry .nil)) hq) (fun z s' hz => by
      obtain ⟨v', H', I', rv, q⟩ := id hz
      exact relV_ni rv hz) fun _ _ z => z
  exact OX.binop_of (OX.binop1_D I.kIn J hbt M.self M.hs M.hf (OX.noNumber I.kIn c1 c2 N.h1 N.h2 N.o1 N.o2) hc)
/-- x == o or o == x, o of an own class with an own ==, x of a built-in type -/
def rEqU (K : PySem.W.Frag) (C : Addr) (sp : Sp) : R2 := fun x y H Q => rEqO K C sp false x y H Q ∨ ∃ a dx fs, y = .ref a ∧ H a = some (.ins C dx fs) ∧ BackV K H C x ∧ sp [.ref a, x] H (fun v H' => ∃ b, v = .bl b ∧ Q (.bl b) H') (fun _ _ _ => False)
theorem op_eqU (M : EqM X.K C f) (F : FnOk X.prog X.w X.K X.mg X.base CX k f fd ps sp) (hr : Room (k + 1) X.A) (hb : Binds X.K fd ps []) (hx : Passes CX X (fun _ _ _ => False)) : OpR X (compareOp .Eq) (rEqU X.K C sp) := by
  intro pins s σ H x y v u Q I rx ry h
  rcases h with h | ⟨a, dx, fs, rfl, ha, bv, hq⟩
  · exact op_eqO M F hr hb hx pins s σ H x y v u Q I rx ry h
  cases (show u = Value.ref a from ry)
  obtain ⟨mA, J, _⟩ := ins_get I.hok ha
  obtain ⟨od, J, _⟩ := J.look
  have KI := I.kIn
  have hu : X.A.units < cLine := hr.units0
  have isI : ∀ {T : String}, PySem.W.subIn X.K (.ref C) (.type T) = some false → ∀ (M : Model) (A : Around) (Q : Bool → Shared → Prop) (E : Value → Shared → Prop), Q false s → wpAny M A (isInstance (.ref a) (.type T)) Q E s := fun {T} h M' A' Q' E' q => (J.type.andThen (f := fun t => isSubtype t (.type T)) (PySem.W.looks_subIn KI h)).here q
  have h : wpAny (model X.prog X.w) X.A (call (.ref f) [.ref a, v]) (PySem.W.CmpBack (EP X pins σ Q)) X.xe s :=
    wpAny_mono (callA (vs := [.ref a, x]) F (hr.mono (Nat.le_succ _)) rfl hb hx I (.cons rfl (.cons rx .nil)) hq) (fun z s' hz => by
      obtain ⟨v', H', I', rv, b, e, q⟩ := hz
      subst e
      cases (show z = Value.bool b from rv)
      exact ⟨.bl b, H', I', rfl, q⟩) fun _ _ z => z
  show wpAny (model X.prog X.w) X.A (richCompare .Eq v (.ref a)) (EP X pins σ Q) X.xe s
  cases bv with
  | non hs =>
    cases (show v = Value.none from rx)
    exact eq_back hu KI J (T := "NoneType") rfl PySem.F.slot_NoneType_eq M.hs M.hf hs (fun P E' p => call_gives PySem.F.slot_NoneType_eq rfl PySem.F.entry_NoneType_eq (PySem.F.args_NoneType_eq_2 _ _) (NoneType___eq___none_ref_0 a) p) h
  | bl y hs =>
    cases (show v = Value.bool y from rx)
    exact eq_back hu KI J (T := "bool") rfl PySem.F.slot_bool_eq M.hs M.hf hs (fun P E' p => call_meets PySem.F.slot_bool_eq rfl PySem.F.entry_int_eq (PySem.F.args_int_eq_2 _ _) (bool_eq_inst y a C dx) ⟨J.1, p⟩) h
  | int y hs =>
    obtain ⟨t, rfl⟩ := (show ∃ t, v = Value.int y t from rx)
    exact eq_back hu KI J (T := "int") (typeIs_int _ _ _) PySem.F.slot_int_eq M.hs M.hf hs (fun P E' p => call_meets PySem.F.slot_int_eq (typeIs_int _ _ _) PySem.F.entry_int_eq (PySem.F.args_int_eq_2 _ _) (int_eq_inst y t a C dx) ⟨J.1, p⟩) h
  | str y hs =>
    obtain ⟨t, rfl⟩ := (show ∃ t, v = Value.str y t from rx)
    exact eq_back hu KI J (T := "str") (typeIs_str _ _ _) PySem.F.slot_str_eq M.hs M.hf hs (fun P E' p => call_meets PySem.F.slot_str_eq (typeIs_str _ _ _) PySem.F.entry_str_eq (PySem.F.args_str_eq_2 _ _) (str_eq_inst y t a C dx) ⟨J.1, p⟩) h
  | @lst l xs e hs =>
    cases (show v = Value.ref l from rx)
    obtain ⟨_, its, n, _, _, e1⟩ := I.lstM e
    exact eq_back hu KI J (T := "list") ⟨_, e1, rfl⟩ PySem.F.slot_list_eq M.hs M.hf hs (fun P E' p => call_meets PySem.F.slot_list_eq ⟨_, e1, rfl⟩ PySem.F.entry_list_eq (PySem.F.args_list_eq_2 _ _) (lst_eq_inst l a) ⟨isI hs, p⟩) h
  | @tup l xs e hs =>
    cases (show v = Value.ref l from rx)
    obtain ⟨its, _, pl, _⟩ := I.tuple (.inl (.inl e))
    obtain ⟨o, ho, hc, _⟩ := pl
    exact eq_back hu KI J (T := "tuple") ⟨o, ho, hc⟩ PySem.F.slot_tuple_eq M.hs M.hf hs (fun P E' p => call_meets PySem.F.slot_tuple_eq ⟨o, ho, hc⟩ PySem.F.entry_tuple_eq (PySem.F.args_tuple_eq_2 _ _) (tup_eq_inst l a) ⟨isI hs, p⟩) h
/-- repr of a bool -/
def rReprB : List V → Hp → VK → Prop := fun xs H Q => ∃ b : Bool, xs = [.bl b] ∧ Q (.str (if b then "True" else "False")) H
theorem c_reprB : CallR X (.builtin "repr") rReprB := by
  intro pins s σ H xs us Q I r h
  obtain ⟨b, rfl, q⟩ := h
  obtain ⟨u, rfl, rx⟩ := vals1 r
  cases (show u = Value.bool b from rx)
  exact PySem.P.repr_of_bool ⟨.str (if b then "True" else "False"), H, I.tok _, ⟨_, rfl⟩, q⟩
def rNotN : R2 := fun x y H Q => y = V.non ∧ Q (V.bl (!decide (x = V.non))) H
theorem c_notN : OpR X (compareOp .IsNot) rNotN := op_notN
def rMax2 : List V → Hp → VK → Prop := fun xs H Q => ∃ i j : Int, xs = [.int i, .int j] ∧ Q (.int (if j > i then j else i)) H
theorem c_max2 (hc : X.calm = true) : CallR X (.builtin "max") rMax2 := call_max2 hc
def rMin2 : List V → Hp → VK → Prop := fun xs H Q => ∃ i j : Int, xs = [.int i, .int j] ∧ Q (.int (if j < i then j else i)) H
theorem c_min2 (hc : X.calm = true) : CallR X (.builtin "min") rMin2 := call_min2 hc
end
end L2
namespace AW
open PySem PySem.Spec PyProof.Rows L2
section
variable {c : Cw} {kn : Hp} {n : Nat} {σ : L2.St} {Q : V → Hp → Nat → Prop} {K : PySem.W.Frag} {E : XK} {EA : EAK} {B : List V → Hp → AK → AXK → Prop} {C D : Addr}
theorem r_ownD {op : Operator} {a b dx dy : Addr} {fs gs : List (Str × V)} (hm : MonoX B) (hE : ErrOk c EA E) (ha : kn a = some (.ins C dx fs)) (hb : kn b = some (.ins D dy gs))
    (h : B [.ref a, .ref b] kn (fun v k => Q v k n) (fun cls d k => EA cls d k n)) : W c (rOwnD K op C D (liftX B) E (.ref a) (.ref b)) kn n Q :=
  fun H g Q' q => ⟨a, dx, fs, b, dy, gs, rfl, rfl, g.ex _ _ ha, g.ex _ _ hb, sp_call hm hE h H g Q' q⟩
theorem r_eqUo {x y : V} (h : W c (rEqO K C (liftX B) false x y) kn n Q) : W c (rEqU K C (liftX B) x y) kn n Q := fun H g Q' q => .inl (h H g Q' q)
theorem r_eqUb {a dx : Addr} {fs : List (Str × V)} {x : V} (hm : MonoX B) (ha : kn a = some (.ins C dx fs)) (bv : BackV K kn C x)
    (h : B [.ref a, x] kn (fun v k => ∃ b, v = .bl b ∧ Q (.bl b) k n) (fun _ _ _ => False)) : W c (rEqU K C (liftX B) x (.ref a)) kn n Q :=
  fun H g Q' q => .inr ⟨a, dx, fs, rfl, g.ex _ _ ha, backV_ext g.ex bv, sp_call (EA := fun _ _ _ _ => False) (Q := fun v k n => ∃ b, v = .bl b ∧ Q (.bl b) k n) hm err_no h H g _ fun v kn1 n1 H1 ⟨b, e, hq⟩ g1 => ⟨b, e, q _ _ _ _ hq g1⟩⟩
theorem r_reprB {b : Bool} (q : Q (.str (if b then "True" else "False")) kn n) : W c (rReprB [.bl b]) kn n Q := fun H g _ k => ⟨b, rfl, k _ kn n H q g⟩
theorem r_notN {x : V} (q : Q (.bl (!decide (x = V.non))) kn n) : W c (rNotN x .non) kn n Q := fun H g _ k => ⟨rfl, k _ kn n H q g⟩
theorem r_max2 {i j : Int} (q : Q (.int (if j > i then j else i)) kn n) : W c (rMax2 [.int i, .int j]) kn n Q := fun H g _ k => ⟨i, j, rfl, k _ kn n H q g⟩
theorem r_min2 {i j : Int} (q : Q (.int (if j < i then j else i)) kn n) : W c (rMin2 [.int i, .int j]) kn n Q := fun H g _ k => ⟨i, j, rfl, k _ kn n H q g⟩
theorem w_prop {ta : TE} (hm : MonoX B) (h : W c (ta σ) kn n fun x kn1 n1 => ∃ a dx fs, x = .ref a ∧ kn1 a = some (.ins C dx fs) ∧ B [.ref a] kn1 (fun v k => Q v k n1) (fun _ _ _ => False)) : W c (tProp C (liftX B) [] E ta σ) kn n Q :=
  fun H g Q' q => h H g _ fun x kn1 n1 H1 ⟨a, dx, fs, e, ha, hb⟩ g1 => ⟨a, dx, fs, e, g1.ex _ _ ha, sp_call (EA := fun _ _ _ _ => False) hm err_no hb H1 g1 Q' q⟩
end
end AW

/-! bool(o) by an own __bool__; static methods; loops over lists or tuples; isinstance with a tuple; all. -/
namespace L2
open PySem PySem.Spec PyProof.Rows
theorem bool_new_own {prog : Program} {w : World} {x : Addr} : MeetsIn prog w (Builtin.«bool.__new__» ⟨[.type "bool", .ref x], []⟩) (fun A R s => wpAny (model prog w) A.in1 (truthy (.ref x)) (fun b s' => R (.ok (.ret (.bool b))) { s' with toks := s'.toks }) (fun e s' => R (.error e) s') s) := by
  intro A R s h
  obtain ⟨hp, g, d, tk, os⟩ := s
  have f1 := F.conv_sub_bool
  repeat (any_goals (first | assumption | (with_reducible refine wpAny_mono h (fun b s' hb => ?_) (fun _ _ z => z)) | wp_step))
  all_goals first | exact hb | exact ⟨_, rfl, hb⟩
section
variable {X : Cx} {CX : CXT} {k : Nat} {f C p : Addr} {fd : FuncData} {ps : List Str} {sp : Sp} {E : XK}
/-- bool(o) -/
def rBoolO (C : Addr) (sp : Sp) : List V → Hp → VK → Prop := fun xs H Q => ∃ a dx fs, xs = [.ref a] ∧ H a = some (.ins C dx fs) ∧ sp [.ref a] H (fun v H' => ∃ b, v = .bl b ∧ Q (.bl b) H') (fun _ _ _ => False)
theorem c_boolO (M : SpM X.K C f "__bool__") (F : FnOk X.prog X.w X.K X.mg X.base CX k f fd ps sp) (hr : Room (k + 2) X.A) (hb : Binds X.K fd ps []) (hx : Passes CX X (fun _ _ _ => False)) : CallR X (.type "bool") (rBoolO C sp) := by
  intro pins s σ H xs us Q I r h
  obtain ⟨a, dx, fs, rfl, ha, hq⟩ := h
  obtain ⟨u, rfl, rx⟩ := vals1 r
  cases (show u = Value.ref a from rx)
  obtain ⟨_, J, _⟩ := ins_get I.hok ha
  obtain ⟨_, J, _⟩ := J.look
  obtain ⟨_, hF⟩ := I.fr
  refine callType_newIn PySem.F.called_bool PySem.F.newNe_bool (PySem.F.typeCall_bool_1 _) (PySem.F.newCall_bool_1 _) (fun obj => PySem.F.args_object_init_2 obj _) PySem.F.entry_bool_new bool_new_own ?_
  refine PySem.W.truthy_K hF I.ok.mod.kin J M.hs M.hf (wpAny_mono (callA (A := X.A.in1.in1) (vs := [.ref a]) F hr.in1.in1 rfl hb hx I (.cons rfl .nil) hq) (fun z s' hz => ?_) fun _ _ z => z)
  obtain ⟨v', H', I', rv, b, e, q⟩ := hz
  subst e
  cases (show z = Value.bool b from rv)
  exact ⟨PySem.typeIs_bool _ _, .bl b, H', I', rfl, q⟩
end
end L2
namespace L2
open PySem PySem.Spec PyProof.Rows ClX
/-- C.m is a static method: its record at p, its def at f -/
structure SMet (K : PySem.W.Frag) (C : Addr) (mc : Value) (m : Str) (p f : Addr) : Prop where
  at_ : PySem.W.findCls K (.ref C) mc m = some (.get (.builtin "staticmethod.__get__") (.ref p) .none (.ref C))
  rc : ∃ rest, PySem.W.recIn K p "staticmethod" = some (.ref f :: rest)
  kp : PySem.W.keepIn K (.ref f) = true
section
variable {X : Cx} {CX : CXT} {k : Nat} {f C p : Addr} {mc : Value} {m : Str} {fd : FuncData} {ps : List Str} {sp : Sp} {E : XK} {o e : Expr} {es : List Expr} {pos apos : Pos} {ta : TE} {t : TA} {pl : Sem Bool} {pins : List (Addr × Obj)} {σ : St} {H : Hp} {s : Shared}
theorem getsm_ok {A : Around} {E : Value → Shared → Prop} {Q : Value × List Value → Shared → Prop} (I : Inv X pins σ H s) (r : CRead X.K C mc) (c : SMet X.K C mc m p f) (h : ∀ s', Inv X pins σ H s' → Q (.ref f, []) s') : wpAny (model X.prog X.w) A (getMethod (.ref C) m pl) Q E s := by
  obtain ⟨rest, hp⟩ := c.rc
  exact PySem.W.method_cls I.kIn r.ga (PySem.W.cls_bind I.kIn r.rd c.at_ (wpAny_call (PySem.W.sm_get (s := { s with toks := s.toks + 1 }) I.kIn hp (PySem.W.handed_on rfl (h _ (I.tok _))))))
def tSMeth (C : Addr) (sp : Sp) (E : XK) (ta : TE) (t : TA) : TE := fun σ H Q => ta σ H fun x H1 => x = .ref C ∧ t σ H1 fun vs H2 => sp vs H2 Q E
theorem pe_smeth (he : PE X o ta) (r : CRead X.K C mc) (c : SMet X.K C mc m p f) (F : FnR X.prog X.w X.K X.mg X.base CX k f sp) (hr : Room k X.A) (hx : Passes CX X E) (ha : PA X (e :: es) t)
    (hst : starEach (e :: es) X.env = (false, eval e X.env) :: starEach es X.env := by rfl) (hpl : (backTo pos (starEach es X.env)).any (·.1) = false := by rfl)
    (ht : eval (.Call (.Attribute o m apos) (e :: es) [] pos) X.env = (do
      let ov ← eval o X.env
      standAt apos.atName
      let (f, first) ← holding [ov] (getMethod ov m pl)
      callWith pos f first (backTo pos (starEach (e :: es) X.env)) (backToKw pos (keywordEach [] X.env))) := by rfl) :
    PE X (.Call (.Attribute o m apos) (e :: es) [] pos) (tSMeth C sp E ta t) := by
  refine ⟨fun pins s σ H Q I h => ?_⟩
  refine PySem.W.methodCall_KW (pl := pl) (thn (he.run pins s σ H _ I h) fun u s1 ⟨x, H1, I1, rx, ex, q⟩ => ?_) ht
  subst ex
  obtain rfl : u = Value.ref C := rx
  refine getsm_ok I1 r c fun s2 I2 => ?_
  exact PySem.W.callWith_K (h₀ := X.base) I2.ok.mod.kin c.kp (thn (ha.run pos pins s2 σ H1 _ I2 q) fun us s3 ⟨vs, H2, I3, rv, q2⟩ => ⟨I3.kIn, wpAny_call (run_fnR F hr hx I3 rv q2)⟩) hst hpl
theorem pe_smeth0 (he : PE X o ta) (r : CRead X.K C mc) (c : SMet X.K C mc m p f) (F : FnR X.prog X.w X.K X.mg X.base CX k f sp) (hr : Room k X.A) (hx : Passes CX X E)
    (ht : eval (.Call (.Attribute o m apos) [] [] pos) X.env = (do
      let ov ← eval o X.env
      standAt apos.atName
      let (f, first) ← holding [ov] (getMethod ov m pl)
      callWith pos f first (backTo pos (starEach [] X.env)) (backToKw pos (keywordEach [] X.env))) := by rfl) :
    PE X (.Call (.Attribute o m apos) [] [] pos) (tSMeth C sp E ta tNil) := by
  refine ⟨fun pins s σ H Q I h => ?_⟩
  refine PySem.W.methodCall_KW (pl := pl) (thn (he.run pins s σ H _ I h) fun u s1 ⟨x, H1, I1, rx, ex, q⟩ => ?_) ht
  subst ex
  obtain rfl : u = Value.ref C := rx
  refine getsm_ok I1 r c fun s2 I2 => ?_
  exact PySem.W.callWith_K0 I2.kIn c.kp (wpAny_call (run_fnR (us := []) F hr hx I2 .nil q))
/-- for x in e, e a list or a tuple -/
def iSeq (K : PySem.W.Frag) (te : TE) : TI := fun σ H R => iList K te σ H R ∨ iTup K te σ H R
theorem pi_seq {tg e : Expr} {te : TE} (he : PE X e te) : PI X tg e (iSeq X.K te) := by
  refine ⟨fun pins s σ H R I h => ?_⟩
  rcases h with h | h
  · exact (pi_list he).run pins s σ H R I h
  · exact (pi_tup he).run pins s σ H R I h
def rAllQ (K : PySem.W.Frag) : List V → Hp → VK → Prop := fun vs H Q => ∃ (a : Addr) (bs : List Bool), vs = [V.ref a] ∧ SqL K H a (bs.map V.bl) ∧ Q (.bl (bs.all id)) H
theorem c_allQ (hc : X.calm = true) : CallR X (.builtin "all") (rAllQ X.K) := cr_all hc
def rInQ (K : PySem.W.Frag) (neg : Bool) : R2 := fun x y H Q => ∃ p xs, y = .ref p ∧ (SqL K H p xs ∨ SqT K H p xs) ∧ flatV x = true ∧ xs.all flatV = true ∧ Q (.bl (if neg then !inV x xs else inV x xs)) H
theorem c_inQ : OpR X (compareOp .In) (rInQ X.K false) := op_in_seq
theorem c_notInQ : OpR X (compareOp .NotIn) (rInQ X.K true) := op_notIn_seq
end
end L2
namespace AW
open PySem PySem.Spec PyProof.Rows L2 ClX
section
variable {c : Cw} {kn : Hp} {n : Nat} {σ : L2.St} {Q : V → Hp → Nat → Prop} {K : PySem.W.Frag} {E : XK} {EA : EAK} {B : List V → Hp → AK → AXK → Prop} {C : Addr} {R : It → Hp → Nat → Prop}
theorem r_boolO {a dx : Addr} {fs : List (Str × V)} (hm : MonoX B) (ha : kn a = some (.ins C dx fs)) (h : B [.ref a] kn (fun v k => ∃ b, v = .bl b ∧ Q (.bl b) k n) (fun _ _ _ => False)) : W c (rBoolO C (liftX B) [.ref a]) kn n Q :=
  fun H g Q' q => ⟨a, dx, fs, rfl, g.ex _ _ ha, sp_call (EA := fun _ _ _ _ => False) (Q := fun v k n => ∃ b, v = .bl b ∧ Q (.bl b) k n) hm err_no h H g _ fun v kn1 n1 H1 ⟨b, e, hq⟩ g1 => ⟨b, e, q _ _ _ _ hq g1⟩⟩
theorem w_smeth {ta : TE} {t : TA} (hm : MonoX B) (hE : ErrOk c EA E) (h : W c (ta σ) kn n fun x kn1 n1 => x = .ref C ∧ W c (t σ) kn1 n1 fun vs kn2 n2 => B vs kn2 (fun v k => Q v k n2) (fun cls d k => EA cls d k n2)) : W c (tSMeth C (liftX B) E ta t σ) kn n Q :=
  fun H g Q' q => h H g _ fun x kn1 n1 H1 ⟨e, h1⟩ g1 => ⟨e, h1 H1 g1 _ fun vs kn2 n2 H2 h2 g2 => sp_call hm hE h2 H2 g2 Q' q⟩
/-- a static method with *rest -/
def spStar (m : Nat) (B : List V → Hp → AK → AXK → Prop) : Sp := fun vs H Q E => ∃ ws rest, vs = ws ++ rest ∧ ws.length = m ∧ rest.length ≤ sizeLine ∧ ∀ p, H p = Option.none → liftX B (ws ++ [V.ref p]) (upd H p (.tup rest)) Q E
theorem w_smethS {ta : TE} {t : TA} {m : Nat} (hm : MonoX B) (hE : ErrOk c EA E) (h : W c (ta σ) kn n fun x kn1 n1 => x = .ref C ∧ W c (t σ) kn1 n1 fun vs kn2 n2 => ∃ ws rest, vs = ws ++ rest ∧ ws.length = m ∧ rest.length ≤ 1000 ∧
    ∀ p, kn2 p = none → B (ws ++ [.ref p]) (upd kn2 p (.tup rest)) (fun v k => Q v k n2) (fun cls d k => EA cls d k n2)) : W c (tSMeth C (spStar m B) E ta t σ) kn n Q :=
  fun H g Q' q => h H g _ fun x kn1 n1 H1 ⟨e, h1⟩ g1 => ⟨e, h1 H1 g1 _ fun vs kn2 n2 H2 ⟨ws, rest, e1, e2, e3, h2⟩ g2 => ⟨ws, rest, e1, e2, Nat.le_trans e3 (by rw [sizeLine_eq]; decide), fun p hp => sp_call hm hE (h2 p (g2.free hp)) _ (g2.new hp) Q' q⟩⟩
theorem i_seqV {i : Nat} {a : Addr} {xs : List V} (hv : σ[i]? = some (some (.ref a))) (h : (kn a = some (.lst xs) ∧ R (Itl K a) kn n) ∨ (kn a = some (.tup xs) ∧ R (Itt K a) kn n)) : WI c (iSeq K (tVar i) σ) kn n R := by
  intro H g R' q
  rcases h with ⟨ha, h⟩ | ⟨ha, h⟩
  · exact .inl (i_list (w_var hv ⟨a, xs, rfl, ha, h⟩) H g R' q)
  · exact .inr (i_tup (w_var hv ⟨a, xs, rfl, ha, h⟩) H g R' q)
theorem r_isiT {x : V} {tp : Addr} {cs : List V} {t : Value} {us : List Value} {b : Bool} (h : kn tp = some (.tup cs)) (p : Paired ClsV cs us) (ty : TyX K kn x t) (e : PySem.W.kitAny K t us = some b) (q : Q (.bl b) kn n) : W c (rIsiT K [x, .ref tp]) kn n Q :=
  fun H g _ f => ⟨x, tp, cs, t, us, b, rfl, g.ex _ _ h, p, tyx_ext g.ex ty, e, f _ kn n H q g⟩
theorem r_allQ {a : Addr} {bs : List Bool} (h : kn a = some (.lst (bs.map V.bl))) (q : Q (.bl (bs.all id)) kn n) : W c (rAllQ K [.ref a]) kn n Q := fun H g _ k => ⟨a, bs, rfl, sql (g.ex _ _ h), k _ kn n H q g⟩
theorem r_inQ {x : V} {p : Addr} {xs : List V} {neg : Bool} (h : kn p = some (.lst xs) ∨ kn p = some (.tup xs)) (h1 : flatV x = true) (h2 : xs.all flatV = true) (q : Q (.bl (if neg then !inV x xs else inV x xs)) kn n) : W c (rInQ K neg x (.ref p)) kn n Q :=
  fun H g _ k => ⟨p, xs, rfl, h.imp (fun z => sql (g.ex _ _ z)) (fun z => sqt (g.ex _ _ z)), h1, h2, k _ kn n H q g⟩
end
end AW

/-! raise .. from None in a handler; an error with two fields; a classmethod. -/
namespace L2
open PySem PySem.Spec PyProof.Rows
theorem Fun.okH {P : Program} {w : World} {K : PySem.W.Frag} {mg : Str → Option Value} {base : Heap} {x qual : Str} {st : Stmt} {f : Addr} {fd : FuncData} {N ps : List Str} {k : Nat} {sp : Sp} (F : Fun K x qual st f fd) (S : FnScope N ps (defScope st)) (len : ∀ vs H Q E, sp vs H Q E → vs.length = ps.length)
    (hbody : ∀ (cdv : Value) (A : Around) (outer : List Env) (s : Shared) (H : Hp) (vs : List V) (Q : VK) (E : XK) (p : Addr × Obj), L2H.RoomH k (A.deeper (envOfC qual (defScope st) s.heap.objs.size f cdv)) → sp vs H Q E →
      ∃ t, PSs (L2H.cxH CX0 P w K mg base N qual (defScope st) f cdv A outer s H E p) (defBody st) t ∧ t { nx := fun _ H' => Q .non H', rt := Q } (start N vs) H) : L2H.FnH P w K mg base CX0 (k + 1) f fd ps sp := by
  obtain ⟨oc, od, kV, doc, pm, an, cdv, ct, osl, rfl, lk, hcd⟩ := F.ex
  exact L2H.fn_ofH lk hcd S len fun A outer s H vs Q E p hp hr hsp => hbody cdv A outer s H vs Q E p hr hsp
/-- an error class whose __init__ sets two fields -/
def spX2 (K : PySem.W.Frag) (f g : Str) : Sp := fun vs H Q _ => ∃ (a C : Addr) (y z : V), vs = [.ref a, y, z] ∧ OexC K C ∧ PySem.W.findIn K (.ref C) f = some none ∧ PySem.W.findIn K (.ref C) g = some none ∧ H a = some (exo a C none) ∧
  ∀ dx, H dx = none → dx ≠ a → Q .non (upd (upd (upd H dx (exd dx [(f, y)])) a (exo a C (some dx))) dx (exd dx [(g, z), (f, y)]))
theorem x2_end {H : Hp} {a d : Addr} {o1 o2 o3 o4 o5 : HO} (ha : H a = none) (hd : d ≠ a) : upd (del (upd (upd (upd (upd H a o1) d o2) a o3) d o5) a) d o4 = upd H d o4 := by
  funext x
  by_cases h1 : x = d
  · rw [h1, upd_same, upd_same]
  · rw [upd_ne h1, upd_ne h1]
    by_cases h2 : x = a
    · rw [h2, del_same, ha]
    · rw [del_ne h2, upd_ne h1, upd_ne h2, upd_ne h1, upd_ne h2]
end L2
namespace AW
open PySem PySem.Spec PyProof.Rows L2
section
variable {c : Cw} {kn : Hp} {n : Nat} {σ : L2.St} {K : PySem.W.Frag} {D : AE} {E : XK} {EA : EAK}
theorem s_raise2 {C : Addr} {f g : Str} {ta : TA} (oc : OexC K C) (hf : PySem.W.findIn K (.ref C) f = some none) (hg : PySem.W.findIn K (.ref C) g = some none) (hE : ErrOk c EA E)
    (h : W c (ta σ) kn n fun vs kn1 n1 => ∃ y z, vs = [y, z] ∧ ∀ d, kn1 d = none → EA (.ref C) (some d) (upd kn1 d (.xd [(g, z), (f, y)])) n1) :
    WS c (fun _ σ H => tMkO C (spX2 K f g) [] ta σ H fun cls d H' => E cls d H') D σ kn n :=
  fun H g0 D' fit => h H g0 _ fun vs kn1 n1 H1 ⟨y, z, e, h1⟩ g1 => by
    subst e
    refine ⟨Nat.le_add_left 2 998, fun a ha => ⟨a, C, y, z, rfl, oc, hf, hg, upd_same, fun d hd hda => ⟨rfl, d, [(g, z), (f, y)], ?_, upd_same, ?_, ?_⟩⟩⟩
    · rw [upd_ne (Ne.symm hda), upd_same]
    · rw [upd_ne hda] at hd
      exact hd
    · rw [upd_ne hda] at hd
      rw [x2_end ha hda]
      exact hE _ _ _ _ _ (h1 d (g1.free hd)) (g1.new hd)
/-- try .. except C: suite (that ends in another error) -/
theorem s_tryO {cv : Value} {tb : WX → TS} {ts : Addr → Value → Option Addr → TS} {Wout : WX}
    (h : ∀ H (D' : Ends), Good c kn n H → Fits c D D' → tb (wOnly K cv ts Wout D') D' σ H) : WS c (fun D' σ H => tb (wOnly K cv ts Wout D') D' σ H) D σ kn n :=
  fun H g D' fit => h H D' g fit
end
end AW
namespace L2
open PySem PySem.Spec PyProof.Rows ClX
section
variable {X : Cx} {CX : CXT} {k : Nat} {f C p : Addr} {mc : Value} {m : Str} {fd : FuncData} {ps : List Str} {B : List V → Hp → AW.AK → AW.AXK → Prop} {E : XK}
end
end L2

/-! Own errors made: as values, and in a raise whose error may be caught and followed by another. -/
namespace L2
open PySem PySem.Spec PyProof.Rows
theorem Fun.okXN {P : Program} {w : World} {K : PySem.W.Frag} {mg : Str → Option Value} {base : Heap} {x qual : Str} {st : Stmt} {f : Addr} {fd : FuncData} {N ps : List Str} {k : Nat} {sp : Sp} (F : Fun K x qual st f fd) (S : FnScope N ps (defScope st)) (len : ∀ vs H Q E, sp vs H Q E → vs.length = ps.length)
    (hbody : ∀ (cdv : Value) (A : Around) (outer : List Env) (s : Shared) (H : Hp) (vs : List V) (Q : VK) (E : XK), Room k (A.deeper (envOfC qual (defScope st) s.heap.objs.size f cdv)) → sp vs H Q E →
      ∃ t, PSs (cxOf (L2N.CX P w) P w K mg base N qual (defScope st) f cdv A outer s H E) (defBody st) t ∧ t { nx := fun _ H' => Q .non H', rt := Q } (start N vs) H) : FnOk P w K mg base (L2N.CX P w) (k + 1) f fd ps sp := by
  obtain ⟨oc, od, kV, doc, pm, an, cdv, ct, osl, rfl, lk, hcd⟩ := F.ex
  exact ⟨len, fun A outer s H args us vs Q E hr e0 hb r hsp => LamX.run_ofS lk hcd S hr e0 hb r (len _ _ _ _ hsp) fun hr' => hbody cdv A outer s H vs Q E hr' hsp⟩
theorem passLN {X : Cx} : Passes (L2N.CX X.prog X.w) X E0 := fun pins σ H s e s' _ h => by
  obtain ⟨a, B, H', cls, d, _, _, _, _, _, _, _, z⟩ := h
  exact z.elim
section
variable {X : Cx} {CX : CXT} {k : Nat} {C fI : Addr} {fd : FuncData} {ps : List Str} {sp : Sp} {ds : List Value} {dvs : List V} {pins : List (Addr × Obj)} {σ : St} {H : Hp} {s : Shared} {us : List Value} {vs : List V}
theorem oex_core (T : OexC X.K C) (iC : PySem.W.findIn X.K (.ref C) "__init__" = some (some (.ref fI))) (tI : PySem.W.typeIn X.K (.ref fI) = some (.type "function")) (F : FnOk X.prog X.w X.K X.mg X.base CX k fI fd ps sp) (hr : Room (k + 1) X.A) (hb : Binds X.K fd ps ds) (hd : Vals dvs ds)
    (hx : Passes CX X (fun _ _ _ => False)) (I : Inv X pins σ H s) (rv : Vals vs us) (hl : vs.length ≤ 1000) {QQ : Addr → Hp → Prop} {R : Value → Shared → Prop}
    (hsp : ∀ a, H a = none → sp (.ref a :: (vs ++ dvs)) (upd H a (exo a C none)) (fun v H2 => v = .non ∧ QQ a H2) (fun _ _ _ => False))
    (fin : ∀ (a : Addr) (s2 s' : Shared) (H2 : Hp), H a = none → s.heap.objs.size ≤ a → (∀ b o, s.heap.get? b = some o → s2.heap.get? b = some o) → Inv X pins σ (upd H a (exo a C none)) s2 → s2.os = s.os →
      s'.os = s2.os → AllBare s'.gens → Un (frs X.stack) [] (upd H a (exo a C none)) H2 s2.heap s'.heap → HOk X.prog X.w H2 s'.heap → QQ a H2 → R (.ref a) s') :
    wpAny (model X.prog X.w) X.A (call (.ref C) us) R X.xe s := by
  obtain ⟨hp, g, d, t, os⟩ := s
  obtain ⟨nm, q, N, bs, bm, sn, sub, ab, col, dd, k0, k1, k2, k3, k5, lk, hbm⟩ := T.cls
  have hlu : us.length ≤ 1000 := by rw [← rv.length]; exact hl
  have keeps : ∀ b o, hp.get? b = some o → ((hp.push (PySem.W.kdv_tup us)).push (HandSPX.excO C hp.objs.size)).get? b = some o := fun b o e => Heap.get?_push_of_some _ (Heap.get?_push_of_some _ e)
  have hn : H (hp.objs.size + 1) = none := I.hok.fresh (Nat.le_succ _)
  have hsz : (hp.push (PySem.W.kdv_tup us)).objs.size = hp.objs.size + 1 := by simp [Heap.push]
  have I2 : Inv X pins σ (upd H (hp.objs.size + 1) (exo (hp.objs.size + 1) C none)) ⟨(hp.push (PySem.W.kdv_tup us)).push (HandSPX.excO C hp.objs.size), g, d, t, os⟩ :=
    I.laid (t' := t) keeps (Nat.le_succ _) (exo_ok (t1 := hp.objs.size) (by rw [← hsz]; exact Heap.get?_push_size _ rfl))
  refine wpAny_call ?_
  refine HandSPX.call_own PySem.F.excBase_ValueError (fun Y => HandSPX.refsVE_contains Y _ hbm) (I.kIn _ _ lk) (PySem.W.looks_findIn I.kIn iC) (fun self => PySem.W.bind_fn I.kIn self tI) (Nat.le_trans hlu (by rw [sizeLine_eq]; decide)) ?_
  have rr : Vals (V.ref (hp.objs.size + 1) :: (vs ++ dvs)) (Value.ref (hp.objs.size + 1) :: us ++ ds) := .cons rfl (rv.append hd)
  have hlen : (Value.ref (hp.objs.size + 1) :: us ++ ds).length = ps.length := by rw [← rr.length]; exact F.len _ _ _ _ (hsp _ hn)
  have e2 := I2.env0
  refine codeAny_mono (F.run (X.A.under (.builtin "type.__call__" { pos := .ref C :: us })) X.stack _ _ ⟨.ref (hp.objs.size + 1) :: us, []⟩ (.ref (hp.objs.size + 1) :: us ++ ds) (.ref (hp.objs.size + 1) :: (vs ++ dvs)) _ _ (hr.make C us []) ⟨e2.frames, e2.mod, e2.bs, e2.bsz, e2.funs, e2.frf, e2.hok, e2.bare⟩ (hb _ (.ref (hp.objs.size + 1) :: us) I2.kIn hlen) rr (hsp _ hn)) fun r s' hq => ?_
  cases r with
  | error e => exact hx pins σ _ _ e s' I2 hq
  | ok fl =>
    cases fl with
    | ret u =>
      obtain ⟨v, H2, os', bare, un, hok, rel, ev, q⟩ := hq
      subst ev
      exact ⟨rel, fin _ _ _ _ hn (Nat.le_succ _) keeps I2 rfl os' bare un hok q⟩
    | next => exact False.elim hq
    | brk => exact False.elim hq
    | cont => exact False.elim hq
variable {x : Str} {e : Expr} {es : List Expr} {ta : TA} {p pos : Pos}
/-- an own error made, as a value -/
def tMkV (C : Addr) (sp : Sp) (dvs : List V) (ta : TA) : TE := fun σ H Q => ta σ H fun vs H1 => vs.length ≤ 1000 ∧ ∀ a, H1 a = none → sp (.ref a :: (vs ++ dvs)) (upd H1 a (exo a C none)) (fun v H2 => v = .non ∧ Q (.ref a) H2) (fun _ _ _ => False)
theorem pe_oexV (T : OexC X.K C) (iC : PySem.W.findIn X.K (.ref C) "__init__" = some (some (.ref fI))) (tI : PySem.W.typeIn X.K (.ref fI) = some (.type "function")) (F : FnOk X.prog X.w X.K X.mg X.base CX k fI fd ps sp) (hr : Room (k + 1) X.A) (hb : Binds X.K fd ps ds) (hd : Vals dvs ds)
    (hx : Passes CX X (fun _ _ _ => False)) (hg : Gl X x) (hm : X.mg x = some (.ref C)) (ha : PA X (e :: es) ta) (hdb : (x == ("__debug__" : Str)) = false := by decide) (he : starEach (e :: es) X.env = (false, eval e X.env) :: starEach es X.env := by rfl) (hpl : (backTo pos (starEach es X.env)).any (·.1) = false := by rfl) :
    PE X (.Call (.Name x p) (e :: es) [] pos) (tMkV C sp dvs ta) := by
  refine ⟨fun pins s σ H Q I h => wpAny_Call_Name_kw (ld_glob I hg hm ?_ hdb)⟩
  refine PySem.W.callWith_K (h₀ := X.base) I.ok.mod.kin T.kC (thn (ha.run pos pins s σ H _ I h) fun us s1 ⟨vs, H1, I1, r, hl, q⟩ => ⟨I1.kIn, ?_⟩) he hpl
  refine oex_core T iC tI F hr hb hd hx I1 r hl (QQ := fun a H2 => Q (.ref a) H2) q fun a s2 s' H2 hn hs kp I2 os2 os' bare un hok hq => ?_
  exact I2.after ⟨.ref a, H2, os', bare, un, hok, rfl, hq⟩
theorem pmkN_oex (T : OexC X.K C) (iC : PySem.W.findIn X.K (.ref C) "__init__" = some (some (.ref fI))) (tI : PySem.W.typeIn X.K (.ref fI) = some (.type "function")) (F : FnOk X.prog X.w X.K X.mg X.base CX k fI fd ps sp) (hr : Room (k + 1) X.A) (hb : Binds X.K fd ps ds) (hd : Vals dvs ds)
    (hx : Passes CX X (fun _ _ _ => False)) (hg : Gl X x) (hm : X.mg x = some (.ref C)) (ha : PA X (e :: es) ta) (hdb : (x == ("__debug__" : Str)) = false := by decide) (he : starEach (e :: es) X.env = (false, eval e X.env) :: starEach es X.env := by rfl) (hpl : (backTo pos (starEach es X.env)).any (·.1) = false := by rfl) :
    L2N.PMk X (.Call (.Name x p) (e :: es) [] pos) (tMkO C sp dvs ta) := by
  intro pins s σ H Q I h
  refine wpAny_Call_Name_kw (ld_glob I hg hm ?_ hdb)
  refine PySem.W.callWith_K (h₀ := X.base) I.ok.mod.kin T.kC (thn (ha.run pos pins s σ H _ I h) fun us s1 ⟨vs, H1, I1, r, hl, q⟩ => ⟨I1.kIn, ?_⟩) he hpl
  refine oex_core T iC tI F hr hb hd hx I1 r hl (QQ := fun a H2 => ∃ d fs, H2 a = some (exo a C (some d)) ∧ H2 d = some (exd d fs) ∧ H1 d = none ∧ Q (.ref C) (some d) (upd (del H2 a) d (.xd fs))) q fun a s2 s' H2 hn hs kp I2 os2 os' bare un hok hq => ?_
  obtain ⟨d, fs, h1, h2, h3, hq⟩ := hq
  obtain ⟨hp, g1, d1, t1, os1⟩ := s1
  obtain ⟨hp2, g2, d2, t2, osx⟩ := s2
  obtain ⟨h', g', d', t', os3⟩ := s'
  obtain ⟨t0, G, IG, kG, nG, gG, nH⟩ := mk_end0 I1 hs kp un hok (os'.trans os2) bare h1 h2 h3
  refine ⟨a, _, _, ⟨G, g', d', t', os3⟩, _, _, _, rfl, IG, kG, nG, gG, ⟨rfl, rfl, fun vs hv => ?_⟩, rfl, rfl, nH, rfl, bare, ?_, hq⟩
  · cases hv
    rfl
  · exact raises_own T.exC T.tyC
end
end L2
namespace AW
open L2
theorem takesN_len {X : Cx} {W : WX} {m : Nat} (tk : L2N.Takes X W) (h : X.N.length = m := by rfl) : L2N.Takes X (fun cls d σ H => σ.length = m → W cls d σ H) :=
  fun u s' ⟨a, B, sI, pins, σ, H, cls, d, e, I, nb, up, sky, na, os, ag, w⟩ => tk u s' ⟨a, B, sI, pins, σ, H, cls, d, e, I, nb, up, sky, na, os, ag, w (I.len.trans h)⟩
end AW

/-! Texts of integers: what is read back is what was written. -/
namespace L2
namespace Tx1
open PySem PySem.NumText TL
/-- the text of an integer -/
abbrev dS (i : Int) : Str := Str.ofString (toString i)
theorem dS_nat (n : Nat) : tl (dS n) = numL n := tl_num n
theorem dS_neg {n : Nat} (h : 0 < n) : tl (dS (-(n : Int))) = 45 :: numL n := by
  obtain ⟨m, rfl⟩ : ∃ m, n = m + 1 := ⟨n - 1, by omega⟩
  have e : (toString (-((m + 1 : Nat) : Int))) = "-" ++ toString (((m + 1 : Nat) : Int)) := by
    have : (-((m + 1 : Nat) : Int)) = Int.negSucc m := by omega
    rw [this]
    rfl
  show tl (Str.ofString (toString (-((m + 1 : Nat) : Int)))) = _
  rw [e, tl_ofString, String.toList_append, List.map_append, ← tl_ofString (toString _)]
  rw [tl_num]
  rfl
theorem dS_cases (i : Int) : (∃ n : Nat, i = n ∧ tl (dS i) = numL n) ∨ (∃ n : Nat, 0 < n ∧ i = -(n : Int) ∧ tl (dS i) = 45 :: numL n) := by
  rcases Int.lt_or_le i 0 with h | h
  · refine .inr ⟨i.natAbs, by omega, by omega, ?_⟩
    have e : i = -((i.natAbs : Nat) : Int) := by omega
    have := dS_neg (n := i.natAbs) (by omega)
    rw [← e] at this
    exact this
  · refine .inl ⟨i.natAbs, by omega, ?_⟩
    have e : i = ((i.natAbs : Nat) : Int) := by omega
    have := dS_nat i.natAbs
    rw [← e] at this
    exact this
theorem numL_no45 (n : Nat) : ¬ 45 ∈ numL n := numL_free (.inl (by decide))
theorem dS_free {c : Nat} (h : c ≠ 45) (h2 : c < 48 ∨ 57 < c) (i : Int) : ¬ c ∈ tl (dS i) := by
  rcases dS_cases i with ⟨n, _, e⟩ | ⟨n, _, _, e⟩ <;> rw [e]
  · exact numL_free h2
  · intro hm
    rcases List.mem_cons.1 hm with hm | hm
    · exact h hm
    · exact numL_free h2 hm
theorem ext_str {a b : Str} (h : tl a = tl b) : a = b := by
  have := congrArg (fun l => ({ cps := l.toArray } : Str)) h
  exact (mk_tl a).symm.trans (this.trans (mk_tl b))
theorem dS_inj {i j : Int} (h : dS i = dS j) : i = j := by
  have h := congrArg tl h
  rcases dS_cases i with ⟨n, rfl, e⟩ | ⟨n, hn, rfl, e⟩ <;> rcases dS_cases j with ⟨m, rfl, e2⟩ | ⟨m, hm, rfl, e2⟩ <;> rw [e, e2] at h
  · rw [numL_inj h]
  · exact absurd (h ▸ List.mem_cons_self) (numL_no45 n)
  · exact absurd (h.symm ▸ List.mem_cons_self) (numL_no45 m)
  · rw [numL_inj (List.cons.inj h).2]
/-- the figures of a text without leading zeros -/
def canon (l : List Nat) : List Nat := match l.dropWhile (· == 48) with
  | [] => [48]
  | c :: r => c :: r
theorem toNat_ofNat {c : Nat} (h : 48 ≤ c ∧ c ≤ 57) : (Char.ofNat c).toNat = c := by
  obtain ⟨h1, h2⟩ := h
  have : ∀ c : Nat, c < 58 → (Char.ofNat c).toNat = c := by decide
  exact this c (by omega)
theorem mem_dropWhile {p : Nat → Bool} {c : Nat} : ∀ {l : List Nat}, c ∈ l.dropWhile p → c ∈ l
  | [], h => h
  | a :: l, h => by
    rw [List.dropWhile_cons] at h
    split at h
    · exact List.mem_cons_of_mem _ (mem_dropWhile h)
    · exact h
theorem numL_val_canon {l : List Nat} (h : AllDigits l) : numL (digitsVal l) = canon l := by
  unfold numL canon
  rw [toDigits_all l h]
  have hd : ∀ c ∈ l.dropWhile (· == 48), 48 ≤ c ∧ c ≤ 57 := fun c hc => h c (mem_dropWhile hc)
  revert hd
  generalize l.dropWhile (· == 48) = d
  intro hd
  cases d with
  | nil => rfl
  | cons c r =>
    show List.map Char.toNat (List.map Char.ofNat (c :: r)) = c :: r
    rw [List.map_map]
    exact (List.map_congr_left (fun a ha => toNat_ofNat (hd a ha))).trans (List.map_id _)
theorem len_dropWhile_le {p : Nat → Bool} : ∀ l : List Nat, (l.dropWhile p).length ≤ l.length
  | [] => Nat.le_refl _
  | a :: l => by
    rw [List.dropWhile_cons]
    split
    · have := len_dropWhile_le (p := p) l
      simp only [List.length_cons]
      omega
    · exact Nat.le_refl _
theorem canon_eq {l : List Nat} (hne : l ≠ []) : canon l = l ↔ (l = [48] ∨ l.head? ≠ some 48) := by
  cases l with
  | nil => exact absurd rfl hne
  | cons a r =>
    by_cases ha : a = 48
    · subst ha
      constructor
      · intro h
        left
        unfold canon at h
        rw [List.dropWhile_cons] at h
        simp only [BEq.rfl, if_true] at h
        have hl := len_dropWhile_le (p := (· == 48)) r
        revert h
        generalize hd : r.dropWhile (· == 48) = d
        rw [hd] at hl
        intro h
        cases d with
        | nil => exact h.symm
        | cons c t =>
          exfalso
          have := congrArg List.length h
          simp only [List.length_cons] at this hl
          omega
      · rintro (h | h)
        · rw [h]; rfl
        · exact absurd rfl h
    · constructor
      · intro _
        right
        simpa using ha
      · intro _
        unfold canon
        rw [List.dropWhile_cons]
        have : (a == 48) = false := by simpa using ha
        simp [this]
theorem val_lt : ∀ (k : Nat) (l : List Nat), AllDigits l → l.length ≤ k → digitsVal l < 10 ^ k := by
  intro k
  induction k with
  | zero =>
    intro l h hl
    have : l = [] := List.length_eq_zero_iff.1 (by omega)
    subst this
    decide
  | succ k ih =>
    intro l h hl
    rcases List.eq_nil_or_concat l with rfl | ⟨r, c, rfl⟩
    · show 0 < _
      exact Nat.pos_of_ne_zero (by simp)
    · rw [List.concat_eq_append] at h hl ⊢
      have hr := ih r (fun x hx => h x (List.mem_append_left _ hx)) (by simp at hl; omega)
      have hc := h c (List.mem_append_right _ (List.mem_singleton.2 rfl))
      rw [digitsVal_snoc]
      have : 10 ^ (k + 1) = 10 ^ k * 10 := rfl
      omega
end Tx1
end L2

namespace L2
namespace Tx1
open PySem PySem.NumText TL SX
abbrev minusS : Str := S [45]
abbrev plusS : Str := S [43]
theorem subAt_hd (w : Str) (c : Nat) : (decide (0 + (S [c]).length ≤ w.length) && Builtin.Str.subAt w (S [c]) 0) = decide ((tl w).head? = some c) := by
  unfold Builtin.Str.subAt
  have e1 : (S [c]).length = 1 := rfl
  rw [e1]
  obtain ⟨⟨l⟩⟩ := w
  cases l with
  | nil => simp [tl, Str.length]
  | cons a r =>
    simp only [Str.length, tl]
    by_cases h : a = c
    · subst h
      simp [S]
    · simp [S, h]
theorem rp_tl (w : Str) : tl (Txt.removeprefix w minusS) = if (tl w).head? = some 45 then (tl w).drop 1 else tl w := by
  rw [StrLaws.removeprefix_eq, subAt_hd]
  by_cases h : (tl w).head? = some 45
  · simp only [h, decide_true, if_true]
    show List.take _ _ = _
    have e1 : minusS.length = 1 := rfl
    rw [e1]
    apply List.take_of_length_le
    simp [Str.length]
  · simp [h]
theorem dec128 : ∀ c : Nat, c < 128 → Unicode.isDecimal c = (decide (48 ≤ c) && decide (c ≤ 57)) := by decide +kernel
theorem decimal_iff {d : Str} (ha : ∀ c ∈ tl d, c < 128) : Txt.isdecimal d = true ↔ tl d ≠ [] ∧ AllDigits (tl d) := by
  unfold Txt.isdecimal
  obtain ⟨⟨l⟩⟩ := d
  simp only [tl, Str.length] at *
  constructor
  · intro h
    simp at h
    refine ⟨by intro e; subst e; simp at h, fun c hc => ?_⟩
    have := h.2 c hc
    rw [dec128 c (ha c hc)] at this
    simpa using this
  · rintro ⟨h1, h2⟩
    simp
    refine ⟨by cases l with | nil => exact absurd rfl h1 | cons => simp, fun c hc => ?_⟩
    rw [dec128 c (ha c hc)]
    simpa using h2 c hc
/-- the text w is that of the integer n, of twelve figures at most -/
def isN (w : Str) (n : Int) : Prop := w = dS n ∧ n.natAbs < 10 ^ 12
theorem isN_uni {w : Str} {n m : Int} (h : isN w n) (g : isN w m) : n = m := dS_inj (h.1.symm.trans g.1)
theorem ascii_dS (i : Int) : ∀ c ∈ tl (dS i), c < 128 := by
  intro c hc
  rcases dS_cases i with ⟨n, _, e⟩ | ⟨n, _, _, e⟩ <;> rw [e] at hc
  · have := numL_digits n c hc
    omega
  · rcases List.mem_cons.1 hc with rfl | hc
    · decide
    · have := numL_digits n c hc
      omega
theorem head_numL (n : Nat) : (numL n).head? ≠ some 45 := by
  intro h
  exact numL_no45 n (List.mem_of_head? h)
theorem rp_dS {n : Int} : tl (Txt.removeprefix (dS n) minusS) = numL n.natAbs := by
  rw [rp_tl]
  rcases dS_cases n with ⟨m, rfl, e⟩ | ⟨m, hm, rfl, e⟩ <;> rw [e]
  · rw [if_neg (head_numL m)]
    rfl
  · rw [if_pos (show (45 :: numL m).head? = some 45 from rfl)]
    show numL m = _
    congr 1
    omega
theorem rn_no {w : Str} (h : 12 < (Txt.removeprefix w minusS).length ∨ Txt.isdecimal (Txt.removeprefix w minusS) = false) (n : Int) : ¬ isN w n := by
  rintro ⟨rfl, hn⟩
  have hl : (numL n.natAbs).length ≤ 12 := numL_len (by decide) hn
  have e := @rp_dS n
  rcases h with h | h
  · have : (Txt.removeprefix (dS n) minusS).length = (tl (Txt.removeprefix (dS n) minusS)).length := (len_tl _).symm ▸ rfl
    rw [this, e] at h
    omega
  · have : Txt.isdecimal (Txt.removeprefix (dS n) minusS) = true := (decimal_iff (by rw [e]; intro c hc; have := numL_digits _ c hc; omega)).2 (by rw [e]; exact ⟨numL_ne _, numL_digits _⟩)
    rw [h] at this
    exact absurd this (by decide)
theorem lenT (w : Str) : w.length = (tl w).length := by simp [Str.length, tl]
theorem int_dS {n : Int} (hn : n.natAbs < 10 ^ 12) : intText? (dS n) = some n := by
  have hl : (numL n.natAbs).length ≤ 12 := numL_len (by decide) hn
  rcases dS_cases n with ⟨m, rfl, e⟩ | ⟨m, hm, rfl, e⟩
  · exact int_num (by have : (m : Int).natAbs = m := by omega
                      rw [this] at hl; omega)
  · have : (-(m : Int)).natAbs = m := by omega
    rw [this] at hl
    rw [intText_neg e (numL_digits m) (numL_ne m) (by rw [lenT, e]; simp only [List.length_cons]; omega), numL_val]
theorem rn_yes {w : Str} (ha : ∀ c ∈ tl w, c < 128) (hl : (Txt.removeprefix w minusS).length ≤ 12) (hd : Txt.isdecimal (Txt.removeprefix w minusS) = true) : ∃ n, intText? w = some n ∧ n.natAbs < 10 ^ 12 ∧ w.length ≤ 13 ∧ (∀ m, isN w m → m = n) := by
  have e := rp_tl w
  rw [lenT] at hl
  have hd := (decimal_iff (by
    rw [e]
    split
    · exact fun c hc => ha c (List.mem_of_mem_drop hc)
    · exact ha)).1 hd
  revert hl hd
  rw [e]
  by_cases h : (tl w).head? = some 45
  · rw [if_pos h]
    obtain ⟨r, hr⟩ : ∃ r, tl w = 45 :: r := by
      cases hw : tl w with
      | nil => rw [hw] at h; exact absurd h (by decide)
      | cons a r => rw [hw] at h; exact ⟨r, by rw [Option.some.inj h]⟩
    rw [hr]
    simp only [List.drop_succ_cons, List.drop_zero]
    rintro hl ⟨h1, h2⟩
    have hi := intText_neg (x := w) hr h2 h1 (by rw [lenT, hr]; simp only [List.length_cons]; omega)
    refine ⟨_, hi, ?_, by rw [lenT, hr]; simp only [List.length_cons]; omega, fun m hm => ?_⟩
    · have := val_lt 12 r h2 hl
      omega
    · rw [hm.1, int_dS hm.2] at hi
      exact Option.some.inj hi
  · rw [if_neg h]
    rintro hl ⟨h1, h2⟩
    have hi : intText? w = some ((digitsVal (tl w) : Nat) : Int) := intText_digits (x := w) h2 h1 (by rw [lenT]; omega)
    refine ⟨_, hi, ?_, by rw [lenT]; omega, fun m hm => ?_⟩
    · have := val_lt 12 _ h2 hl
      omega
    · have h3 := int_dS hm.2
      rw [← hm.1, hi] at h3
      exact (Option.some.inj h3).symm
/-- the text w is that of a number from 0 on of k figures at most -/
def isC (k : Nat) (w : Str) : Prop := ∃ n : Nat, n < 10 ^ k ∧ w = dS n
theorem cnt_yes {k : Nat} {w : Str} (hd : AllDigits (tl w)) (hne : tl w ≠ []) (hl : w.length ≤ k) (h : tl w = [48] ∨ (tl w).head? ≠ some 48) : isC k w := by
  refine ⟨digitsVal (tl w), val_lt k _ hd (by rw [← lenT]; exact hl), ext_str ?_⟩
  rw [dS_nat, numL_val_canon hd]
  exact ((canon_eq hne).2 h).symm
theorem cnt_no {k : Nat} {w : Str} (hk : 0 < k) (h : isC k w) : AllDigits (tl w) ∧ tl w ≠ [] ∧ w.length ≤ k ∧ (tl w = [48] ∨ (tl w).head? ≠ some 48) := by
  obtain ⟨n, hn, rfl⟩ := h
  rw [lenT, dS_nat]
  refine ⟨numL_digits n, numL_ne n, numL_len hk hn, (canon_eq (numL_ne n)).1 ?_⟩
  rw [← numL_val_canon (numL_digits n), numL_val]
/-- the law's bare text of head -/
def bareOf (h : Str) : Str := if (tl h).head? = some 45 then S ((tl h).drop 1) else h
theorem isN_bare {h : Str} : (isC 12 (bareOf h) ∧ h ≠ S [45, 48]) ↔ ∃ f, isN h f := by
  unfold bareOf
  constructor
  · rintro ⟨⟨n, hn, e⟩, h0⟩
    by_cases hh : (tl h).head? = some 45
    · rw [if_pos hh] at e
      obtain ⟨r, hr⟩ : ∃ r, tl h = 45 :: r := by
        cases hw : tl h with
        | nil => rw [hw] at hh; exact absurd hh (by decide)
        | cons a r => rw [hw] at hh; exact ⟨r, by rw [Option.some.inj hh]⟩
      rw [hr] at e
      have e2 : r = numL n := by
        have := congrArg tl e
        rw [dS_nat] at this
        exact this
      have n0 : 0 < n := by
        apply Nat.pos_of_ne_zero
        rintro rfl
        apply h0
        apply ext_str
        rw [hr, e2]
        rfl
      refine ⟨-(n : Int), ext_str ?_, by omega⟩
      rw [dS_neg n0, hr, e2]
    · rw [if_neg hh] at e
      exact ⟨n, e, by omega⟩
  · rintro ⟨f, rfl, hf⟩
    rcases dS_cases f with ⟨m, rfl, e⟩ | ⟨m, hm, rfl, e⟩
    · rw [if_neg (by rw [e]; exact head_numL m)]
      refine ⟨⟨m, by omega, rfl⟩, fun hx => ?_⟩
      have := congrArg tl hx
      rw [e] at this
      exact numL_no45 m (this ▸ List.mem_cons_self)
    · rw [if_pos (by rw [e]; rfl), e]
      refine ⟨⟨m, by omega, ext_str (by rw [dS_nat]; rfl)⟩, fun hx => ?_⟩
      have := congrArg tl hx
      rw [e] at this
      have h2 := (List.cons.inj this).2
      have : digitsVal (numL m) = digitsVal [48] := by rw [h2]
      rw [numL_val] at this
      have z : digitsVal [48] = 0 := rfl
      omega
end Tx1
end L2

namespace L2
namespace Tx1
open PySem PySem.NumText TL SX
/-- what a text of a stay tells -/
def okT (f n : Int) : Prop := f.natAbs < 10 ^ 12 ∧ 1 ≤ n ∧ n ≤ 400 ∧ f + n < 10 ^ 12
def txt (f n : Int) : Str := dS f ++ plusS ++ dS n
def isT (x : Str) : Prop := ∃ f n, okT f n ∧ x = txt f n
theorem plus_free (i : Int) : ¬ 43 ∈ tl (dS i) := dS_free (by decide) (by decide) i
theorem tl_txt (f n : Int) : tl (txt f n) = tl (dS f) ++ 43 :: tl (dS n) := by
  unfold txt
  rw [tl_append, tl_append]
  show _ ++ [43] ++ _ = _
  rw [List.append_assoc]
  rfl
theorem kind_plus (x : Str) : ¬ Builtin.Str.strKind x < Builtin.Str.strKind plusS := by
  have : Builtin.Str.strKind plusS = 1 := by decide +kernel
  rw [this]
  unfold Builtin.Str.strKind
  split
  · decide
  · split <;> decide
theorem split_txt (f n : Int) : Txt.split (txt f n) plusS = [dS f, dS n] := by
  apply map_tl_inj
  rw [split_spl _ _ (by decide) (kind_plus _), tl_txt]
  show spl [43] 0 [] _ = _
  have h := spl_part1 (s := 43) (S := []) (p := tl (dS f)) (rest := tl (dS n)) (acc := []) (plus_free f)
  simp only [List.singleton_append, List.nil_append] at h
  rw [h, spl_last1 (plus_free n)]
  rfl
theorem split_two {x a b : Str} (h : Txt.split x plusS = [a, b]) : x = a ++ plusS ++ b := by
  have := StrLaws.join_split x plusS
  rw [h, ← StrLaws.glued_eq_join] at this
  rw [← this]
  apply ext_str
  show (Builtin.Str.glued _ _).cps.toList = _
  rw [StrLaws.glued_list]
  rw [tl_append, tl_append]
  simp [StrLaws.glueT, StrLaws.glueL, tl]
theorem part_txt (f n : Int) : Txt.partition (txt f n) plusS = (dS f, plusS, dS n) := partition_app (s := 43) (S := []) rfl (plus_free f)
theorem part_cases (x : Str) : (¬ 43 ∈ tl x ∧ Txt.partition x plusS = (x, Str.empty, Str.empty)) ∨ (∃ h t, x = h ++ plusS ++ t ∧ Txt.partition x plusS = (h, plusS, t)) := by
  by_cases hx : 43 ∈ tl x
  · right
    obtain ⟨p, q, hp, hpq⟩ : ∃ p q, ¬ 43 ∈ p ∧ tl x = p ++ 43 :: q := by
      revert hx
      generalize tl x = l
      intro hx
      induction l with
      | nil => exact absurd hx (by simp)
      | cons a r ih =>
        by_cases ha : a = 43
        · exact ⟨[], r, by simp, by rw [ha]; rfl⟩
        · have hr : 43 ∈ r := by
            rcases List.mem_cons.1 hx with h | h
            · exact absurd h.symm ha
            · exact h
          obtain ⟨p, q, h1, h2⟩ := ih hr
          refine ⟨a :: p, q, ?_, by rw [h2]; rfl⟩
          intro hm
          rcases List.mem_cons.1 hm with h | h
          · exact ha h.symm
          · exact h1 h
    refine ⟨S p, S q, ext_str ?_, ?_⟩
    · rw [tl_append, tl_append, hpq]
      show _ = p ++ [43] ++ q
      rw [List.append_assoc]
      rfl
    · have e : x = S p ++ plusS ++ S q := ext_str (by
        rw [tl_append, tl_append, hpq]
        show _ = p ++ [43] ++ q
        rw [List.append_assoc]
        rfl)
      rw [e]
      exact partition_app (s := 43) (S := []) rfl hp
  · exact .inl ⟨hx, partition_none (s := 43) (S := []) rfl hx⟩
/-- the law's own look: what partition tells of the text -/
theorem isT_part (x : Str) : isT x ↔ ((Txt.partition x plusS).2.1 ≠ Str.empty ∧ ∃ f n, isN (Txt.partition x plusS).1 f ∧ (Txt.partition x plusS).2.2 = dS n ∧ okT f n) := by
  constructor
  · rintro ⟨f, n, ok, rfl⟩
    rw [part_txt]
    refine ⟨?_, f, n, ⟨rfl, ok.1⟩, rfl, ok⟩
    show plusS ≠ Str.empty
    decide
  · rcases part_cases x with ⟨hx, e⟩ | ⟨h, t, rfl, e⟩ <;> rw [e]
    · rintro ⟨h, _⟩
      exact absurd rfl h
    · rintro ⟨_, f, n, ⟨h1, _⟩, h2, ok⟩
      exact ⟨f, n, ok, by rw [show h = dS f from h1, show t = dS n from h2]; rfl⟩
theorem isT_split {x : Str} {a b : Str} {f n : Int} (h : Txt.split x plusS = [a, b]) (ha : isN a f) (hb : isN b n) : x = txt f n := by
  rw [split_two h, ha.1, hb.1]
  rfl
theorem txt_inj {f n g m : Int} (h : txt f n = txt g m) : f = g ∧ n = m := by
  have h := congrArg (fun x => Txt.split x plusS) h
  simp only [split_txt] at h
  exact ⟨dS_inj (List.cons.inj h).1, dS_inj (List.cons.inj (List.cons.inj h).2).1⟩
end Tx1
end L2

/-! Words of texts. -/
namespace L2
open PySem PySem.Spec PyProof.Rows Tx1
section
variable {X : Cx}
def rMRp : V → List V → Hp → VK → Prop := fun x xs H Q => ∃ a b, x = .str a ∧ xs = [.str b] ∧ a.length ≤ sizeLine ∧ Q (.str (Txt.removeprefix a b)) H
theorem m_rp : MtR X "str.removeprefix" rMRp := mt_removeprefix
def rMDec : V → List V → Hp → VK → Prop := fun x xs H Q => ∃ a, x = .str a ∧ xs = [] ∧ True ∧ Q (.bl (Txt.isdecimal a)) H
theorem m_dec : MtR X "str.isdecimal" rMDec := mt_isdecimal
def rLenS : List V → Hp → VK → Prop := fun xs H Q => ∃ a, xs = [.str a] ∧ a.length ≤ sizeLine ∧ Q (.int a.length) H
theorem c_lenS : CallR X (.builtin "len") rLenS := by
  intro pins s σ H xs us Q I r ⟨a, e, hl, q⟩
  exact call_len pins s σ H xs us Q I r ⟨.str a, a.length, e, ⟨hl, rfl⟩, q⟩
def rIntS : List V → Hp → VK → Prop := fun xs H Q => ∃ a n, xs = [.str a] ∧ intText? a = some n ∧ a.length ≤ 640 ∧ Q (.int n) H
theorem c_intS : CallR X (.type "int") rIntS := call_int_str
def rAddT : R2 := fun x y H Q => ∃ i j, x = .str i ∧ y = .str j ∧ i.length + j.length ≤ sizeLine ∧ Q (.str (i ++ j)) H
theorem op_addT : OpR X (binaryOp .Add) rAddT := op_add_str
def rNotInT : R2 := fun x y H Q => ∃ i j, x = .str i ∧ y = .str j ∧ Q (.bl !!(Builtin.Str.occurrences j i 0 j.length 1).isEmpty) H
theorem op_notInT : OpR X (compareOp .NotIn) rNotInT := op_notIn_str
def rMSplit : V → List V → Hp → VK → Prop := fun x xs H Q => ∃ a b, x = .str a ∧ xs = [.str b] ∧ (b.length == 0) = false ∧ a.length + 2 ≤ sizeLine ∧ rNewStrs (Txt.split a b) H Q
def rMPart : V → List V → Hp → VK → Prop := fun x xs H Q => ∃ a b, x = .str a ∧ xs = [.str b] ∧ (b.length == 0) = false ∧ a.length ≤ sizeLine ∧ ∀ p : Addr, H p = none → Q (.ref p) (upd H p (.tup [.str (Txt.partition a b).1, .str (Txt.partition a b).2.1, .str (Txt.partition a b).2.2]))
variable {o e : Expr} {to te : TE} {apos pos : Pos}
theorem pe_splitQ (ho : PE X o to) (he : PE X e te) (hs : starEach [e] X.env = [(false, eval e X.env)] := by rfl) (hb : attributeBase o "split" X.env (eval o X.env) = eval o X.env := by rfl) (hp : (apos.endLine == pos.line) = true := by rfl) :
    PE X (.Call (.Attribute o "split" apos) [e] [] pos) (tM1 rMSplit to te) := pe_split ho he hs hb hp
theorem pe_partQ (ho : PE X o to) (he : PE X e te) (hs : starEach [e] X.env = [(false, eval e X.env)] := by rfl) (hb : attributeBase o "partition" X.env (eval o X.env) = eval o X.env := by rfl) (hp : (apos.endLine == pos.line) = true := by rfl) :
    PE X (.Call (.Attribute o "partition" apos) [e] [] pos) (tM1 rMPart to te) := pe_partition ho he hs hb hp
def rIxZ : R2 := fun x y H Q => ∃ z i c, x = .str z ∧ y = .int i ∧ 0 ≤ i ∧ i < 2 ^ 63 ∧ i < ↑z.length ∧ z.cps[i.toNat]? = some c ∧ Q (.str { cps := #[c] }) H
theorem pe_itemZ {a b : Expr} {ta tb : TE} (ha : PE X a ta) (hb : PE X b tb) (hp : PlainIxT b) : PE X (.Subscript a b pos) (tOp rIxZ ta tb) := pe_item_str ha hb hp
end
end L2
namespace AW
open PySem PySem.Spec PyProof.Rows L2 ClX Tx1
section
variable {c : Cw} {kn : Hp} {n : Nat} {σ : L2.St} {K : PySem.W.Frag} {Q : V → Hp → Nat → Prop} {E : XK} {EA : EAK} {B : List V → Hp → AK → AXK → Prop}
theorem sz {m : Nat} (h : m ≤ 100000) : m ≤ sizeLine := Nat.le_trans h (by rw [sizeLine_eq]; decide)
theorem w_bmS {r : V → List V → Hp → VK → Prop} {to : TE} {t : TA} (h : W c (to σ) kn n fun x kn1 n1 => (∃ a, x = .str a) ∧ W c (t σ) kn1 n1 fun xs kn2 n2 => W c (r x xs) kn2 n2 Q) : W c (tBM K "str" r to t σ) kn n Q :=
  fun H g Q' q => h H g _ fun x kn1 n1 H1 ⟨⟨a, e⟩, h1⟩ g1 => ⟨by subst e; exact rfl, h1 H1 g1 _ fun xs kn2 n2 H2 h2 g2 => h2 H2 g2 Q' q⟩
theorem w_bmS0 {r : V → List V → Hp → VK → Prop} {to : TE} (h : W c (to σ) kn n fun x kn1 n1 => (∃ a, x = .str a) ∧ W c (r x []) kn1 n1 Q) : W c (tBM0 K "str" r to σ) kn n Q :=
  fun H g Q' q => h H g _ fun x kn1 n1 H1 ⟨⟨a, e⟩, h1⟩ g1 => ⟨by subst e; exact rfl, h1 H1 g1 Q' q⟩
theorem w_m1 {r : V → List V → Hp → VK → Prop} {to te : TE} (h : W c (to σ) kn n fun x kn1 n1 => (∃ a, x = .str a) ∧ W c (te σ) kn1 n1 fun y kn2 n2 => W c (r x [y]) kn2 n2 Q) : W c (tM1 r to te σ) kn n Q :=
  fun H g Q' q => h H g _ fun x kn1 n1 H1 ⟨e, h1⟩ g1 => ⟨e, h1 H1 g1 _ fun xs kn2 n2 H2 h2 g2 => h2 H2 g2 Q' q⟩
theorem r_rp {a b : Str} (hl : a.length ≤ 100000) (q : Q (.str (Txt.removeprefix a b)) kn n) : W c (rMRp (.str a) [.str b]) kn n Q := fun H g _ k => ⟨a, b, rfl, rfl, sz hl, k _ kn n H q g⟩
theorem r_dec {a : Str} (q : Q (.bl (Txt.isdecimal a)) kn n) : W c (rMDec (.str a) []) kn n Q := fun H g _ k => ⟨a, rfl, rfl, trivial, k _ kn n H q g⟩
theorem r_lenS {a : Str} (hl : a.length ≤ 100000) (q : Q (.int a.length) kn n) : W c (rLenS [.str a]) kn n Q := fun H g _ k => ⟨a, rfl, sz hl, k _ kn n H q g⟩
theorem r_intS {a : Str} {i : Int} (hi : intText? a = some i) (hl : a.length ≤ 640) (q : Q (.int i) kn n) : W c (rIntS [.str a]) kn n Q := fun H g _ k => ⟨a, i, rfl, hi, hl, k _ kn n H q g⟩
theorem r_addT {a b : Str} (hl : a.length + b.length ≤ 100000) (q : Q (.str (a ++ b)) kn n) : W c (rAddT (.str a) (.str b)) kn n Q := fun H g _ k => ⟨a, b, rfl, rfl, sz hl, k _ kn n H q g⟩
theorem r_notInT {a b : Str} (q : Q (.bl !!(Builtin.Str.occurrences b a 0 b.length 1).isEmpty) kn n) : W c (rNotInT (.str a) (.str b)) kn n Q := fun H g _ k => ⟨a, b, rfl, rfl, k _ kn n H q g⟩
theorem r_split {a b : Str} (hb : (b.length == 0) = false) (hl : a.length + 2 ≤ 100000) (q : ∀ p, kn p = none → Q (.ref p) (upd kn p (.lst ((Txt.split a b).map V.str))) n) : W c (rMSplit (.str a) [.str b]) kn n Q :=
  fun H g _ k => ⟨a, b, rfl, rfl, hb, sz hl, fun p hp => k _ _ n _ (q p (g.free hp)) (g.new hp)⟩
theorem r_part {a b : Str} (hb : (b.length == 0) = false) (hl : a.length ≤ 100000) (q : ∀ p, kn p = none → Q (.ref p) (upd kn p (.tup [.str (Txt.partition a b).1, .str (Txt.partition a b).2.1, .str (Txt.partition a b).2.2])) n) : W c (rMPart (.str a) [.str b]) kn n Q :=
  fun H g _ k => ⟨a, b, rfl, rfl, hb, sz hl, fun p hp => k _ _ n _ (q p (g.free hp)) (g.new hp)⟩
theorem r_ixZ {z : Str} {i : Int} {d : Nat} (h0 : 0 ≤ i) (h1 : i < 2 ^ 63) (h2 : i < z.length) (h3 : z.cps[i.toNat]? = some d) (q : Q (.str { cps := #[d] }) kn n) : W c (rIxZ (.str z) (.int i)) kn n Q := fun H g _ k => ⟨z, i, d, rfl, rfl, h0, h1, h2, h3, k _ kn n H q g⟩
theorem r_slS {z : Str} {lo hi : Option Int} (hl : z.length ≤ 100000) (q : Q (.str (cutS z lo hi)) kn n) : W c (rSlS (.str z) lo hi) kn n Q := fun H g _ k => ⟨z, rfl, sz hl, k _ kn n H q g⟩
/-- a classmethod -/
theorem w_cmeth {C : Addr} {ta : TE} {t : TA} (hm : MonoX B) (hE : ErrOk c EA E) (h : W c (ta σ) kn n fun x kn1 n1 => x = .ref C ∧ W c (t σ) kn1 n1 fun vs kn2 n2 => B (.ref C :: vs) kn2 (fun v k => Q v k n2) (fun cls d k => EA cls d k n2)) : W c (tCMeth C (liftX B) E ta t σ) kn n Q :=
  fun H g Q' q => h H g _ fun x kn1 n1 H1 ⟨e, h1⟩ g1 => ⟨e, h1 H1 g1 _ fun vs kn2 n2 H2 h2 g2 => sp_call hm hE h2 H2 g2 Q' q⟩
def chr1 (d : Nat) : V := .str { cps := #[d] }
theorem gives_str {a : Str} : Gives (Its a) ((TL.tl a).map chr1) fun _ => True := fun kn H e h =>
  ⟨fun i hi => by show i < a.cps.size; simpa [TL.tl] using hi, fun i hi => by show a.cps.size ≤ i; simpa [TL.tl] using hi, fun i x H' y => ⟨y.1, fun hi => by
    obtain ⟨_, d, hd, rfl⟩ := y
    rw [List.getElem?_map]
    have : (TL.tl a)[i]? = some d := by simpa [TL.tl] using hd
    rw [this]
    rfl⟩⟩
theorem i_str {te : TE} {R : It → Hp → Nat → Prop} (h : W c (te σ) kn n fun x kn1 n1 => ∃ z, x = .str z ∧ R (Its z) kn1 n1) : WI c (iStr te σ) kn n R :=
  fun H g R' q => h H g _ fun x kn1 n1 H1 ⟨z, e, hr⟩ g1 => ⟨z, e, q _ _ _ _ hr g1⟩
end
end AW

/-! Marks that come round: the least period, the least start. Pure. -/
namespace Ln
def ix (t : List Bool) (i : Nat) : Bool := t.getD i false
theorem ix_lt {t : List Bool} {i : Nat} (h : i < t.length) : ix t i = t[i] := by
  unfold ix
  rw [List.getD_eq_getElem?_getD, List.getElem?_eq_getElem h]; rfl
theorem ext_ix {a b : List Bool} (hl : a.length = b.length) (h : ∀ i, i < a.length → ix a i = ix b i) : a = b := by
  apply List.ext_getElem hl
  intro i h1 h2
  rw [← ix_lt h1, ← ix_lt h2]
  exact h i h1
def turned (t : List Bool) (k : Nat) : List Bool := t.drop k ++ t.take k
theorem turned_len (t : List Bool) (k : Nat) : (turned t k).length = t.length := by
  unfold turned
  rw [List.length_append, List.length_drop, List.length_take]
  omega
theorem ix_turned {t : List Bool} {k i : Nat} (hk : k ≤ t.length) (hi : i < t.length) : ix (turned t k) i = ix t (if i + k < t.length then i + k else i + k - t.length) := by
  unfold turned ix
  rw [List.getD_eq_getElem?_getD, List.getD_eq_getElem?_getD]
  by_cases h : i + k < t.length
  · rw [if_pos h, List.getElem?_append_left (by rw [List.length_drop]; omega), List.getElem?_drop, Nat.add_comm k i]
  · rw [if_neg h, List.getElem?_append_right (by rw [List.length_drop]; omega), List.length_drop, List.getElem?_take, if_pos (by omega)]
    congr 2
    omega
/-- what comes round by k, a divisor -/
def Per (t : List Bool) (k : Nat) : Prop := ∀ i, i < t.length → ix t i = ix t (i % k)
theorem per_of_turned {t : List Bool} {k : Nat} (hk : 0 < k) (hkl : k ≤ t.length) (h : turned t k = t) : Per t k := by
  intro i
  induction i using Nat.strongRecOn with
  | _ i ih =>
    intro hi
    by_cases hik : i < k
    · rw [Nat.mod_eq_of_lt hik]
    · have e : ix (turned t k) (i - k) = ix t (i - k) := by rw [h]
      rw [ix_turned hkl (by omega), if_pos (by omega), Nat.sub_add_cancel (by omega)] at e
      rw [e, ih (i - k) (by omega) (by omega)]
      congr 1
      rw [Nat.mod_eq_sub_mod (by omega : i ≥ k)]
theorem turned_of_per {t : List Bool} {k : Nat} (hk : 0 < k) (hkl : k ≤ t.length) (hd : t.length % k = 0) (h : Per t k) : turned t k = t := by
  apply ext_ix (turned_len t k)
  rw [turned_len]
  intro i hi
  rw [ix_turned hkl hi]
  by_cases h2 : i + k < t.length
  · rw [if_pos h2, h _ h2, h _ hi, Nat.add_mod_right]
  · rw [if_neg h2, h _ (by omega), h _ hi]
    congr 1
    obtain ⟨m, hm⟩ := Nat.dvd_of_mod_eq_zero hd
    have h3 : t.length ≤ i + k := by omega
    have : i + k - t.length = i + k - k * m := by rw [hm]
    rw [this]
    rw [Nat.sub_mul_mod (by omega), Nat.add_mod_right]
/-- the least period -/
def isP (t : List Bool) (k : Nat) : Bool := decide (1 ≤ k) && decide (t.length % k = 0) && decide (turned t k = t)
def leastP (t : List Bool) : Nat := ((List.range t.length).find? (isP t)).getD t.length
theorem leastP_cases (t : List Bool) : (leastP t = t.length ∧ ∀ k, k < t.length → isP t k = false) ∨ (leastP t < t.length ∧ isP t (leastP t) = true ∧ ∀ k, k < leastP t → isP t k = false) := by
  unfold leastP
  cases h : (List.range t.length).find? (isP t) with
  | none =>
    left
    refine ⟨rfl, fun k hk => ?_⟩
    have := List.find?_eq_none.1 h k (List.mem_range.2 hk)
    simpa using this
  | some k =>
    right
    rw [List.find?_range_eq_some] at h
    refine ⟨List.mem_range.1 h.2.1, h.1, fun j hj => ?_⟩
    have := h.2.2 j hj
    simpa using this
theorem leastP_le (t : List Bool) : leastP t ≤ t.length := by
  rcases leastP_cases t with h | h <;> omega
theorem leastP_pos {t : List Bool} (h : 0 < t.length) : 0 < leastP t := by
  rcases leastP_cases t with ⟨e, _⟩ | ⟨_, p, _⟩
  · omega
  · unfold isP at p
    simp at p
    omega
theorem leastP_per {t : List Bool} (h : 0 < t.length) : t.length % leastP t = 0 ∧ Per t (leastP t) := by
  rcases leastP_cases t with ⟨e, _⟩ | ⟨l, p, _⟩
  · rw [e]
    exact ⟨Nat.mod_self _, fun i hi => by rw [Nat.mod_eq_of_lt hi]⟩
  · unfold isP at p
    simp at p
    exact ⟨p.1.2, per_of_turned (by omega) (by omega) p.2⟩
theorem leastP_min {t : List Bool} {k : Nat} (h1 : 1 ≤ k) (h2 : k < leastP t) (h3 : t.length % k = 0) (h : Per t k) : False := by
  have hk : isP t k = true := by
    unfold isP
    have := leastP_le t
    rw [turned_of_per (by omega) (by omega) h3 h]
    simp [h1, h3]
  rcases leastP_cases t with ⟨e, f⟩ | ⟨l, p, f⟩
  · rw [f k (by omega)] at hk; cases hk
  · rw [f k h2] at hk; cases hk
theorem ix_take {t : List Bool} {n i : Nat} (h : i < n) : ix (t.take n) i = ix t i := by
  unfold ix
  rw [List.getD_eq_getElem?_getD, List.getD_eq_getElem?_getD, List.getElem?_take, if_pos h]
/-- the first round comes round by no less -/
theorem leastP_take {t : List Bool} (h : 0 < t.length) : leastP (t.take (leastP t)) = leastP t := by
  have hle := leastP_le t
  have hp := leastP_pos h
  have hl : (t.take (leastP t)).length = leastP t := by rw [List.length_take]; omega
  obtain ⟨d, p⟩ := leastP_per h
  rcases leastP_cases (t.take (leastP t)) with ⟨e, _⟩ | ⟨l, q, _⟩
  · rw [e, hl]
  · exfalso
    rw [hl] at l
    have p2 := leastP_per (t := t.take (leastP t)) (by omega)
    have q1 := leastP_pos (t := t.take (leastP t)) (by omega)
    generalize leastP (t.take (leastP t)) = k at l q p2 q1
    rw [hl] at p2
    refine leastP_min (t := t) (k := k) q1 l ?_ ?_
    · obtain ⟨a, ha⟩ := Nat.dvd_of_mod_eq_zero d
      obtain ⟨b, hb⟩ := Nat.dvd_of_mod_eq_zero p2.1
      have hd : k ∣ t.length := ⟨b * a, by rw [ha]; generalize leastP t = L at hb; subst hb; rw [Nat.mul_assoc]⟩
      exact Nat.mod_eq_zero_of_dvd hd
    · intro i hi
      have hm : i % leastP t < leastP t := Nat.mod_lt _ hp
      have e1 : ix t i = ix t (i % leastP t) := p i hi
      have e2 : ix t (i % leastP t) = ix (t.take (leastP t)) (i % leastP t) := (ix_take hm).symm
      have e3 := p2.2 (i % leastP t) (by rw [hl]; exact hm)
      have e4 : i % leastP t % k = i % k := Nat.mod_mod_of_dvd i (Nat.dvd_of_mod_eq_zero p2.1)
      have e5 : ix (t.take (leastP t)) (i % k) = ix t (i % k) := ix_take (Nat.lt_trans (Nat.mod_lt _ q1) l)
      rw [e1, e2, e3, e4, e5]
/-- numbers that are marked -/
def idx (t : List Bool) : List Nat := (List.range t.length).filter (ix t)
def maskOf (n : Nat) (xs : List Nat) : List Bool := (List.range n).map fun i => decide (i ∈ xs)
theorem mask_len (n : Nat) (xs : List Nat) : (maskOf n xs).length = n := by simp [maskOf]
theorem ix_mask {n i : Nat} {xs : List Nat} (h : i < n) : ix (maskOf n xs) i = decide (i ∈ xs) := by
  unfold ix maskOf
  rw [List.getD_eq_getElem?_getD, List.getElem?_map, List.getElem?_range h]
  rfl
theorem mem_idx {t : List Bool} {i : Nat} : i ∈ idx t ↔ i < t.length ∧ ix t i = true := by
  unfold idx
  rw [List.mem_filter, List.mem_range]
theorem mask_idx (t : List Bool) : maskOf t.length (idx t) = t := by
  apply ext_ix (mask_len _ _)
  rw [mask_len]
  intro i hi
  rw [ix_mask hi]
  cases h : ix t i with
  | true => exact decide_eq_true (mem_idx.2 ⟨hi, h⟩)
  | false => exact decide_eq_false fun z => by rw [(mem_idx.1 z).2] at h; cases h
theorem idx_inj {a b : List Bool} (hl : a.length = b.length) (h : idx a = idx b) : a = b := by
  rw [← mask_idx a, ← mask_idx b, hl, h]
/-- the least start -/
def astray (near turn : List Bool) (s : Nat) : List Nat := (List.range near.length).filter fun i => ix near i != ix turn (i % s)
def beginOf (near turn : List Bool) (s : Nat) : Nat := match (astray near turn s).getLast? with | some m => m + 1 | none => 0
theorem sorted_range_filter (p : Nat → Bool) (n : Nat) : ((List.range n).filter p).Pairwise (· < ·) := (List.pairwise_lt_range).filter p
theorem last_max {l : List Nat} (h : l.Pairwise (· < ·)) {m : Nat} (hm : l.getLast? = some m) : m ∈ l ∧ ∀ x ∈ l, x ≤ m := by
  obtain ⟨ys, rfl⟩ := List.getLast?_eq_some_iff.1 hm
  refine ⟨by simp, fun x hx => ?_⟩
  rcases List.mem_append.1 hx with h1 | h1
  · exact Nat.le_of_lt ((List.pairwise_append.1 h).2.2 x h1 m (by simp))
  · rw [List.mem_singleton.1 h1]
    exact Nat.le_refl _
theorem begin_spec (near turn : List Bool) (s : Nat) : beginOf near turn s ≤ near.length ∧ (∀ i, beginOf near turn s ≤ i → i < near.length → ix near i = ix turn (i % s)) ∧ (0 < beginOf near turn s → ix near (beginOf near turn s - 1) ≠ ix turn ((beginOf near turn s - 1) % s)) := by
  unfold beginOf
  have hs := sorted_range_filter (fun i => ix near i != ix turn (i % s)) near.length
  cases h : (astray near turn s).getLast? with
  | none =>
    have e : astray near turn s = [] := List.getLast?_eq_none_iff.1 h
    refine ⟨Nat.zero_le _, fun i _ hi => ?_, fun z => absurd z (by decide)⟩
    by_cases q : ix near i = ix turn (i % s)
    · exact q
    · have : i ∈ astray near turn s := List.mem_filter.2 ⟨List.mem_range.2 hi, by simpa using q⟩
      rw [e] at this
      cases this
  | some m =>
    obtain ⟨h1, h2⟩ := last_max hs h
    have h3 := List.mem_filter.1 h1
    dsimp only
    refine ⟨List.mem_range.1 h3.1, fun i hi hl => ?_, fun _ => by simpa using h3.2⟩
    by_cases q : ix near i = ix turn (i % s)
    · exact q
    · have := h2 i (List.mem_filter.2 ⟨List.mem_range.2 hl, by simpa using q⟩)
      omega
theorem begin_uni {near turn : List Bool} {s b : Nat} (h1 : b ≤ near.length) (h2 : ∀ i, b ≤ i → i < near.length → ix near i = ix turn (i % s)) (h3 : 0 < b → ix near (b - 1) ≠ ix turn ((b - 1) % s)) : beginOf near turn s = b := by
  obtain ⟨g1, g2, g3⟩ := begin_spec near turn s
  rcases Nat.lt_trichotomy (beginOf near turn s) b with h | h | h
  · exact absurd (g2 (b - 1) (by omega) (by omega)) (h3 (by omega))
  · exact h
  · exact absurd (h2 (beginOf near turn s - 1) (by omega) (by omega)) (g3 (by omega))
/-- a least form -/
structure Form (nr tn : List Bool) : Prop where
  pos : 0 < tn.length
  per : leastP tn = tn.length
  beg : 0 < nr.length → ix nr (nr.length - 1) ≠ ix tn ((nr.length - 1) % tn.length)
  le : nr.length + tn.length ≤ 400
theorem form_of {near turn : List Bool} (h : 0 < turn.length) (hl : beginOf near turn (leastP turn) + leastP turn ≤ 400) : Form (near.take (beginOf near turn (leastP turn))) (turn.take (leastP turn)) := by
  have hp := leastP_pos h
  have hle := leastP_le turn
  obtain ⟨g1, g2, g3⟩ := begin_spec near turn (leastP turn)
  have l1 : (near.take (beginOf near turn (leastP turn))).length = beginOf near turn (leastP turn) := by rw [List.length_take]; omega
  have l2 : (turn.take (leastP turn)).length = leastP turn := by rw [List.length_take]; omega
  refine ⟨by omega, by rw [leastP_take h, l2], fun z => ?_, by omega⟩
  rw [l1] at z ⊢
  rw [l2, ix_take (by omega), ix_take (Nat.mod_lt _ hp)]
  exact g3 z
/-- a form told by itself -/
theorem form_again {nr tn : List Bool} (F : Form nr tn) : leastP tn = tn.length ∧ beginOf nr tn tn.length = nr.length := by
  refine ⟨F.per, begin_uni (Nat.le_refl _) (fun i h1 h2 => by omega) F.beg⟩
/-- a finite form: one round of one that is not marked -/
theorem form_fin {nr tn : List Bool} (F : Form nr tn) (h : idx tn = []) : tn = [false] := by
  have hall : ∀ i, i < tn.length → ix tn i = false := fun i hi => by
    cases q : ix tn i with
    | false => rfl
    | true => have := mem_idx.2 ⟨hi, q⟩; rw [h] at this; cases this
  have h1 : tn.length = 1 := by
    rcases Nat.lt_or_ge 1 tn.length with g | g
    · exfalso
      refine leastP_min (t := tn) (k := 1) (by omega) (by rw [F.per]; exact g) (Nat.mod_one _) fun i hi => ?_
      rw [hall i hi, Nat.mod_one, hall 0 (by omega)]
    · have := F.pos; omega
  apply ext_ix (by rw [h1]; rfl)
  intro i hi
  rw [hall i hi]
  have : i = 0 := by omega
  subst this
  rfl
theorem form_fin_begin {nr : List Bool} (F : Form nr [false]) : beginOf (maskOf 400 (idx nr)) [false] 1 = nr.length ∧ (maskOf 400 (idx nr)).take nr.length = nr := by
  have le : nr.length + 1 ≤ 400 := F.le
  refine ⟨begin_uni (by rw [mask_len]; omega) (fun i h1 h2 => ?_) (fun z => ?_), ?_⟩
  · rw [mask_len] at h2
    rw [ix_mask h2, Nat.mod_one]
    refine decide_eq_false fun z => ?_
    have := (mem_idx.1 z).1
    omega
  · have := F.beg z
    rw [ix_mask (by omega)]
    have q : ix nr (nr.length - 1) = true := by
      cases q : ix nr (nr.length - 1) with
      | true => rfl
      | false => exact absurd (by rw [q]; simp [Nat.mod_one, ix]) this
    rw [decide_eq_true (mem_idx.2 ⟨by omega, q⟩), Nat.mod_one]
    simp [ix]
  · apply ext_ix (by rw [List.length_take, mask_len]; omega)
    intro i hi
    rw [List.length_take, mask_len] at hi
    rw [ix_take (by omega), ix_mask (by omega)]
    cases h : ix nr i with
    | true => exact decide_eq_true (mem_idx.2 ⟨by omega, h⟩)
    | false => exact decide_eq_false fun z => by rw [(mem_idx.1 z).2] at h; cases h
/-- the marks below start and of the first round from it on -/
def marks (nr tn : List Bool) : List Bool := nr ++ (List.range tn.length).map fun i => ix tn ((nr.length + i) % tn.length)
theorem marks_len (nr tn : List Bool) : (marks nr tn).length = nr.length + tn.length := by simp [marks]
theorem marks_inj {nr tn nr' tn' : List Bool} (h : 0 < tn.length) (hb : nr.length = nr'.length) (e : marks nr tn = marks nr' tn') : nr = nr' ∧ tn = tn' := by
  have hl := congrArg List.length e
  rw [marks_len, marks_len] at hl
  have ht : tn.length = tn'.length := by omega
  obtain ⟨e1, e2⟩ := List.append_inj e hb
  refine ⟨e1, ?_⟩
  rw [← ht, ← hb] at e2
  apply ext_ix ht
  intro i hi
  have key : ∀ j, j < tn.length → ix tn ((nr.length + j) % tn.length) = ix tn' ((nr.length + j) % tn.length) := fun j hj => by
    have := List.map_inj_left.1 e2 j (List.mem_range.2 hj)
    exact this
  -- j with (b + j) % s = i
  have hm : nr.length % tn.length < tn.length := Nat.mod_lt _ h
  by_cases hc : nr.length % tn.length ≤ i
  · have := key (i - nr.length % tn.length) (by omega)
    have q : (nr.length + (i - nr.length % tn.length)) % tn.length = i := by
      rw [Nat.add_mod, Nat.mod_eq_of_lt (show i - nr.length % tn.length < tn.length by omega)]
      rw [show nr.length % tn.length + (i - nr.length % tn.length) = i by omega, Nat.mod_eq_of_lt hi]
    rw [q] at this
    exact this
  · have := key (i + tn.length - nr.length % tn.length) (by omega)
    have q : (nr.length + (i + tn.length - nr.length % tn.length)) % tn.length = i := by
      rw [Nat.add_mod, Nat.mod_eq_of_lt (show i + tn.length - nr.length % tn.length < tn.length by omega)]
      rw [show nr.length % tn.length + (i + tn.length - nr.length % tn.length) = i + tn.length by omega, Nat.add_mod_right, Nat.mod_eq_of_lt hi]
    rw [q] at this
    exact this
end Ln

/-! Texts of sets of lengths. Pure. -/
namespace L2
open PySem PySem.Spec
namespace Tx1
open TL Ln SX
abbrev spS : Str := S [32]
abbrev fromS : Str := S [102, 114, 111, 109]
abbrev byS : Str := S [98, 121]
abbrev atS : Str := S [97, 116]
abbrev noneS : Str := S [110, 111, 110, 101]
abbrev nS (n : Nat) : Str := dS ((n : Nat) : Int)
theorem nS_tl (n : Nat) : tl (nS n) = numL n := dS_nat n
theorem nS_dig (n : Nat) : ∀ c ∈ tl (nS n), 48 ≤ c ∧ c ≤ 57 := by
  intro c hc
  by_cases h1 : 48 ≤ c
  · by_cases h2 : c ≤ 57
    · exact ⟨h1, h2⟩
    · exact absurd hc (dS_free (by omega) (by omega) _)
  · by_cases h3 : c = 45
    · subst h3
      rw [nS_tl] at hc
      exact absurd hc (numL_no45 n)
    · exact absurd hc (dS_free h3 (by omega) _)
theorem nS_inj {a b : Nat} (h : nS a = nS b) : a = b := by
  have := dS_inj h
  omega
theorem nS_ne {n : Nat} {x : Str} {c : Nat} (hc : c ∈ tl x) (h : c < 48 ∨ 57 < c) : nS n ≠ x := fun z => by
  have := nS_dig n c (by rw [z]; exact hc)
  omega
theorem nS_from (n : Nat) : nS n ≠ fromS := nS_ne (c := 102) (by decide) (by decide)
theorem nS_none (n : Nat) : nS n ≠ noneS := nS_ne (c := 110) (by decide) (by decide)
def tailW (nr tn : List Bool) : List Str := if idx tn = [] then [] else fromS :: nS nr.length :: byS :: nS tn.length :: atS :: (idx tn).map nS
def wordsT (nr tn : List Bool) : List Str := (idx nr).map nS ++ tailW nr tn
def lnT (nr tn : List Bool) : Str := if wordsT nr tn = [] then noneS else Txt.join spS (wordsT nr tn)
theorem words_free (nr tn : List Bool) : ∀ p ∈ wordsT nr tn, ¬ 32 ∈ tl p := by
  have hn : ∀ n : Nat, ¬ 32 ∈ tl (nS n) := fun n h => by have := nS_dig n 32 h; omega
  intro p hp
  rcases List.mem_append.1 hp with h | h
  · obtain ⟨n, _, rfl⟩ := List.mem_map.1 h
    exact hn n
  · unfold tailW at h
    split at h
    · cases h
    · simp only [List.mem_cons] at h
      rcases h with rfl | rfl | rfl | rfl | rfl | h
      · decide
      · exact hn _
      · decide
      · exact hn _
      · decide
      · obtain ⟨n, _, rfl⟩ := List.mem_map.1 h
        exact hn n
theorem split_words {ws : List Str} (hne : ws ≠ []) (h : ∀ p ∈ ws, ¬ 32 ∈ tl p) : Txt.split (Txt.join spS ws) spS = ws := split_join (s := 32) (S := []) rfl (by decide +kernel) hne h
theorem split_lnT {nr tn : List Bool} (h : wordsT nr tn ≠ []) : Txt.split (lnT nr tn) spS = wordsT nr tn := by
  unfold lnT
  rw [if_neg h]
  exact split_words h (words_free nr tn)
theorem lnT_ne_none {nr tn : List Bool} (h : wordsT nr tn ≠ []) : lnT nr tn ≠ noneS := fun z => by
  have e := split_lnT h
  rw [z, show Txt.split noneS spS = [noneS] by decide +kernel] at e
  unfold wordsT at e
  cases hi : idx nr with
  | cons n r =>
    rw [hi] at e
    simp only [List.map_cons, List.cons_append] at e
    exact nS_none n (List.cons.inj e).1.symm
  | nil =>
    rw [hi] at e
    unfold tailW at e
    split at e
    · cases e
    · exact absurd (List.cons.inj e).1 (by decide)
theorem words_nil {nr tn : List Bool} (F : Form nr tn) (h : wordsT nr tn = []) : nr = [] ∧ tn = [false] := by
  unfold wordsT at h
  obtain ⟨h1, h2⟩ := List.append_eq_nil_iff.1 h
  have h3 : idx tn = [] := by
    unfold tailW at h2
    split at h2
    · assumption
    · cases h2
  have h4 := form_fin F h3
  subst h4
  refine ⟨?_, rfl⟩
  have e := (form_fin_begin F)
  rw [List.map_eq_nil_iff] at h1
  rw [h1] at e
  have e1 : beginOf (maskOf 400 []) [false] 1 = nr.length := e.1
  have e2 : beginOf (maskOf 400 []) [false] 1 = 0 := begin_uni (Nat.zero_le _) (fun i _ hi => by rw [mask_len] at hi; rw [ix_mask hi, Nat.mod_one]; simp [ix]) (fun z => absurd z (by decide))
  exact List.length_eq_zero_iff.1 (by omega)
theorem not_from {xs : List Nat} : ¬ fromS ∈ xs.map nS := fun h => by
  obtain ⟨n, _, e⟩ := List.mem_map.1 h
  exact nS_from n e
theorem map_nS_inj {xs ys : List Nat} (h : xs.map nS = ys.map nS) : xs = ys := List.map_inj_right (f := nS) (fun _ _ => nS_inj) |>.1 h
theorem cut_at {α : Type} {x : α} : ∀ {A A' R R' : List α}, ¬ x ∈ A → ¬ x ∈ A' → A ++ x :: R = A' ++ x :: R' → A = A' ∧ R = R'
  | [], [], _, _, _, _, e => ⟨rfl, (List.cons.inj e).2⟩
  | [], b :: B, _, _, _, h, e => absurd (by rw [(List.cons.inj e).1]; exact .head _) h
  | a :: A, [], _, _, h, _, e => absurd (by rw [← (List.cons.inj e).1]; exact .head _) h
  | a :: A, b :: B, _, _, h, h', e => by
    obtain ⟨e1, e2⟩ := List.cons.inj e
    obtain ⟨r1, r2⟩ := cut_at (fun z => h (.tail _ z)) (fun z => h' (.tail _ z)) e2
    exact ⟨by rw [e1, r1], r2⟩
theorem lnT_inj {nr tn nr' tn' : List Bool} (F : Form nr tn) (G : Form nr' tn') (h : lnT nr tn = lnT nr' tn') : nr = nr' ∧ tn = tn' := by
  by_cases h1 : wordsT nr tn = []
  · by_cases h2 : wordsT nr' tn' = []
    · obtain ⟨a, b⟩ := words_nil F h1
      obtain ⟨c, d⟩ := words_nil G h2
      exact ⟨a.trans c.symm, b.trans d.symm⟩
    · have := lnT_ne_none h2
      rw [← h] at this
      exact absurd (by unfold lnT; rw [if_pos h1]) this
  · by_cases h2 : wordsT nr' tn' = []
    · have := lnT_ne_none h1
      rw [h] at this
      exact absurd (by unfold lnT; rw [if_pos h2]) this
    · have e : wordsT nr tn = wordsT nr' tn' := by rw [← split_lnT h1, ← split_lnT h2, h]
      unfold wordsT tailW at e
      by_cases i1 : idx tn = []
      · rw [if_pos i1, List.append_nil] at e
        by_cases i2 : idx tn' = []
        · rw [if_pos i2, List.append_nil] at e
          have e := map_nS_inj e
          have t1 := form_fin F i1
          have t2 := form_fin G i2
          subst t1
          subst t2
          refine ⟨?_, rfl⟩
          obtain ⟨a1, a2⟩ := form_fin_begin F
          obtain ⟨b1, b2⟩ := form_fin_begin G
          rw [← a2, ← b2, ← a1, ← b1, e]
        · rw [if_neg i2] at e
          exact absurd (by rw [e]; simp) (not_from (xs := idx nr))
      · rw [if_neg i1] at e
        by_cases i2 : idx tn' = []
        · rw [if_pos i2, List.append_nil] at e
          exact absurd (by rw [← e]; simp) (not_from (xs := idx nr'))
        · rw [if_neg i2] at e
          obtain ⟨e1, e2⟩ := cut_at not_from not_from e
          have f1 := nS_inj (List.cons.inj e2).1
          have e3 := (List.cons.inj (List.cons.inj e2).2).2
          have f2 := nS_inj (List.cons.inj e3).1
          have e4 := (List.cons.inj (List.cons.inj e3).2).2
          exact ⟨idx_inj f1 (map_nS_inj e1), idx_inj f2 (map_nS_inj e4)⟩
end Tx1
end L2

/-! <=, <, >=, > and ~ of an own class; math.lcm. -/
namespace L2
open PySem PySem.Spec PyProof.Rows
section
variable {X : Cx} {CX : CXT} {k : Nat} {f C : Addr} {fd : FuncData} {ps : List Str} {sp : Sp} {E : XK}
structure CmpM (K : PySem.W.Frag) (op : CmpOp) (C f : Addr) : Prop where
  hs : PySem.W.findIn K (.ref C) (cmpInfo op).2.1 = some (some (.ref f))
  hf : PySem.W.isFn K (.ref f) = true
def rCmpO (K : PySem.W.Frag) (C : Addr) (sp : Sp) (E : XK) : R2 := fun x y H Q => ∃ a dx fs t, x = .ref a ∧ H a = some (.ins C dx fs) ∧ TyX K H y t ∧ PySem.W.notFirst K C t = true ∧ sp [.ref a, y] H Q E
theorem op_cmpO {op : CmpOp} (hop : ∀ a b, compareOp op a b = richCompare op a b) (M : CmpM X.K op C f) (F : FnOk X.prog X.w X.K X.mg X.base CX k f fd ps sp) (hr : Room (k + 1) X.A) (hb : Binds X.K fd ps []) (hx : Passes CX X E) : OpR X (compareOp op) (rCmpO X.K C sp E) := by
  intro pins s σ H x y v u Q I rx ry h
  obtain ⟨a, dx, fs, t, rfl, ha, ty, nf, hq⟩ := h
  cases rx
  obtain ⟨mA, J, _⟩ := ins_get I.hok ha
  obtain ⟨od, J, _⟩ := J.look
  have hbt := typeOf_of I ry ty
  obtain ⟨m, hF⟩ := I.fr
  rw [hop]
  refine PySem.W.cmp_K (op := op) hr.units0 hF I.ok.mod.kin J hbt nf M.hs M.hf ?_
  exact wpAny_mono (callA (vs := [.ref a, y]) F (hr.mono (Nat.le_succ _)) rfl hb hx I (.cons rfl (.cons ry .nil)) hq) (fun z s' hz => by
    obtain ⟨v', H', I', rv, q⟩ := id hz
    exact relV_ni rv hz) fun _ _ z => z
def rUnO (C : Addr) (sp : Sp) (E : XK) : V → Hp → VK → Prop := fun x H Q => ∃ a dx fs, x = .ref a ∧ H a = some (.ins C dx fs) ∧ sp [.ref a] H Q E
theorem un_invO (hs : PySem.W.findIn X.K (.ref C) "__invert__" = some (some (.ref f))) (hf : PySem.W.isFn X.K (.ref f) = true) (F : FnOk X.prog X.w X.K X.mg X.base CX k f fd ps sp) (hr : Room k X.A) (hb : Binds X.K fd ps []) (hx : Passes CX X E) : UnR X (unaryOp .Invert) (rUnO C sp E) := by
  intro pins s σ H x v Q I rx h
  obtain ⟨a, dx, fs, rfl, ha, hq⟩ := h
  cases rx
  obtain ⟨mA, J, _⟩ := ins_get I.hok ha
  obtain ⟨od, J, _⟩ := J.look
  unfold unaryOp
  refine wpAny_holding ?_
  dsimp only
  simp only [show ((UnaryOp.Invert == UnaryOp.Not)) = false from rfl, Bool.false_eq_true, if_false]
  refine wpAny_bind (PySem.W.special_fn I.kIn J hs (beq_iff_eq.mp hf) ?_)
  refine wpAny_mono (callA (vs := [.ref a]) F hr rfl hb hx I (.cons rfl .nil) hq) (fun z s' hz => ?_) fun _ _ z => z
  exact wpAny_pure hz
/-- math.lcm of two small numbers -/
def rLcm : List V → Hp → VK → Prop := fun vs H Q => ∃ a b : Nat, vs = [.int a, .int b] ∧ a ≤ 1000000 ∧ b ≤ 1000000 ∧ Q (.int (Nat.lcm a b : Nat)) H
theorem lcm_small {a b : Nat} (ha : a ≤ 1000000) (hb : b ≤ 1000000) : Nat.lcm a b ≤ 1000000000000 := by
  unfold Nat.lcm
  exact Nat.le_trans (Nat.div_le_self _ _) (Nat.le_trans (Nat.mul_le_mul ha hb) (by decide))
theorem cr_lcm : CallR X (.builtin "math.lcm") rLcm := by
  intro pins s σ H xs us Q I r h
  obtain ⟨a, b, rfl, ha, hb, q⟩ := h
  rcases r with _ | ⟨r1, r⟩
  rcases r with _ | ⟨r2, r⟩
  rcases r with _ | _
  obtain ⟨t1, rfl⟩ := r1
  obtain ⟨t2, rfl⟩ := r2
  have e : (Nat.lcm 1 ((a : Nat) : Int).natAbs).lcm ((b : Nat) : Int).natAbs = Nat.lcm a b := by
    rw [Int.natAbs_natCast, Int.natAbs_natCast, Nat.lcm_one_left]
  have hs := lcm_small ha hb
  refine PySem.W.mg_lcm (by omega) (by omega) ?_ ?_
  · rw [e, Int.natAbs_natCast]
    by_cases z : Nat.lcm a b = 0
    · rw [z]
      decide
    · exact Nat.lt_trans ((Nat.log2_lt z).mpr (show _ < 2 ^ 40 by omega)) (by decide)
  · rw [e]
    exact ⟨.int (Nat.lcm a b : Nat), H, I.tok _, ⟨_, rfl⟩, q⟩
end
end L2
namespace AW
open PySem PySem.Spec L2
section
variable {c : Cw} {kn : Hp} {n : Nat} {σ : L2.St} {Q : V → Hp → Nat → Prop} {K : PySem.W.Frag} {B : List V → Hp → AK → AXK → Prop} {E : XK} {EA : EAK}
theorem r_cmpO {C a dx : Addr} {fs : List (Str × V)} {y : V} {t : Value} (hm : MonoX B) (hE : ErrOk c EA E) (ha : kn a = some (.ins C dx fs)) (ty : TyX K kn y t) (nf : PySem.W.notFirst K C t = true)
    (h : B [.ref a, y] kn (fun v k => Q v k n) (fun cls d k => EA cls d k n)) : W c (rCmpO K C (liftX B) E (.ref a) y) kn n Q :=
  fun H g Q' q => ⟨a, dx, fs, t, rfl, g.ex _ _ ha, tyx_ext g.ex ty, nf, sp_call hm hE h H g Q' q⟩
theorem w_unO {te : TE} {C : Addr} (hm : MonoX B) (hE : ErrOk c EA E)
    (h : W c (te σ) kn n fun x kn1 n1 => ∃ a dx fs, x = .ref a ∧ kn1 a = some (.ins C dx fs) ∧ B [.ref a] kn1 (fun v k => Q v k n1) (fun cls d k => EA cls d k n1)) : W c (tUn (rUnO C (liftX B) E) te σ) kn n Q :=
  fun H g Q' q => h H g _ fun x kn1 n1 H1 ⟨a, dx, fs, e, ha, hb⟩ g1 => ⟨a, dx, fs, e, g1.ex _ _ ha, sp_call hm hE hb H1 g1 Q' q⟩
theorem r_lcm {a b : Nat} (ha : a ≤ 1000000) (hb : b ≤ 1000000) (q : Q (.int (Nat.lcm a b : Nat)) kn n) : W c (rLcm [.int a, .int b]) kn n Q := fun H g _ k => ⟨a, b, rfl, ha, hb, k _ kn n H q g⟩
end
end AW

/-! Lists or tuples, also those of the written part; join, stars, lists repeated, steps of slices; what is never reached. -/
namespace L2
open PySem PySem.Spec PyProof.Rows ClX
section
variable {X : Cx}
/-- what no run comes to -/

theorem pe_never {e : Expr} : PE X e (fun _ _ _ => False) := ⟨fun _ _ _ _ _ _ h => h.elim⟩
def rRepQ : R2 := fun x y H Q => ∃ l k xs, x = .ref l ∧ y = .int k ∧ H l = some (.lst xs) ∧ -(2 ^ 63) ≤ k ∧ k < 2 ^ 63 ∧ xs.length * k.toNat ≤ sizeLine ∧ ∀ p, H p = none → Q (.ref p) (upd H p (.lst (List.replicate k.toNat xs).flatten))
theorem op_repQ : OpR X (binaryOp .Mult) rRepQ := op_rep
def rTupQ (K : PySem.W.Frag) : List V → Hp → VK → Prop := fun xs H Q => ∃ p ys, xs = [.ref p] ∧ ((SqL K H p ys ∧ ∀ l, H l = none → Q (.ref l) (upd H l (.tup ys))) ∨ (SqT K H p ys ∧ Q (.ref p) H))
theorem c_tupQ : CallR X (.type "tuple") (rTupQ X.K) := call_tuple_of
def rJoinQ (K : PySem.W.Frag) : V → List V → Hp → VK → Prop := fun x xs H Q => ∃ a p, ∃ ys : List Str, x = .str a ∧ xs = [.ref p] ∧ (SqL K H p (ys.map V.str) ∨ SqT K H p (ys.map V.str)) ∧ (ys.map (·.length)).sum + ys.length * a.length ≤ 16777216 ∧ Q (.str (Txt.join a ys)) H
theorem pe_joinQ {o e : Expr} {to te : TE} {apos pos : Pos} (ho : PE X o to) (he : PE X e te) (hs : starEach [e] X.env = [(false, eval e X.env)] := by rfl) (hb : attributeBase o "join" X.env (eval o X.env) = eval o X.env := by rfl) (hp : (apos.endLine == pos.line) = true := by rfl) :
    PE X (.Call (.Attribute o "join" apos) [e] [] pos) (tM1 (rJoinQ X.K) to te) := pe_join ho he hs hb hp
/-- the truth of a list or a tuple -/
def tTru (K : PySem.W.Frag) (ta : TE) : TT := fun σ H Q => ta σ H fun x H' => ∃ k, TruV K x H' k ∧ Q k H'
theorem pt_truthQ {a : Expr} {ta : TE} (ha : PE X a ta) (he : ∀ whole, isTrue a X.env whole = (do let v ← whole; standAt a.pos; holding [v] (truthy v))) : PT X a (tTru X.K ta) := pt_truth ha he
/-- the items at a + k, a + 2 k, .. -/
def pick3 {α : Type} (xs : List α) (lo hi st : Option Int) : List α := (sliceRange (sliceBounds lo hi st xs.length).1 (sliceBounds lo hi st xs.length).2.1 (sliceBounds lo hi st xs.length).2.2).filterMap (xs[·]?)
theorem vals_pick {xs : List V} {us : List Value} (r : Vals xs us) : ∀ is : List Nat, Vals (is.filterMap (xs[·]?)) (is.filterMap (us[·]?))
  | [] => .nil
  | i :: is => by
    rw [List.filterMap_cons, List.filterMap_cons]
    cases h : xs[i]? with
    | none => rw [r.none_of h]; exact vals_pick r is
    | some x =>
      obtain ⟨u, hu, ru⟩ := r.get h
      rw [hu]
      exact .cons ru (vals_pick r is)
theorem vals_pick3 {xs : List V} {us : List Value} (r : Vals xs us) (lo hi st : Option Int) : Vals (pick3 xs lo hi st) (slicePick us.toArray lo hi st).toList := by
  have e : (slicePick us.toArray lo hi st).toList = pick3 us lo hi st := by
    unfold slicePick pick3
    simp
  rw [e]
  unfold pick3
  rw [r.length]
  exact vals_pick r _
def tSl3 (K : PySem.W.Frag) (te : TE) (tl th : TO) (k : Int) : TE := fun σ H Q => te σ H fun x H1 => tl σ H1 fun l H2 => th σ H2 fun u H3 => ∃ a xs, x = .ref a ∧ SqL K H3 a xs ∧ ∀ p, H3 p = none → Q (.ref p) (upd H3 p (.lst (pick3 xs l u (some k))))
theorem pe_sl3 {e : Expr} {te : TE} {lo hi : Option Expr} {tl th : TO} {k : Int} {j : Nat} {p1 p2 pos : Pos} (hk : k ≠ 0) (he : PE X e te) (hl : PO X lo tl) (hu : PO X hi th) (hst : PO X (some (.Constant (.int k) j p1)) (tPart (tC (.int k)))) :
    PE X (.Subscript e (.Slice lo hi (some (.Constant (.int k) j p1)) p2) pos) (tSl3 X.K te tl th k) := by
  refine ⟨fun pins s σ H Q I h => ?_⟩
  refine Subscript_ (thn (he.run pins s σ H _ I h) fun v s1 ⟨x, H1, I1, r1, q1⟩ => ?_)
  refine wpAny_Slice (thn (hl.run pins s1 σ H1 _ I1 q1) fun vl s2 ⟨l, H2, I2, pl, q2⟩ => thn (hu.run pins s2 σ H2 _ I2 q2) fun vu s3 ⟨u, H3, I3, pu, q3⟩ => ?_)
  refine thn (hst.run pins s3 σ H3 (fun o H4 => o = some k ∧ H4 = H3) I3 ⟨k, rfl, rfl, rfl⟩) fun vs s4 ⟨o, H4, I4, ps, eo, e4⟩ => ?_
  subst eo e4
  obtain ⟨a, xs, ex, hx, q⟩ := q3
  subst ex
  cases r1
  have I5 : Inv X pins σ H4 { s4 with heap := s4.heap.push { cls := .type "slice", data := .fields #[vl, vu, vs] } } := I4.kept (t' := s4.toks) fun b ob q => Heap.get?_push_of_some _ q
  obtain ⟨its, r, ht, hz⟩ := I5.list hx
  have hlen := r.length
  show wpAny (model X.prog X.w) X.A (subscriptTail e (.Slice lo hi (some (.Constant (.int k) j p1)) p2) (.ref a) (.ref s4.heap.objs.size)) (EP X pins σ Q) X.xe { s4 with heap := s4.heap.push { cls := .type "slice", data := .fields #[vl, vu, vs] } }
  refine tail_any (ops := [.ref a, .ref s4.heap.objs.size]) ht.isList.typeIs (PySem.slot_list_getitem.lookup) ?_ (by with_unfolding_all rfl)
  have hz2 : its.toArray.size ≤ sizeLine := by rw [List.size_toArray]; omega
  refine wpAny_getItem_list_slice ht.isList (Heap.IsSliceOf.new _ vl vu vs) pl pu ps (fun z => hk (Option.some.inj z)) ?_ hz2
  refine ⟨.ref _, _, I5.laid (t' := s4.toks) (o := .lst (pick3 xs l u (some k))) (fun b ob q => Heap.get?_push_of_some _ q) (Nat.le_refl _) ?_, rfl, q _ (I5.hok.fresh (Nat.le_refl _))⟩
  have v := vals_pick3 r l u (some k)
  refine ⟨?_, (slicePick its.toArray l u (some k)).toList, 0, v, ?_⟩
  · rw [v.length, Array.length_toList]
    exact Nat.le_trans (slicePick_size_le _ _ _ _) hz2
  · rw [Array.toArray_toList]
    exact Heap.get?_push_size _ rfl
end
/-- a tuple of the written part -/
def KTup (K : PySem.W.Frag) (a : Addr) (xs : List V) : Prop := ∃ (o : Obj) (its : Array Value) (n : Nat), K.lookup a = some o ∧ o.cls = .type "tuple" ∧ o.data = .seq its n ∧ its.size ≤ sizeLine ∧ Vals xs its.toList
/-- a list or a tuple with these items -/
def SeqV (K : PySem.W.Frag) (kn : Hp) (v : V) (xs : List V) : Prop := ∃ a, v = .ref a ∧ (kn a = some (.lst xs) ∨ kn a = some (.tup xs) ∨ KTup K a xs)
theorem SeqV.ext {K : PySem.W.Frag} {kn kn' : Hp} {v : V} {xs : List V} (e : Ext kn kn') (h : SeqV K kn v xs) : SeqV K kn' v xs := by
  obtain ⟨a, rfl, h | h | h⟩ := h
  · exact ⟨a, rfl, .inl (e _ _ h)⟩
  · exact ⟨a, rfl, .inr (.inl (e _ _ h))⟩
  · exact ⟨a, rfl, .inr (.inr h)⟩
theorem SeqV.ty {K : PySem.W.Frag} {kn : Hp} {v : V} {xs : List V} (h : SeqV K kn v xs) : TyX K kn v (.type "list") ∨ TyX K kn v (.type "tuple") := by
  obtain ⟨a, rfl, h | h | ⟨o, its, n, e, c, _⟩⟩ := h
  · exact .inl (.base (.lst h))
  · exact .inr (.base (.tup h))
  · exact .inr (.kTuple e c)
end L2
namespace AW
open PySem PySem.Spec PyProof.Rows L2 ClX StX
section
variable {c : Cw} {kn : Hp} {n : Nat} {σ : L2.St} {Q : V → Hp → Nat → Prop} {QA : List V → Hp → Nat → Prop} {K : PySem.W.Frag}
theorem r_repQ {l : Addr} {xs : List V} {k : Int} (h : kn l = some (.lst xs)) (h1 : -(2 ^ 63) ≤ k) (h2 : k < 2 ^ 63) (h3 : xs.length * k.toNat ≤ 100000) (q : ∀ p, kn p = none → Q (.ref p) (upd kn p (.lst (List.replicate k.toNat xs).flatten)) n) : W c (rRepQ (.ref l) (.int k)) kn n Q :=
  fun H g _ f => ⟨l, k, xs, rfl, rfl, g.ex _ _ h, h1, h2, sz h3, fun p hp => f _ _ n _ (q p (g.free hp)) (g.new hp)⟩
theorem r_tupL {p : Addr} {xs : List V} (h : kn p = some (.lst xs)) (q : ∀ l, kn l = none → Q (.ref l) (upd kn l (.tup xs)) n) : W c (rTupQ K [.ref p]) kn n Q :=
  fun H g _ f => ⟨p, xs, rfl, .inl ⟨sql (g.ex _ _ h), fun l hl => f _ _ n _ (q l (g.free hl)) (g.new hl)⟩⟩
theorem r_joinQ {a : Str} {p : Addr} {ys : List Str} (h : kn p = some (.lst (ys.map V.str))) (hs : (ys.map (·.length)).sum + ys.length * a.length ≤ 16777216) (q : Q (.str (Txt.join a ys)) kn n) : W c (rJoinQ K (.str a) [.ref p]) kn n Q :=
  fun H g _ f => ⟨a, p, ys, rfl, rfl, .inl (sql (g.ex _ _ h)), hs, f _ kn n H q g⟩
theorem w_star {te : TE} {t : TA} (h : W c (te σ) kn n fun x kn1 n1 => ∃ p xs, x = .ref p ∧ (kn1 p = some (.lst xs) ∨ kn1 p = some (.tup xs)) ∧ W c (t σ) kn1 n1 fun ys kn2 n2 => QA (xs ++ ys) kn2 n2) : W c (tStar K te t σ) kn n QA :=
  fun H g Q' q => h H g _ fun x kn1 n1 H1 ⟨p, xs, e, hp, h1⟩ g1 => ⟨p, xs, e, hp.symm.imp (fun z => sqt (g1.ex _ _ z)) (fun z => sql (g1.ex _ _ z)), h1 H1 g1 _ fun ys kn2 n2 H2 h2 g2 => q _ _ _ _ h2 g2⟩
theorem w_sl3 {te : TE} {tl th : TO} {k : Int} (h : W c (te σ) kn n fun x kn1 n1 => W c (tl σ) kn1 n1 fun l kn2 n2 => W c (th σ) kn2 n2 fun u kn3 n3 => ∃ a xs, x = .ref a ∧ kn3 a = some (.lst xs) ∧ ∀ p, kn3 p = none → Q (.ref p) (upd kn3 p (.lst (pick3 xs l u (some k)))) n3) : W c (tSl3 K te tl th k σ) kn n Q :=
  fun H g Q' q => h H g _ fun x kn1 n1 H1 h1 g1 => h1 H1 g1 _ fun l kn2 n2 H2 h2 g2 => h2 H2 g2 _ fun u kn3 n3 H3 ⟨a, xs, e, ha, h3⟩ g3 => ⟨a, xs, e, sql (g3.ex _ _ ha), fun p hp => q _ _ _ _ (h3 p (g3.free hp)) (g3.new hp)⟩
theorem i_seq3 {i : Nat} {v : V} {xs : List V} {R : It → Hp → Nat → Prop} {kn0 : Hp} (hv : σ[i]? = some (some v)) (e0 : Ext kn0 kn) (hs : SeqV K kn0 v xs) (h : ∀ J ka, Gives J xs ka → (∀ k, Ext kn0 k → ka k) → R J kn n) : WI c (iSeq K (tVar i) σ) kn n R := by
  intro H g R' q
  obtain ⟨a, rfl, ha | ha | hk⟩ := hs
  · exact .inl (i_list (w_var hv ⟨a, xs, rfl, e0 _ _ ha, h _ _ gives_lst fun k e => e _ _ ha⟩) H g R' q)
  · exact .inr (i_tup (w_var hv ⟨a, xs, rfl, e0 _ _ ha, h _ _ gives_tup fun k e => e _ _ ha⟩) H g R' q)
  · refine .inr ⟨.ref a, hv, ⟨a, rfl, ⟨xs, .inr hk⟩, q _ _ _ _ (h (Itt K a) (fun _ => True) (fun kn H e _ => ?_) (fun _ _ => trivial)) g⟩⟩
    exact ⟨fun i hi => ⟨xs, xs[i], .inr hk, List.getElem?_eq_getElem hi⟩, fun i hi => ⟨xs, .inr hk, hi⟩, fun i x H' y => ⟨y.1, fun _ => y.2 xs (.inr hk)⟩⟩
theorem w_tru {ta : TE} {QB : Bool → Hp → Nat → Prop} (h : W c (ta σ) kn n fun x kn1 n1 => ∃ p xs, x = .ref p ∧ (kn1 p = some (.lst xs) ∨ kn1 p = some (.tup xs)) ∧ QB (!xs.isEmpty) kn1 n1) : W c (tTru K ta σ) kn n QB :=
  fun H g Q' q => h H g _ fun x kn1 n1 H1 ⟨p, xs, e, hp, hq⟩ g1 => ⟨_, by
    subst e
    rcases hp with z | z
    · exact .inl ⟨xs, sql (g1.ex _ _ z), rfl⟩
    · exact .inr (.inl ⟨xs, sqt (g1.ex _ _ z), rfl⟩), q _ _ _ _ hq g1⟩
/-- a comprehension of what changes nothing, items that are known one by one -/
theorem w_lcP {wi : TI} {gt : TG} {tt : TT} {te : TE} {vs : List Nat}
    (h : WI c (wi σ) kn n fun J kn1 n1 => ∃ (xs : List V) (ka : Hp → Prop) (f : V → V) (p : V → Bool), Gives J xs ka ∧ xs.length ≤ 100000 ∧ (∀ k, Ext kn1 k → ka k) ∧
      (∀ x ∈ xs, ∀ k, Ext kn1 k → WG c gt x (wipe σ vs) k n1 fun σ2 k2 n2 => k2 = k ∧ n2 = n1 ∧ wipe σ2 vs = wipe σ vs ∧ W c (tt σ2) k n1 fun b k3 n3 => b = p x ∧ k3 = k ∧ n3 = n1 ∧ (p x = true → W c (te σ2) k n1 fun y k4 n4 => y = f x ∧ k4 = k ∧ n4 = n1)) ∧
      ∀ D, kn1 D = none → Q (.ref D) (upd kn1 D (.lst ((xs.filter p).map f))) n1) : W c (tLc wi gt tt te vs σ) kn n Q := by
  refine w_lc (fun H g R' q => h H g R' fun J kn1 n1 H1 hJ g1 => q J kn1 n1 H1 ?_ g1)
  obtain ⟨xs, ka, f, p, hG, hl, hk, hs, hd⟩ := hJ
  have e1 : ∀ {k : Hp} {D : Addr} {o : HO}, k D = none → Ext k (upd k D o) := fun h x u e => know h e
  refine ⟨xs, ka, fun D i acc k m => m = n1 ∧ kn1 D = none ∧ acc = ((xs.take i).filter p).map f ∧ k = upd kn1 D (.lst acc), hG, hl, fun D hD => ⟨rfl, hD, by simp, rfl⟩, ?_, ?_, ?_⟩
  · rintro D i acc k m ⟨rfl, hD, rfl, rfl⟩
    refine ⟨hk _ (e1 hD), upd_same, ?_⟩
    rw [List.length_map]
    exact Nat.le_trans (List.length_filter_le _ _) (by rw [List.length_take]; exact Nat.min_le_left _ _)
  · rintro D i acc x k m hx ⟨rfl, hD, rfl, rfl⟩
    have ht : xs.take (i + 1) = xs.take i ++ [x] := by rw [List.take_add_one, hx]; rfl
    intro H g N' f'
    refine hs x (List.mem_of_getElem? hx) _ (e1 hD) H g N' fun σ2 k2 n2 H2 hq g2 => f' σ2 k2 n2 H2 ?_ g2
    obtain ⟨rfl, rfl, hw, hq⟩ := hq
    refine ⟨hw, hq.mono fun b k3 n3 hb => ?_⟩
    obtain ⟨rfl, rfl, rfl, he⟩ := hb
    refine ⟨fun hp => (he hp).mono fun y k4 n4 hy => ?_, fun hp => ⟨rfl, hD, ?_, rfl⟩⟩
    · obtain ⟨rfl, rfl, rfl⟩ := hy
      refine ⟨upd_same, rfl, hD, ?_, ?_⟩
      · rw [ht, List.filter_append, List.filter_cons_of_pos hp, List.map_append]; rfl
      · funext z
        by_cases hz : z = D
        · rw [hz, upd_same, upd_same]
        · rw [upd_ne hz, upd_ne hz, upd_ne hz]
    · rw [ht, List.filter_append, List.filter_cons_of_neg (by rw [hp]; exact Bool.false_ne_true)]
      simp
  · rintro D acc k m ⟨rfl, hD, rfl, rfl⟩
    rw [List.take_length]
    exact hd D hD
theorem w_yesT {QB : Bool → Hp → Nat → Prop} (q : QB true kn n) : W c (tYes σ) kn n QB := fun H g Q' k => k _ kn n H q g
/-- what no run comes to -/
theorem s_never {D : AE} (h : False) : WS c tNever D σ kn n := h.elim
theorem w_never {Q : V → Hp → Nat → Prop} (h : False) : W c ((fun _ _ _ => False : TE) σ) kn n Q := h.elim
end
end AW

/-! Ranges beyond 2^62. -/
namespace L2
open PySem PySem.Spec PyProof.Rows
theorem lot_int (tg : Expr) (it : Value) (i : Int) (t : Tok) : letOwnedTupleGo tg it (.int i t) = pure () := by
  cases tg <;> cases it <;> rfl
theorem iter_self (it : Addr) : Gives (Builtin.«dict_keyiterator.__iter__» { pos := [Value.ref it] }) (.val (.ref it)) := by
  intro prog w A R s h
  unfold Builtin.«dict_keyiterator.__iter__»
  refine wpAny_bind (wpAny_of_eq (a := ((Value.ref it : Value), ([] : List Value))) (by first | rfl | (simp only [slotArgs]; rfl)) ?_)
  exact wpAny_pure h
theorem pyIter_long {P : Program} {w : World} {A : Around} {E : Value → Shared → Prop} {s : Shared} {it : Addr} {x left step : Int} {Q : Value → Shared → Prop} (h : IsLongIter s.heap it x left step) (q : Q (.ref it) s) : wpAny (model P w) A (pyIter (.ref it)) Q E s := by
  have ty : s.TypeIs (.ref it) "longrange_iterator" := ⟨_, h, rfl⟩
  unfold pyIter
  refine wpAny_bind (wpAny_specialOf ty F.slot_longrange_iterator_iter.lookup ?_)
  dsimp only
  refine wpAny_bind (wpAny_callSpecialIfBoundUnlessNone?_slot ty F.slot_longrange_iterator_iter (call_gives F.slot_longrange_iterator_iter ty F.entry_longrange_iterator_iter (F.args_longrange_iterator_iter_1 _) (iter_self it) ?_))
  show wpAny _ _ _ _ _ _
  refine wpAny_bind (wpAny_specialOf ty F.slot_longrange_iterator_next.lookup ?_)
  exact wpAny_pure q
theorem turn_long {P : Program} {w : World} {K : PySem.W.Frag} {tg : Expr} (lo : Int) (n : Nat) (it : Addr) : Turn P w K tg (Itr lo n) [it] it (fun i h => i ≤ n ∧ IsLongIter h it (lo + (i : Int) * 1) ((n : Int) - i) 1) := by
  refine ⟨.head _, fun i h e b hb => ?_, fun i h h' e k => ?_, ?_, ?_, ?_⟩
  · rw [List.mem_singleton.1 hb]
    exact ⟨_, e.2, fun v z => nomatch z⟩
  · exact ⟨e.1, k it (.head _) _ e.2⟩
  · intro X hP hw hK hc i pins s σ H E I fp tn go
    subst hP hw hK
    have W := Walks.longrange (prog := X.prog) (w := X.w) (I.ok.hd hc) it lo 1 n
    refine W.item i s _ E go tn.2 fun v h' tk hv hs keep => ?_
    obtain ⟨t, rfl⟩ := hv
    refine ⟨_, rfl, ?_⟩
    rw [lot_int]
    obtain ⟨f1, f2, f3, f4, f5, f6⟩ := fp it (.head _)
    have go : i < n := go
    refine wpAny_pure ⟨.int (lo + i), H, I.turned (fun b o hb e => keep b o (by simp [hb]) e) f1 f2 f4 f5 f6, ?_, ⟨rfl, rfl⟩, ⟨go, hs⟩, fun b hb => by rw [List.mem_singleton.1 hb]; exact f1⟩
    exact ⟨t, by rw [Int.mul_one]⟩
  · intro X hP hw hK hc i pins s σ H E I fp tn st
    subst hP hw hK
    have W := Walks.longrange (prog := X.prog) (w := X.w) (I.ok.hd hc) it lo 1 n
    have st : n ≤ i := st
    obtain rfl : i = n := Nat.le_antisymm tn.1 st
    obtain ⟨f1, f2, f3, f4, f5, f6⟩ := fp it (.head _)
    exact W.done s _ E tn.2 fun h' tk keep => ⟨rfl, I.turned (fun b o hb e => keep b o (by simp [hb]) e) f1 f2 f4 f5 f6⟩
  · intro A i s Q E tn q
    exact pyIter_long tn.2 q
theorem size_1 (a b : Int) : Builtin.Range.rangeSize a b 1 = (((b - a).toNat : Nat) : Int) := by
  unfold Builtin.Range.rangeSize
  rw [if_pos (by decide)]
  split
  · rw [Int.ediv_one]
    omega
  · omega
/-- a range with any ends -/
def iRgA (tr : St → Hp → (Int → Int → Hp → Prop) → Prop) : TI := fun σ H R => tr σ H fun a b H1 => R (Itr a (b - a).toNat) H1
theorem pi_rangeA {X : Cx} {tg e : Expr} {tr : St → Hp → (Int → Int → Hp → Prop) → Prop} (he : PRg X e tr) : PI X tg e (iRgA tr) := by
  refine ⟨fun pins s σ H R I h => ?_⟩
  refine thn (he pins s σ H _ I h) fun x s1 ⟨r, a, b, t, u, v, H', ex, hr, I1, q⟩ => ?_
  subst ex
  have fp := I1.fpOk (b := s1.heap.objs.size) (Nat.le_refl _) (I1.hok.fresh (Nat.le_refl _))
  cases hs : Builtin.Range.small a b 1 with
  | true =>
    refine wpAny_pyIter_range hr hs ?_
    refine ⟨s1.heap.objs.size, [s1.heap.objs.size], _, Itr a (b - a).toNat, H', rfl, I1.kept (t' := s1.toks) fun c o e => Heap.get?_push_of_some _ e, turn_range s1.heap.objs.size a (b - a).toNat, ?_, fun c hc => by rw [List.mem_singleton.1 hc]; exact fp, q⟩
    show IsRangeIter _ _ _ _ _
    rw [size_1]
    have e1 : a + ((0 : Nat) : Int) * 1 = a := by omega
    have e2 : (((b - a).toNat : Nat) : Int) - ((0 : Nat) : Int) = (((b - a).toNat : Nat) : Int) := by omega
    rw [e1, e2]
    exact Heap.get?_push_size _ rfl
  | false =>
    refine wpAny_pyIter_longrange hr hs ?_
    refine ⟨s1.heap.objs.size, [s1.heap.objs.size], _, Itr a (b - a).toNat, H', rfl, I1.kept (t' := s1.toks) fun c o e => Heap.get?_push_of_some _ e, turn_long a (b - a).toNat s1.heap.objs.size, ⟨Nat.zero_le _, ?_⟩, fun c hc => by rw [List.mem_singleton.1 hc]; exact fp, q⟩
    show IsLongIter _ _ _ _ _
    rw [size_1]
    have e1 : a + ((0 : Nat) : Int) * 1 = a := by omega
    have e2 : (((b - a).toNat : Nat) : Int) - ((0 : Nat) : Int) = (((b - a).toNat : Nat) : Int) := by omega
    rw [e1, e2]
    exact Heap.get?_push_size _ rfl
end L2
namespace AW
open PySem PySem.Spec L2
theorem i_rgA {c : Cw} {kn : Hp} {n : Nat} {σ : L2.St} {ta tb : TE} {R : It → Hp → Nat → Prop} (h : W c (ta σ) kn n fun x kn1 n1 => W c (tb σ) kn1 n1 fun y kn2 n2 => ∃ i j, x = .int i ∧ y = .int j ∧ R (Itr i (j - i).toNat) kn2 n2) : WI c (iRgA (tRg2 ta tb) σ) kn n R :=
  fun H g R' q => h H g _ fun x kn1 n1 H1 h1 g1 => h1 H1 g1 _ fun y kn2 n2 H2 ⟨i, j, ex, ey, hr⟩ g2 => ⟨i, j, ex, ey, q _ _ _ _ hr g2⟩
end AW

/-! Tuples and lists of the same things compared: also of things that are no data. -/
namespace L2
open PySem PySem.Spec PyProof.Rows
theorem eqAt_ref {A : Around} {s : Shared} (a : Addr) : SeqAt.EqAt A s (.ref a) (.ref a) true := by
  intro prog w E Q q
  unfold eqBool
  refine wpAny_holding ?_
  rw [if_pos (by simp)]
  exact wpAny_bind (wpAny_rule (wpAny_pure q))
def plainV : V → Bool
  | .ref _ => true
  | v => flatB v
theorem eqAt_plain {A : Around} {s : Shared} {v : V} {u u' : Value} (r : RelV v u) (r' : RelV v u') (h : plainV v = true) : SeqAt.EqAt A s u u' true := by
  cases v with
  | ref a =>
    cases (show u = Value.ref a from r)
    cases (show u' = Value.ref a from r')
    exact eqAt_ref a
  | _ => exact eqAt_same r r' h
def rEqS (K : PySem.W.Frag) (neg : Bool) : R2 := fun x y H Q => ∃ p q xs, x = .ref p ∧ y = .ref q ∧ ((SqT K H p xs ∧ SqT K H q xs)) ∧ (∀ v ∈ xs, plainV v = true) ∧ Q (.bl (!neg)) H
section
variable {X : Cx}
theorem op_eqS (hu : X.A.units < cLine) : OpR X (compareOp .Eq) (rEqS X.K false) := by
  intro pins s σ H x y v u Q I rx ry h
  obtain ⟨p, q, xs, rfl, rfl, ⟨h1, h2⟩, hf, hq⟩ := h
  cases rx
  cases ry
  obtain ⟨its, v1, T1, z1⟩ := I.tuple h1
  obtain ⟨its2, v2, T2, z2⟩ := I.tuple h2
  obtain ⟨⟨c1, dd1, da1, sl1⟩, g1, rfl, n1, rfl⟩ := T1
  obtain ⟨⟨c2, dd2, da2, sl2⟩, g2, rfl, n2, rfl⟩ := T2
  have l1 := v1.length
  have l2 := v2.length
  show wpAny _ _ (richCompare .Eq (.ref p) (.ref q)) _ _ _
  refine wpAny_richCompare_same_or (T := "tuple") ⟨_, g1, rfl⟩ ⟨_, g2, rfl⟩ F.slot_tuple_eq ?_ (.inr hu)
  refine call_meets F.slot_tuple_eq ⟨_, g1, rfl⟩ F.entry_tuple_eq (F.args_tuple_eq_2 _ _) (SeqAt.tuple_eqAt p q its.toArray its2.toArray n1 n2 dd1 dd2 sl1 sl2 fun _ => true) ⟨g1, g2, fun j k1 k2 => ?_, ?_⟩
  · rw [List.size_toArray] at k1 k2
    have hx : j < xs.length := by omega
    obtain ⟨u1, e1, r1⟩ := v1.get (List.getElem?_eq_getElem hx)
    obtain ⟨u2, e2, r2⟩ := v2.get (List.getElem?_eq_getElem hx)
    rw [List.getElem?_eq_getElem k1] at e1
    rw [List.getElem?_eq_getElem k2] at e2
    cases e1
    cases e2
    exact eqAt_plain r1 r2 (hf _ (List.getElem_mem hx))
  · have e : ((List.range (min its.toArray.size its2.toArray.size)).all (fun _ => true) && its.toArray.size == its2.toArray.size) = true := by
      rw [List.size_toArray, List.size_toArray, ← l1, ← l2]
      simp
    rw [e]
    exact ⟨(fun z => nomatch z), ⟨.bl true, H, I, rfl, hq⟩⟩
end
end L2
namespace AW
open PySem PySem.Spec L2
theorem r_eqS {c : Cw} {kn : Hp} {n : Nat} {Q : V → Hp → Nat → Prop} {K : PySem.W.Frag} {p q : Addr} {xs : List V} (h1 : kn p = some (.tup xs)) (h2 : kn q = some (.tup xs)) (hf : ∀ v ∈ xs, plainV v = true) (k : Q (.bl true) kn n) : W c (rEqS K false (.ref p) (.ref q)) kn n Q :=
  fun H g _ z => ⟨p, q, xs, rfl, rfl, ⟨sqt (g.ex _ _ h1), sqt (g.ex _ _ h2)⟩, hf, z _ kn n H k g⟩
end AW

/-! == and != of two lists whose items' == may run a def of the text. -/
namespace L2
open PySem PySem.Spec PyProof.Rows PySem.SeqAt
/-- the turns that are left, the spot -/
def ElChain (prog : Program) (w : World) (A : Around) (l b : Addr) (neg : Bool) : Nat → Nat → (Result → Shared → Prop) → Shared → Prop
  | 0, i, R, s => ∃ items n items2 n2, s.heap.get? l = some (lstOf items n) ∧ s.heap.get? b = some (lstOf items2 n2) ∧ items.size = i ∧ items2.size = i ∧ R (.ok (.ret (.bool neg.not))) s
  | m + 1, i, R, s => ∃ items n items2 n2 x y, s.heap.get? l = some (lstOf items n) ∧ s.heap.get? b = some (lstOf items2 n2) ∧ items[i]? = some x ∧ items2[i]? = some y ∧
    wpAny (model prog w) A (eqBool x y) (fun k s' => (k = true → ElChain prog w A l b neg m (i + 1) R s') ∧
      (k = false → ∃ items n items2 n2 x y, s'.heap.get? l = some (lstOf items n) ∧ s'.heap.get? b = some (lstOf items2 n2) ∧ items[i]? = some x ∧ items2[i]? = some y ∧ R (.ok (.ret (.bool neg))) s')) (fun e s' => R (.error e) s') s
abbrev elCode (neg : Bool) : Int := if neg then 3 else 2
theorem plain_el : plainId "list.__eq__.loop" = true := PySem.MeetsSeq3.plain_eq_loop
theorem entry_el : entryFor table "list.__eq__.loop" = some Builtin.«list.__eq__.loop» := PySem.MeetsSeq3.entry_eq_loop
theorem el_chain {prog : Program} {w : World} {l b : Addr} {neg : Bool} (m : Nat) :
    ∀ i : Nat, MeetsIn prog w (Builtin.«list.__eq__.loop» ⟨[.ref l, .ref b, rawInt i, rawInt (elCode neg)], []⟩) (fun A R s => ElChain prog w A.in1 l b neg m i R s) := by
  induction m with
  | zero =>
    intro i A R s h
    obtain ⟨hp, g, d, tk, os⟩ := s
    obtain ⟨items, n, items2, n2, hl, hb, hi, hi2, h⟩ := h
    have none_at : items[((i : Nat) : Int).toNat]? = none := by
      rw [Int.toNat_natCast]
      exact Array.getElem?_eq_none (by omega)
    cases neg with
    | false =>
      wp_walk using wpAny_loadPart' hl, wpAny_loadPart' hb
      rw [none_at]
      wp_walk using wpAny_loadPart' hl, wpAny_loadPart' hb
      show R (Except.ok (Flow.ret (Value.bool (items.size == items2.size)))) _
      rw [hi, hi2, beq_self_eq_true]
      exact h
    | true =>
      wp_walk using wpAny_loadPart' hl, wpAny_loadPart' hb
      rw [none_at]
      wp_walk using wpAny_loadPart' hl, wpAny_loadPart' hb
      show R (Except.ok (Flow.ret (Value.bool (items.size != items2.size)))) _
      rw [hi, hi2, bne_self_eq_false]
      exact h
  | succ m ih =>
    intro i A R s h
    obtain ⟨hp, g, d, tk, os⟩ := s
    obtain ⟨items, n, items2, n2, x, y, hl, hb, hi, hi2, h⟩ := h
    have at1 : items[((i : Nat) : Int).toNat]? = some x := by simpa using hi
    have at2 : items2[((i : Nat) : Int).toNat]? = some y := by simpa using hi2
    have cast1 : ((i : Int) + 1) = ((i + 1 : Nat) : Int) := by push_cast; rfl
    cases neg with
    | false =>
      wp_walk using wpAny_loadPart' hl, wpAny_loadPart' hb
      rw [at1, at2]
      dsimp only
      refine wpAny_bind (wpAny_mono h (fun k s' hk => ?_) fun _ _ z => z)
      obtain ⟨ht, hf⟩ := hk
      cases k with
      | true =>
        wp_walk
        rw [cast1]
        refine ⟨plainId_quiet plain_el _, codeAny_builtin entry_el ?_⟩
        rw [Around.under_plainId plain_el _]
        exact ih (i + 1) A R s' (ht rfl)
      | false =>
        obtain ⟨hp, g, d, tk, os⟩ := s'
        obtain ⟨items, n, items2, n2, x, y, hl, hb, hi, hi2, h⟩ := hf rfl
        have at1 : items[((i : Nat) : Int).toNat]? = some x := by simpa using hi
        have at2 : items2[((i : Nat) : Int).toNat]? = some y := by simpa using hi2
        wp_walk using wpAny_loadPart' hl, wpAny_loadPart' hb
        rw [at1, at2]
        wp_walk
        exact h
    | true =>
      wp_walk using wpAny_loadPart' hl, wpAny_loadPart' hb
      rw [at1, at2]
      dsimp only
      refine wpAny_bind (wpAny_mono h (fun k s' hk => ?_) fun _ _ z => z)
      obtain ⟨ht, hf⟩ := hk
      cases k with
      | true =>
        wp_walk
        rw [cast1]
        refine ⟨plainId_quiet plain_el _, codeAny_builtin entry_el ?_⟩
        rw [Around.under_plainId plain_el _]
        exact ih (i + 1) A R s' (ht rfl)
      | false =>
        obtain ⟨hp, g, d, tk, os⟩ := s'
        obtain ⟨items, n, items2, n2, x, y, hl, hb, hi, hi2, h⟩ := hf rfl
        have at1 : items[((i : Nat) : Int).toNat]? = some x := by simpa using hi
        have at2 : items2[((i : Nat) : Int).toNat]? = some y := by simpa using hi2
        wp_walk using wpAny_loadPart' hl, wpAny_loadPart' hb
        rw [at1, at2]
        wp_walk
        exact h
theorem eq_list {prog : Program} {w : World} {l b : Addr} (m : Nat) :
    MeetsIn prog w (Builtin.«list.__eq__» ⟨[.ref l, .ref b], []⟩) (fun A R s => (∃ items n items2 n2, s.heap.get? l = some (lstOf items n) ∧ s.heap.get? b = some (lstOf items2 n2) ∧ items.size = items2.size) ∧ ElChain prog w A.in1 l b false m 0 R s) := by
  intro A R s h
  obtain ⟨hp, g, d, tk, os⟩ := s
  obtain ⟨⟨items, n, items2, n2, hl, hb, hs⟩, h⟩ := h
  have hne : (items.size != items2.size) = false := by rw [hs]; simp
  wp_walk using wpAny_loadPart' hl, wpAny_loadPart' hb
  refine wpAny_of_eq (show isSubtype (Value.type "list") (Value.type "list") = pure true from by first | rfl | kernel_rfl) ?_
  simp only [Bool.not_true, Bool.false_eq_true, if_false, show (CmpOp.Eq == CmpOp.Eq || CmpOp.Eq == CmpOp.NotEq) = true from rfl, if_true]
  wp_walk using wpAny_loadPart' hl, wpAny_loadPart' hb
  simp only [hne, Bool.false_eq_true, if_false]
  wp_walk
  refine ⟨plainId_quiet plain_el _, codeAny_builtin entry_el ?_⟩
  rw [Around.under_plainId plain_el _]
  exact el_chain (neg := false) m 0 A R _ h
theorem ne_list {prog : Program} {w : World} {l b : Addr} (m : Nat) :
    MeetsIn prog w (Builtin.«list.__ne__» ⟨[.ref l, .ref b], []⟩) (fun A R s => (∃ items n items2 n2, s.heap.get? l = some (lstOf items n) ∧ s.heap.get? b = some (lstOf items2 n2) ∧ items.size = items2.size) ∧ ElChain prog w A.in1 l b true m 0 R s) := by
  intro A R s h
  obtain ⟨hp, g, d, tk, os⟩ := s
  obtain ⟨⟨items, n, items2, n2, hl, hb, hs⟩, h⟩ := h
  have hne : (items.size != items2.size) = false := by rw [hs]; simp
  wp_walk using wpAny_loadPart' hl, wpAny_loadPart' hb
  refine wpAny_of_eq (show isSubtype (Value.type "list") (Value.type "list") = pure true from by first | rfl | kernel_rfl) ?_
  simp only [Bool.not_true, Bool.false_eq_true, if_false, show (CmpOp.NotEq == CmpOp.Eq || CmpOp.NotEq == CmpOp.NotEq) = true from rfl, if_true]
  wp_walk using wpAny_loadPart' hl, wpAny_loadPart' hb
  simp only [hne, Bool.false_eq_true, if_false]
  wp_walk
  refine ⟨plainId_quiet plain_el _, codeAny_builtin entry_el ?_⟩
  rw [Around.under_plainId plain_el _]
  exact el_chain (neg := true) m 0 A R _ h
end L2

/-! == and != of two lists of own objects. -/
namespace L2
open PySem PySem.Spec PyProof.Rows PySem.SeqAt
theorem el_eq {prog : Program} {w : World} {A : Around} {E : Value → Shared → Prop} {s : Shared} {l b : Addr} {Q : Value → Shared → Prop} (m : Nat) (hu : A.units < cLine) (h0 : ∃ items n items2 n2, s.heap.get? l = some (lstOf items n) ∧ s.heap.get? b = some (lstOf items2 n2) ∧ items.size = items2.size)
    (h : ElChain prog w A.in1 l b false m 0 (wants (fun v s' => v ≠ .notImplemented ∧ Q v s') E) s) : wpAny (model prog w) A (richCompare .Eq (.ref l) (.ref b)) Q E s := by
  obtain ⟨items, n, items2, n2, hl, hb, hs⟩ := id h0
  exact wpAny_richCompare_same_or (T := "list") ⟨_, hl, rfl⟩ ⟨_, hb, rfl⟩ F.slot_list_eq (call_meetsIn F.slot_list_eq ⟨_, hl, rfl⟩ F.entry_list_eq (F.args_list_eq_2 _ _) (eq_list m) ⟨h0, h⟩) (.inr hu)
theorem el_ne {prog : Program} {w : World} {A : Around} {E : Value → Shared → Prop} {s : Shared} {l b : Addr} {Q : Value → Shared → Prop} (m : Nat) (hu : A.units < cLine) (h0 : ∃ items n items2 n2, s.heap.get? l = some (lstOf items n) ∧ s.heap.get? b = some (lstOf items2 n2) ∧ items.size = items2.size)
    (h : ElChain prog w A.in1 l b true m 0 (wants (fun v s' => v ≠ .notImplemented ∧ Q v s') E) s) : wpAny (model prog w) A (richCompare .NotEq (.ref l) (.ref b)) Q E s := by
  obtain ⟨items, n, items2, n2, hl, hb, hs⟩ := id h0
  exact wpAny_richCompare_same_or (T := "list") ⟨_, hl, rfl⟩ ⟨_, hb, rfl⟩ F.slot_list_ne (call_meetsIn F.slot_list_ne ⟨_, hl, rfl⟩ F.entry_list_ne (F.args_list_ne_2 _ _) (ne_list m) ⟨h0, h⟩) (.inr hu)
/-- the pairs that are left -/
def ElCh (K : PySem.W.Frag) (C l b : Addr) (xs ys : List V) (sp : Sp) (neg : Bool) : List (Addr × Addr) → Hp → VK → Prop
  | [], H, Q => Q (.bl (!neg)) H
  | (p, q) :: r, H, Q => (∃ dx fs, H p = some (.ins C dx fs)) ∧ (∃ t, TyX K H (.ref q) t ∧ PySem.W.notFirst K C t = true) ∧ (p = q → ElCh K C l b xs ys sp neg r H Q) ∧
    (p ≠ q → sp [.ref p, .ref q] H (fun u H1 => ∃ k, u = .bl k ∧ H1 l = some (.lst xs) ∧ H1 b = some (.lst ys) ∧ (k = true → ElCh K C l b xs ys sp neg r H1 Q) ∧ (k = false → Q (.bl neg) H1)) (fun _ _ _ => False))
def rEqLO (K : PySem.W.Frag) (C : Addr) (sp : Sp) (neg : Bool) : R2 := fun x y H Q => ∃ l b ps, x = .ref l ∧ y = .ref b ∧ H l = some (.lst (ps.map fun p : Addr × Addr => .ref p.1)) ∧ H b = some (.lst (ps.map fun p : Addr × Addr => .ref p.2)) ∧
  ElCh K C l b (ps.map fun p : Addr × Addr => .ref p.1) (ps.map fun p : Addr × Addr => .ref p.2) sp neg ps H Q
section
variable {X : Cx} {CX : CXT} {k : Nat} {f C l b : Addr} {fd : FuncData} {ps : List Str} {sp : Sp} {pins : List (Addr × Obj)} {σ : St}
theorem el_walk {Q : VK} {neg : Bool} (hu : X.A.in1.units < cLine) (M : EqM X.K C f) (F : FnOk X.prog X.w X.K X.mg X.base CX k f fd ps sp) (hr : Room k X.A.in1) (hb : Binds X.K fd ps []) (hx : Passes CX X (fun _ _ _ => False)) {prs : List (Addr × Addr)} :
    ∀ (r done : List (Addr × Addr)) (H : Hp) (s : Shared), prs = done ++ r → Inv X pins σ H s → H l = some (.lst (prs.map fun p : Addr × Addr => .ref p.1)) → H b = some (.lst (prs.map fun p : Addr × Addr => .ref p.2)) → ElCh X.K C l b (prs.map fun p : Addr × Addr => .ref p.1) (prs.map fun p : Addr × Addr => .ref p.2) sp neg r H Q →
      ElChain X.prog X.w X.A.in1 l b neg r.length done.length (wants (fun v s' => v ≠ .notImplemented ∧ EP X pins σ Q v s') X.xe) s := by
  intro r
  induction r with
  | nil =>
    intro done H s e I hl hb2 h
    obtain ⟨_, its, n, rv, hlen, e1⟩ := I.lstM hl
    obtain ⟨_, its2, n2, rv2, hlen2, e2⟩ := I.lstM hb2
    rw [List.length_map, e, List.append_nil] at hlen hlen2
    exact ⟨its.toArray, n, its2.toArray, n2, e1, e2, by rw [List.size_toArray, ← hlen], by rw [List.size_toArray, ← hlen2], (fun z => nomatch z), .bl neg.not, H, I, rfl, h⟩
  | cons pq r ih =>
    obtain ⟨p, q⟩ := pq
    intro done H s e I hl hb2 h
    obtain ⟨⟨dx, fs, hp⟩, ⟨t, ty, nf⟩, hsame, hsp⟩ := h
    have nxt : prs = (done ++ [(p, q)]) ++ r := by rw [e]; simp
    have spots : ∀ {s' : Shared} {H' : Hp}, Inv X pins σ H' s' → H' l = some (.lst (prs.map fun p : Addr × Addr => .ref p.1)) → H' b = some (.lst (prs.map fun p : Addr × Addr => .ref p.2)) →
        ∃ items n items2 n2, s'.heap.get? l = some (lstOf items n) ∧ s'.heap.get? b = some (lstOf items2 n2) ∧ items[done.length]? = some (Value.ref p) ∧ items2[done.length]? = some (Value.ref q) := fun {s' H'} I' hl' hb' => by
      obtain ⟨_, its, n, rv, hlen, e1⟩ := I'.lstM hl'
      obtain ⟨_, its2, n2, rv2, hlen2, e2⟩ := I'.lstM hb'
      obtain ⟨u1, g1, r1⟩ := rv.get (show (prs.map fun p : Addr × Addr => V.ref p.1)[done.length]? = some (V.ref p) by rw [e]; simp)
      obtain ⟨u2, g2, r2⟩ := rv2.get (show (prs.map fun p : Addr × Addr => V.ref p.2)[done.length]? = some (V.ref q) by rw [e]; simp)
      cases (show u1 = Value.ref p from r1)
      cases (show u2 = Value.ref q from r2)
      exact ⟨its.toArray, n, its2.toArray, n2, e1, e2, by rw [List.getElem?_toArray]; exact g1, by rw [List.getElem?_toArray]; exact g2⟩
    obtain ⟨items, n, items2, n2, e1, e2, g1, g2⟩ := spots I hl hb2
    refine ⟨items, n, items2, n2, .ref p, .ref q, e1, e2, g1, g2, ?_⟩
    by_cases hpq : p = q
    · subst hpq
      refine eqAt_ref p _ _ _ _ ⟨fun _ => ?_, fun z => nomatch z⟩
      have z := ih (done ++ [(p, p)]) H s nxt I hl hb2 (hsame rfl)
      rw [List.length_append] at z
      exact z
    · unfold eqBool
      refine wpAny_holding ?_
      refine wpAny_ite_split (fun z => absurd (Value.ref.inj (eq_of_beq z)) hpq) (fun _ => ?_)
      obtain ⟨mA, J, _⟩ := ins_get I.hok hp
      obtain ⟨od, J, _⟩ := J.look
      obtain ⟨m0, hF⟩ := I.fr
      have hbt := typeOf_of I (show RelV (V.ref q) (Value.ref q) from rfl) ty
      refine wpAny_bind (PySem.W.cmp_K (op := .Eq) hu hF I.ok.mod.kin J hbt nf M.hs M.hf ?_)
      refine wpAny_mono (callA (A := X.A.in1) (vs := [.ref p, .ref q]) F hr rfl hb hx I (.cons rfl (.cons rfl .nil)) (hsp hpq)) (fun z s' hz => ?_) fun _ _ z => z
      obtain ⟨v', H', I', rv', k, ek, hl', hb', ht, hf⟩ := hz
      subst ek
      cases (show z = Value.bool k from rv')
      show wpAny _ _ (truthOfDropped (.bool k)) _ _ _
      refine (show wpAny _ _ (truthy (.bool k)) _ _ _ from wpAny_truthy_bool ⟨fun hk => ?_, fun hk => ?_⟩)
      · have z := ih (done ++ [(p, q)]) H' s' nxt I' hl' hb' (ht hk)
        rw [List.length_append] at z
        exact z
      · obtain ⟨items, n, items2, n2, e1, e2, g1, g2⟩ := spots I' hl' hb'
        exact ⟨items, n, items2, n2, .ref p, .ref q, e1, e2, g1, g2, (fun z => nomatch z), .bl neg, H', I', rfl, hf hk⟩
theorem op_eqLO (M : EqM X.K C f) (F : FnOk X.prog X.w X.K X.mg X.base CX k f fd ps sp) (hr : Room (k + 1) X.A) (hb : Binds X.K fd ps []) (hx : Passes CX X (fun _ _ _ => False)) : OpR X (compareOp .Eq) (rEqLO X.K C sp false) := by
  intro pins s σ H x y v u Q I rx ry h
  obtain ⟨l, b, prs, rfl, rfl, hl, hb2, h⟩ := h
  cases (show v = Value.ref l from rx)
  cases (show u = Value.ref b from ry)
  obtain ⟨_, its, n, rv, hlen, e1⟩ := I.lstM hl
  obtain ⟨_, its2, n2, rv2, hlen2, e2⟩ := I.lstM hb2
  rw [List.length_map] at hlen hlen2
  exact el_eq prs.length hr.units0 ⟨its.toArray, n, its2.toArray, n2, e1, e2, by rw [List.size_toArray, List.size_toArray, ← hlen, ← hlen2]⟩ (el_walk hr.in1.units0 M F hr.in1 hb hx prs [] H s rfl I hl hb2 h)
theorem op_neLO (M : EqM X.K C f) (F : FnOk X.prog X.w X.K X.mg X.base CX k f fd ps sp) (hr : Room (k + 1) X.A) (hb : Binds X.K fd ps []) (hx : Passes CX X (fun _ _ _ => False)) : OpR X (compareOp .NotEq) (rEqLO X.K C sp true) := by
  intro pins s σ H x y v u Q I rx ry h
  obtain ⟨l, b, prs, rfl, rfl, hl, hb2, h⟩ := h
  cases (show v = Value.ref l from rx)
  cases (show u = Value.ref b from ry)
  obtain ⟨_, its, n, rv, hlen, e1⟩ := I.lstM hl
  obtain ⟨_, its2, n2, rv2, hlen2, e2⟩ := I.lstM hb2
  rw [List.length_map] at hlen hlen2
  exact el_ne prs.length hr.units0 ⟨its.toArray, n, its2.toArray, n2, e1, e2, by rw [List.size_toArray, List.size_toArray, ← hlen, ← hlen2]⟩ (el_walk hr.in1.units0 M F hr.in1 hb hx prs [] H s rfl I hl hb2 h)
end
end L2
namespace AW
open PySem PySem.Spec PyProof.Rows L2
/-- two lists of own objects, whose == changes nothing that is known -/
theorem r_eqLO {K : PySem.W.Frag} {c : Cw} {kn : Hp} {n : Nat} {Q : V → Hp → Nat → Prop} {B : List V → Hp → AK → AXK → Prop} {C l b : Addr} {neg : Bool} {prs : List (Addr × Addr)} (e : Addr × Addr → Bool) (hm : MonoX B) (nf : PySem.W.notFirst K C (.ref C) = true)
    (hl : kn l = some (.lst (prs.map fun p : Addr × Addr => .ref p.1))) (hb : kn b = some (.lst (prs.map fun p : Addr × Addr => .ref p.2))) (own : ∀ pq ∈ prs, (∃ dx fs, kn pq.1 = some (.ins C dx fs)) ∧ TyX K kn (.ref pq.2) (.ref C)) (es : ∀ pq ∈ prs, pq.1 = pq.2 → e pq = true)
    (h : ∀ pq ∈ prs, pq.1 ≠ pq.2 → B [.ref pq.1, .ref pq.2] kn (fun u k => u = .bl (e pq) ∧ k = kn) (fun _ _ _ => False)) (q : Q (.bl (if neg then !(prs.all e) else prs.all e)) kn n) : W c (rEqLO K C (liftX B) neg (.ref l) (.ref b)) kn n Q := by
  intro H g Q' k
  have walk : ∀ (r : List (Addr × Addr)), (∀ v ∈ r, v ∈ prs) → (Q (.bl (if neg then !(r.all e) else r.all e)) kn n) → ∀ H, Good c kn n H → ElCh K C l b (prs.map fun p : Addr × Addr => .ref p.1) (prs.map fun p : Addr × Addr => .ref p.2) (liftX B) neg r H Q' := by
    intro r
    induction r with
    | nil =>
      intro _ q H g
      refine k _ _ _ _ ?_ g
      cases neg
      · exact q
      · exact q
    | cons pq r ih =>
      obtain ⟨p, q'⟩ := pq
      intro hr q H g
      have hin := hr (p, q') List.mem_cons_self
      obtain ⟨⟨dx, fs, hp⟩, ty⟩ := own _ hin
      have ih := ih fun w hw => hr w (List.mem_cons_of_mem _ hw)
      refine ⟨⟨dx, fs, g.ex _ _ hp⟩, ⟨_, tyx_ext g.ex ty, nf⟩, fun same => ?_, fun ne => ⟨kn, g.ex, g.nt, hm _ _ _ _ _ _ (fun u k' hu n' H' g' => ?_) (fun _ _ _ z => z.elim) (h _ hin ne)⟩⟩
      · refine ih ?_ H g
        rw [List.all_cons, es _ hin same, Bool.true_and] at q
        exact q
      · obtain ⟨rfl, rfl⟩ := hu
        have g2 : Good c k' n H' := g.back g'
        refine ⟨_, rfl, g2.ex _ _ hl, g2.ex _ _ hb, fun ht => ih ?_ H' g2, fun hf => k _ _ _ _ ?_ g2⟩
        · rw [List.all_cons, ht, Bool.true_and] at q
          exact q
        · rw [List.all_cons, hf, Bool.false_and] at q
          cases neg
          · exact q
          · exact q
  exact ⟨l, b, prs, rfl, rfl, g.ex _ _ hl, g.ex _ _ hb, walk prs (fun _ z => z) q H g⟩
end AW

/-! bool of a tuple, repr of a number or None, a dict of one entry. -/
namespace L2
open PySem PySem.Spec PyProof.Rows
section
variable {X : Cx}
def rBoolT (K : PySem.W.Frag) : List V → Hp → VK → Prop := fun xs H Q => ∃ (a : Addr) (zs : List V), xs = [.ref a] ∧ SqT K H a zs ∧ Q (.bl (!zs.isEmpty)) H
theorem c_boolT : CallR X (.type "bool") (rBoolT X.K) := by
  intro pins s σ H xs us Q I r h
  obtain ⟨a, zs, rfl, hq, q⟩ := h
  obtain ⟨u, rfl, rx⟩ := vals1 r
  cases (show u = Value.ref a from rx)
  obtain ⟨its, rv, pl, hz⟩ := I.tuple hq
  have hl := line63
  have hlen := rv.length
  refine callType_newIn PySem.F.called_bool PySem.F.newNe_bool (PySem.F.typeCall_bool_1 _) (PySem.F.newCall_bool_1 _) (fun obj => PySem.F.args_object_init_2 obj _) PySem.F.entry_bool_new bool_new_own ?_
  refine truthy_tuple pl (by simp only [List.size_toArray]; omega) ?_
  refine ⟨PySem.typeIs_bool _ _, .bl (!zs.isEmpty), H, I.tok _, ?_, q⟩
  rw [isEmpty_of rv]
  rfl
def rReprS : List V → Hp → VK → Prop := fun xs H Q => (∃ i : Int, xs = [.int i] ∧ i.natAbs.log2 < 1920 ∧ Q (.str (toString i)) H) ∨ (xs = [.non] ∧ Q (.str "None") H)
theorem c_reprS : CallR X (.builtin "repr") rReprS := by
  intro pins s σ H xs us Q I r h
  rcases h with ⟨i, rfl, hz, q⟩ | ⟨rfl, q⟩
  · obtain ⟨u, rfl, t, rfl⟩ := vals1 r
    exact PySem.P.repr_of_int hz ⟨.str _, H, I.tok _, ⟨_, rfl⟩, q⟩
  · obtain ⟨u, rfl, rx⟩ := vals1 r
    cases (show u = Value.none from rx)
    exact PySem.P.repr_of_none ⟨.str "None", H, I.tok _, ⟨_, rfl⟩, q⟩
end
end L2
namespace AW
open PySem PySem.Spec L2
section
variable {K : PySem.W.Frag} {c : Cw} {kn : Hp} {n : Nat} {σ : L2.St} {Q : V → Hp → Nat → Prop}
theorem r_boolT {p : Addr} {xs : List V} (h : kn p = some (.tup xs)) (q : Q (.bl (!xs.isEmpty)) kn n) : W c (rBoolT K [.ref p]) kn n Q := fun H g _ k => ⟨p, xs, rfl, sqt (g.ex _ _ h), k _ kn n H q g⟩
def reprV : V → Str
  | .int i => Str.ofString (toString i)
  | _ => Str.ofString "None"
theorem r_reprS {v : V} (hv : (∃ i : Int, v = .int i ∧ i.natAbs.log2 < 1920) ∨ v = .non) (q : Q (.str (reprV v)) kn n) : W c (rReprS [v]) kn n Q := fun H g _ k => by
  rcases hv with ⟨i, rfl, hi⟩ | rfl
  · exact .inl ⟨i, rfl, hi, k _ kn n H q g⟩
  · exact .inr ⟨rfl, k _ kn n H q g⟩
/-- {k: v} -/
theorem w_dict1 {tk tv : TE} (h : ∀ p, kn p = none → W c (tk σ) (upd kn p (.dK [])) n fun x kn1 n1 => W c (tv σ) kn1 n1 fun y kn2 n2 => ∃ k, x = kV k ∧ kn2 p = some (.dK []) ∧ Q (.ref p) (upd kn2 p (.dK (mergeK [] [(k, y)]))) n2) : W c (tDisp [(tk, tv)] σ) kn n Q :=
  fun H g Q' q => fun p hp => h p (g.free hp) _ (g.new hp) _ fun x kn1 n1 H1 h1 g1 => h1 H1 g1 _ fun y kn2 n2 H2 ⟨k, e, hd, h2⟩ g2 => ⟨g2.ex _ _ hd, [(k, y)], by rw [e]; rfl, (show 1 ≤ 15 by decide), q _ _ _ _ h2 (g2.put hd rfl)⟩
end
end AW

/-! Pieces that several laws' own defs have. -/
namespace AW
open PySem PySem.Spec L2 LamX
section
variable {c : Cw} {kn : Hp} {n : Nat} {σ : L2.St} {Q : V → Hp → Nat → Prop} {K : PySem.W.Frag}
/-- a value that changes nothing -/
theorem w_pure {t : TE} (v0 : V) (h : W c (t σ) kn n fun v k m => v = v0 ∧ k = kn ∧ m = n) (q : Q v0 kn n) : W c (t σ) kn n Q :=
  h.mono fun v k m ⟨e1, e2, e3⟩ => by subst e1 e2 e3; exact q
theorem w_revL {te : TE} (h : W c (te σ) kn n fun x kn1 n1 => ∃ a xs, x = .ref a ∧ kn1 a = some (.lst xs) ∧ ∀ p, kn1 p = none → Q (.ref p) (upd kn1 p (.lst xs.reverse)) n1) : W c (tRevL K te σ) kn n Q :=
  fun H g Q' q => h H g _ fun x kn1 n1 H1 ⟨a, xs, e, hx, hq⟩ g1 => ⟨a, xs, e, sql (g1.ex _ _ hx), fun p hp => q _ _ _ _ (hq p (g1.free hp)) (g1.new hp)⟩
end
/-- [n for n in range(s) if draw(pen, 2) == 0] -/
theorem w_lcOver {p a : Addr} {ns : List Int} {TT : List (Addr × Str)} {kn : Hp} {n : Nat} {σ : L2.St} {Q : V → Hp → Nat → Prop} {s jp js m : Nat} (h4 : σ[js]? = some (some (.int (s : Int)))) (h1 : ∀ v : V, ((wipe σ [m]).set m (some v))[jp]? = some (some (.ref p))) (h6 : ∀ v : V, ((wipe σ [m]).set m (some v))[m]? = some (some v)) (hw : ∀ v : V, wipe ((wipe σ [m]).set m (some v)) [m] = wipe σ [m])
    (hs : s ≤ 100) (hn : n + s + 1 < 1000000)
    (h : ∀ (D : Addr) (ys : List Nat) (n' : Nat), kn D = none → (∀ y ∈ ys, y < s) → ys.length ≤ s → n' ≤ n + s → Q (.ref D) (upd kn D (.lst (ys.map fun (i : Nat) => V.int i))) n') :
    W (penC p a ns TT) (tLc (iRng1 (tCons (tVar js) tNil)) (gName m) (tTest (tOp rEq (tCall spDraw [] E0 (tCons (tVar jp) (tCons (tC (.int 2)) tNil))) (tC (.int 0)))) (tVar m) [m] σ) kn n Q := by
  refine w_lc (i_rng1 (w_cons (w_var h4 (w_nil ⟨_, rfl, by omega, by omega, ?_⟩))))
  rw [Int.toNat_natCast]
  refine ⟨_, (fun _ => True), fun D i acc k m => k = upd kn D (.lst acc) ∧ kn D = none ∧ m ≤ n + i ∧ i ≤ s ∧ ∃ ys : List Nat, acc = (ys.map fun (i : Nat) => V.int i) ∧ ys.length ≤ i ∧ ∀ y ∈ ys, y < s, gives_rng, by rw [List.length_map, List.length_range]; omega, fun D hD => ⟨rfl, hD, by omega, by omega, [], rfl, Nat.le_refl 0, fun y hy => (by cases hy)⟩, ?_, ?_, ?_⟩
  · rintro D i acc k m ⟨rfl, hD, _, _, ys, rfl, hl, _⟩
    exact ⟨trivial, upd_same, by rw [List.length_map]; exact hl⟩
  · rintro D i acc x k m hx ⟨rfl, hD, hm, _, ys, rfl, hl, hy⟩
    have hi : i < s := by
      have := (List.getElem?_eq_some_iff.1 hx).1
      rw [List.length_map, List.length_range] at this
      exact this
    obtain rfl : x = V.int (i : Int) := by
      rw [List.getElem?_map, List.getElem?_range hi] at hx
      rw [← Option.some.inj hx]
      exact congrArg V.int (show (0 : Int) + ((i : Nat) : Int) = ((i : Nat) : Int) by omega)
    refine g_name ⟨hw _, w_test (w_op (w_draw (w_cons (w_var (h1 _) (w_cons (w_c (w_nil ⟨2, rfl, by omega, by decide, by decide, fun k2 k20 k21 => w_c (r_eq rfl ⟨_, rfl, fun _ => ?_, fun _ => ?_⟩)⟩)))))))⟩
    · refine w_var (h6 _) ⟨upd_same, ?_, hD, by omega, by omega, ys ++ [i], by rw [List.map_append]; rfl, by rw [List.length_append]; show _ + 1 ≤ _; omega, fun y hy2 => ?_⟩
      · funext b
        by_cases hb : b = D
        · rw [hb, upd_same, upd_same]
        · rw [upd_ne hb, upd_ne hb, upd_ne hb]
      · rcases List.mem_append.1 hy2 with z | z
        · exact hy y z
        · rw [List.mem_singleton.1 z]
          exact hi
    · exact ⟨rfl, hD, by omega, by omega, ys, rfl, by omega, hy⟩
  · rintro D acc k m ⟨rfl, hD, hm, hs2, ys, rfl, hl, hy⟩
    rw [List.length_map, List.length_range] at hm hl
    exact h D ys m hD hy (by omega) (by omega)
section
variable {c : Cw} {kn : Hp} {n : Nat} {σ : L2.St} {Q : V → Hp → Nat → Prop}
/-- a comprehension without a test that changes nothing, its items one by one -/
theorem w_lcV {wi : TI} {gt : TG} {te : TE} {vs : List Nat}
    (h : WI c (wi σ) kn n fun J kn1 n1 => ∃ (xs : List V) (ka : Hp → Prop) (ys : List V), Gives J xs ka ∧ xs.length ≤ 100000 ∧ ys.length = xs.length ∧ (∀ k, Ext kn1 k → ka k) ∧
      (∀ (i : Nat) (x y : V), xs[i]? = some x → ys[i]? = some y → ∀ k, Ext kn1 k → WG c gt x (wipe σ vs) k n1 fun σ2 k2 n2 => k2 = k ∧ n2 = n1 ∧ wipe σ2 vs = wipe σ vs ∧ W c (te σ2) k n1 fun v k4 n4 => v = y ∧ k4 = k ∧ n4 = n1) ∧
      ∀ D, kn1 D = none → Q (.ref D) (upd kn1 D (.lst ys)) n1) : W c (tLc wi gt tYes te vs σ) kn n Q := by
  refine w_lc (fun H g R' q => h H g R' fun J kn1 n1 H1 hJ g1 => q J kn1 n1 H1 ?_ g1)
  obtain ⟨xs, ka, ys, hG, hl, hy, hk, hs, hd⟩ := hJ
  have e1 : ∀ {k : Hp} {D : Addr} {o : HO}, k D = none → Ext k (upd k D o) := fun h x u e => know h e
  refine ⟨xs, ka, fun D i acc k m => m = n1 ∧ kn1 D = none ∧ acc = ys.take i ∧ k = upd kn1 D (.lst acc), hG, hl, fun D hD => ⟨rfl, hD, by simp, rfl⟩, ?_, ?_, ?_⟩
  · rintro D i acc k m ⟨rfl, hD, rfl, rfl⟩
    exact ⟨hk _ (e1 hD), upd_same, by rw [List.length_take]; exact Nat.min_le_left _ _⟩
  · rintro D i acc x k m hx ⟨rfl, hD, rfl, rfl⟩
    have hi : i < ys.length := by rw [hy]; exact (List.getElem?_eq_some_iff.1 hx).1
    intro H g N' f'
    refine hs i x _ hx (List.getElem?_eq_getElem hi) _ (e1 hD) H g N' fun σ2 k2 n2 H2 hq g2 => f' σ2 k2 n2 H2 ?_ g2
    obtain ⟨rfl, rfl, hw, hq⟩ := hq
    refine ⟨hw, w_yesT ⟨fun _ => hq.mono fun y k4 n4 hy2 => ?_, fun z => nomatch z⟩⟩
    obtain ⟨rfl, rfl, rfl⟩ := hy2
    refine ⟨upd_same, rfl, hD, ?_, ?_⟩
    · rw [List.take_add_one, List.getElem?_eq_getElem hi]; rfl
    · funext z
      by_cases hz : z = D
      · rw [hz, upd_same, upd_same]
      · rw [upd_ne hz, upd_ne hz, upd_ne hz]
  · rintro D acc k m ⟨rfl, hD, rfl, rfl⟩
    rw [← hy, List.take_length]
    exact hd D hD
/-- a comprehension without a test whose items are made anew -/
theorem w_lcN {wi : TI} {gt : TG} {te : TE} {vs : List Nat} (R : Nat → V → Hp → Prop) (hE : ∀ i v k k', Ext k k' → R i v k → R i v k') (hP : ∀ i v k D zs o, k D = some (.lst zs) → R i v k → R i v (upd k D o))
    (h : WI c (wi σ) kn n fun J kn1 n1 => ∃ (xs : List V) (ka : Hp → Prop), Gives J xs ka ∧ xs.length ≤ 100000 ∧ (∀ k, Ext kn1 k → ka k) ∧
      (∀ (i : Nat) (x : V), xs[i]? = some x → ∀ k, Ext kn1 k → WG c gt x (wipe σ vs) k n1 fun σ2 k2 n2 => k2 = k ∧ n2 = n1 ∧ wipe σ2 vs = wipe σ vs ∧ W c (te σ2) k n1 fun v k4 n4 => n4 = n1 ∧ Ext k k4 ∧ R i v k4) ∧
      ∀ D k (ys : List V), Ext kn1 k → kn1 D = none → k D = some (.lst ys) → ys.length = xs.length → (∀ (i : Nat) (y : V), ys[i]? = some y → R i y k) → Q (.ref D) k n1) : W c (tLc wi gt tYes te vs σ) kn n Q := by
  refine w_lc (fun H g R' q => h H g R' fun J kn1 n1 H1 hJ g1 => q J kn1 n1 H1 ?_ g1)
  obtain ⟨xs, ka, hG, hl, hk, hs, hd⟩ := hJ
  have e1 : ∀ {k : Hp} {D : Addr} {o : HO}, k D = none → Ext k (upd k D o) := fun h x u e => know h e
  refine ⟨xs, ka, fun D i acc k m => m = n1 ∧ kn1 D = none ∧ Ext kn1 k ∧ k D = some (.lst acc) ∧ acc.length = i ∧ ∀ (j : Nat) (y : V), acc[j]? = some y → R j y k, hG, hl, fun D hD => ⟨rfl, hD, e1 hD, upd_same, rfl, fun j y hj => (by cases hj)⟩, ?_, ?_, ?_⟩
  · rintro D i acc k m ⟨rfl, hD, ek, kD, hl, hr⟩
    exact ⟨hk _ ek, kD, Nat.le_of_eq hl⟩
  · rintro D i acc x k m hx ⟨rfl, hD, ek, kD, hl, hr⟩
    intro H g N' f'
    refine hs i x hx _ ek H g N' fun σ2 k2 n2 H2 hq g2 => f' σ2 k2 n2 H2 ?_ g2
    obtain ⟨rfl, rfl, hw, hq⟩ := hq
    refine ⟨hw, w_yesT ⟨fun _ => hq.mono fun y k4 n4 hy2 => ?_, fun z => nomatch z⟩⟩
    obtain ⟨rfl, e4, hy⟩ := hy2
    have kD4 := e4 _ _ kD
    refine ⟨kD4, rfl, hD, fun z o hz => ?_, upd_same, by rw [List.length_append, hl]; rfl, fun j y' hj => ?_⟩
    · rw [upd_ne (fun e => by rw [e, hD] at hz; cases hz)]
      exact e4 _ _ (ek _ _ hz)
    · refine hP _ _ _ _ _ _ kD4 ?_
      rcases Nat.lt_or_ge j acc.length with z | z
      · rw [List.getElem?_append_left z] at hj
        exact hE _ _ _ _ e4 (hr j y' hj)
      · rw [List.getElem?_append_right z] at hj
        have : j - acc.length = 0 := by
          rcases Nat.eq_zero_or_pos (j - acc.length) with e | e
          · exact e
          · rw [List.getElem?_eq_none (by show 1 ≤ _; omega)] at hj; cases hj
        rw [this] at hj
        cases hj
        have : j = i := by omega
        rw [this]
        exact hy
  · rintro D acc k m ⟨rfl, hD, ek, kD, hl, hr⟩
    exact hd D k acc ek hD kD hl hr
end
end AW

namespace NN
open PySem PySem.Spec PyProof.Rows L2 LamX AW ClX
def codeTab : Obj → Option Addr
  | ⟨.type "code", _, .fields vs, _⟩ => match (vs[11]? : Option Value) with | some (.ref P) => some P | _ => none
  | _ => none
def codeB (o : Obj) (c P : Addr) : Bool := PySem.W.codeHdIn [(c, o)] c P
theorem codeB_in {K : PySem.W.Frag} {o : Obj} {c P : Addr} (h : K.lookup c = some o) (e : codeB o c P = true) : PySem.W.codeHdIn K c P = true := by
  have q : ([(c, o)] : PySem.W.Frag).lookup c = some o := by simp [List.lookup]
  unfold codeB PySem.W.codeHdIn at e
  rw [q] at e
  unfold PySem.W.codeHdIn
  rw [h]
  exact e
theorem mem_look {β : Type} : ∀ {l : List (Addr × β)} {a : Addr} {b : β}, l.lookup a = some b → (a, b) ∈ l
  | [], _, _, e => by cases e
  | (c, x) :: r, a, b, e => by
    rw [List.lookup_cons] at e
    cases hb : a == c with
    | true => rw [hb] at e; cases e; rw [eq_of_beq hb]; exact .head _
    | false => rw [hb] at e; exact .tail _ (mem_look e)
theorem none_of {K : Params → PySem.W.Frag} {as : List Addr} {e : ∀ P, as = (K P).map (·.1)} {ts : List Addr} {w : World} {h : Heap} (_ : (PySem.W.kmHook K as e ts).says w h) {a : Addr} (ha : decide (a ∈ as) = false) : (K w.params).lookup a = none := by
  cases q : (K w.params).lookup a with
  | none => rfl
  | some o =>
    have m : a ∈ as := by rw [e w.params]; exact List.mem_map.mpr ⟨(a, o), mem_look q, rfl⟩
    exact absurd m (of_decide_eq_false ha)
def top (i : Nat) : Stmt := PySem.Challenge.pw_nodeadnight_k12_days_joined_and_moved.main.body.getD i (.Pass ⟨0, 0, 0, 0⟩)
abbrev s_is_whole : Stmt := top 4
theorem sc_is_whole : FnScope ["value"] ["value"] (defScope s_is_whole) :=
  ⟨rfl, rfl, rfl, by decide +kernel, rfl, by decide +kernel, by decide +kernel⟩
abbrev s_is_from : Stmt := top 5
theorem sc_is_from : FnScope ["value", "least", "most"] ["value", "least", "most"] (defScope s_is_from) :=
  ⟨rfl, rfl, rfl, by decide +kernel, rfl, by decide +kernel, by decide +kernel⟩
abbrev s_are_from : Stmt := top 6
theorem sc_are_from : FnScope ["values", "least", "most", "value"] ["values", "least", "most"] (defScope s_are_from) :=
  ⟨rfl, rfl, rfl, by decide +kernel, rfl, by decide +kernel, by decide +kernel⟩
abbrev s_marked : Stmt := top 8
theorem sc_marked : FnScope ["size", "numbers", "marks", "n"] ["size", "numbers"] (defScope s_marked) :=
  ⟨rfl, rfl, rfl, by decide +kernel, rfl, by decide +kernel, by decide +kernel⟩
abbrev s_least_period : Stmt := top 9
theorem sc_least_period : FnScope ["turn", "size", "period"] ["turn"] (defScope s_least_period) :=
  ⟨rfl, rfl, rfl, by decide +kernel, rfl, by decide +kernel, by decide +kernel⟩
abbrev s_BadDays___init__ : Stmt := inClass (top 14) 0
theorem sc_BadDays___init__ : FnScope ["self", "part"] ["self", "part"] (defScope s_BadDays___init__) :=
  ⟨rfl, rfl, rfl, by decide +kernel, rfl, by decide +kernel, by decide +kernel⟩
abbrev s_TooMany___init__ : Stmt := inClass (top 16) 0
theorem sc_TooMany___init__ : FnScope ["self", "what", "most"] ["self", "what", "most"] (defScope s_TooMany___init__) :=
  ⟨rfl, rfl, rfl, by decide +kernel, rfl, by decide +kernel, by decide +kernel⟩
abbrev s_Days___init__ : Stmt := inClass (top 18) 1
theorem sc_Days___init__ : FnScope ["self", "period", "rests", "turn", "n"] ["self", "period", "rests"] (defScope s_Days___init__) :=
  ⟨rfl, rfl, rfl, by decide +kernel, rfl, by decide +kernel, by decide +kernel⟩
abbrev s_Days_period : Stmt := inClass (top 18) 2
theorem sc_Days_period : FnScope ["self"] ["self"] (defScope s_Days_period) :=
  ⟨rfl, rfl, rfl, by decide +kernel, rfl, by decide +kernel, by decide +kernel⟩
abbrev s_Days_on : Stmt := inClass (top 18) 4
theorem sc_Days_on : FnScope ["period", "rests"] ["period", "rests"] (defScope s_Days_on) :=
  ⟨rfl, rfl, rfl, by decide +kernel, rfl, by decide +kernel, by decide +kernel⟩
abbrev s_Days_none : Stmt := inClass (top 18) 6
theorem sc_Days_none : FnScope [] [] (defScope s_Days_none) :=
  ⟨rfl, rfl, rfl, by decide +kernel, rfl, by decide +kernel, by decide +kernel⟩
abbrev s_Days___contains__ : Stmt := inClass (top 18) 8
theorem sc_Days___contains__ : FnScope ["self", "x"] ["self", "x"] (defScope s_Days___contains__) :=
  ⟨rfl, rfl, rfl, by decide +kernel, rfl, by decide +kernel, by decide +kernel⟩
abbrev s_Days___rshift__ : Stmt := inClass (top 18) 10
theorem sc_Days___rshift__ : FnScope ["self", "other", "n"] ["self", "other"] (defScope s_Days___rshift__) :=
  ⟨rfl, rfl, rfl, by decide +kernel, rfl, by decide +kernel, by decide +kernel⟩
abbrev s_Days___lshift__ : Stmt := inClass (top 18) 11
theorem sc_Days___lshift__ : FnScope ["self", "other"] ["self", "other"] (defScope s_Days___lshift__) :=
  ⟨rfl, rfl, rfl, by decide +kernel, rfl, by decide +kernel, by decide +kernel⟩
abbrev s_Days___and__ : Stmt := inClass (top 18) 12
theorem sc_Days___and__ : FnScope ["self", "other", "period", "n"] ["self", "other"] (defScope s_Days___and__) :=
  ⟨rfl, rfl, rfl, by decide +kernel, rfl, by decide +kernel, by decide +kernel⟩
abbrev s_Days___or__ : Stmt := inClass (top 18) 13
theorem sc_Days___or__ : FnScope ["self", "other", "period", "n"] ["self", "other"] (defScope s_Days___or__) :=
  ⟨rfl, rfl, rfl, by decide +kernel, rfl, by decide +kernel, by decide +kernel⟩
abbrev s_Days___sub__ : Stmt := inClass (top 18) 14
theorem sc_Days___sub__ : FnScope ["self", "other", "period", "n"] ["self", "other"] (defScope s_Days___sub__) :=
  ⟨rfl, rfl, rfl, by decide +kernel, rfl, by decide +kernel, by decide +kernel⟩
abbrev s_Days___invert__ : Stmt := inClass (top 18) 15
theorem sc_Days___invert__ : FnScope ["self", "n"] ["self"] (defScope s_Days___invert__) :=
  ⟨rfl, rfl, rfl, by decide +kernel, rfl, by decide +kernel, by decide +kernel⟩
abbrev s_Days___le__ : Stmt := inClass (top 18) 16
theorem sc_Days___le__ : FnScope ["self", "other", "n"] ["self", "other"] (defScope s_Days___le__) :=
  ⟨rfl, rfl, rfl, by decide +kernel, rfl, by decide +kernel, by decide +kernel⟩
abbrev s_Days___lt__ : Stmt := inClass (top 18) 17
theorem sc_Days___lt__ : FnScope ["self", "other"] ["self", "other"] (defScope s_Days___lt__) :=
  ⟨rfl, rfl, rfl, by decide +kernel, rfl, by decide +kernel, by decide +kernel⟩
abbrev s_Days___ge__ : Stmt := inClass (top 18) 18
theorem sc_Days___ge__ : FnScope ["self", "other"] ["self", "other"] (defScope s_Days___ge__) :=
  ⟨rfl, rfl, rfl, by decide +kernel, rfl, by decide +kernel, by decide +kernel⟩
abbrev s_Days___gt__ : Stmt := inClass (top 18) 19
theorem sc_Days___gt__ : FnScope ["self", "other"] ["self", "other"] (defScope s_Days___gt__) :=
  ⟨rfl, rfl, rfl, by decide +kernel, rfl, by decide +kernel, by decide +kernel⟩
abbrev s_Days___eq__ : Stmt := inClass (top 18) 20
theorem sc_Days___eq__ : FnScope ["self", "other"] ["self", "other"] (defScope s_Days___eq__) :=
  ⟨rfl, rfl, rfl, by decide +kernel, rfl, by decide +kernel, by decide +kernel⟩
abbrev s_Days___str__ : Stmt := inClass (top 18) 22
theorem sc_Days___str__ : FnScope ["self", "rests", "n"] ["self"] (defScope s_Days___str__) :=
  ⟨rfl, rfl, rfl, by decide +kernel, rfl, by decide +kernel, by decide +kernel⟩
abbrev s_common_period : Stmt := top 19
theorem sc_common_period : FnScope ["one", "other", "period"] ["one", "other"] (defScope s_common_period) :=
  ⟨rfl, rfl, rfl, by decide +kernel, rfl, by decide +kernel, by decide +kernel⟩
abbrev s__law_pen : Stmt := top 22
theorem sc__law_pen : FnScope ["script"] ["script"] (defScope s__law_pen) :=
  ⟨rfl, rfl, rfl, by decide +kernel, rfl, by decide +kernel, by decide +kernel⟩
abbrev s__law_draw : Stmt := top 23
theorem sc__law_draw : FnScope ["pen", "many", "digit", "at", "cell", "great", "mixed"] ["pen", "many"] (defScope s__law_draw) :=
  ⟨rfl, rfl, rfl, by decide +kernel, rfl, by decide +kernel, by decide +kernel⟩
abbrev s__law_pick : Stmt := top 24
theorem sc__law_pick : FnScope ["pen", "some"] ["pen", "some"] (defScope s__law_pick) :=
  ⟨rfl, rfl, rfl, by decide +kernel, rfl, by decide +kernel, by decide +kernel⟩
abbrev s__law_plain : Stmt := top 25
theorem sc__law_plain : FnScope ["pen", "some", "size", "rest"] ["pen", "some"] (defScope s__law_plain) :=
  ⟨rfl, rfl, rfl, by decide +kernel, rfl, by decide +kernel, by decide +kernel⟩
abbrev s__law_has : Stmt := top 26
theorem sc__law_has : FnScope ["plain", "d"] ["plain", "d"] (defScope s__law_has) :=
  ⟨rfl, rfl, rfl, by decide +kernel, rfl, by decide +kernel, by decide +kernel⟩
abbrev s__law_spots : Stmt := top 27
theorem sc__law_spots : FnScope ["pen"] ["pen"] (defScope s__law_spots) :=
  ⟨rfl, rfl, rfl, by decide +kernel, rfl, by decide +kernel, by decide +kernel⟩
abbrev s__law_bound : Stmt := top 28
theorem sc__law_bound : FnScope ["way", "one", "other", "found"] ["way", "one", "other"] (defScope s__law_bound) :=
  ⟨rfl, rfl, rfl, by decide +kernel, rfl, by decide +kernel, by decide +kernel⟩
abbrev s__law_joined_right : Stmt := top 29
theorem sc__law_joined_right : FnScope ["pen", "plain", "more", "one", "other", "kept", "spots", "made", "d", "here", "there", "some", "way"] ["pen", "plain", "more"] (defScope s__law_joined_right) :=
  ⟨rfl, rfl, rfl, by decide +kernel, rfl, by decide +kernel, by decide +kernel⟩
abbrev s__law_order_right : Stmt := top 30
theorem sc__law_order_right : FnScope ["plain", "more", "one", "other", "there", "d", "back"] ["plain", "more"] (defScope s__law_order_right) :=
  ⟨rfl, rfl, rfl, by decide +kernel, rfl, by decide +kernel, by decide +kernel⟩
abbrev s__law_moved_right : Stmt := top 31
theorem sc__law_moved_right : FnScope ["pen", "plain", "one", "k", "later", "sooner", "d"] ["pen", "plain"] (defScope s__law_moved_right) :=
  ⟨rfl, rfl, rfl, by decide +kernel, rfl, by decide +kernel, by decide +kernel⟩
abbrev s__law_many : Stmt := top 32
theorem sc__law_many : FnScope ["ask", "error"] ["ask"] (defScope s__law_many) :=
  ⟨rfl, rfl, rfl, by decide +kernel, rfl, by decide +kernel, by decide +kernel⟩
abbrev s__law_refused_right : Stmt := top 33
theorem sc__law_refused_right : FnScope ["pen", "told", "here", "there", "one", "other", "together", "k"] ["pen"] (defScope s__law_refused_right) :=
  ⟨rfl, rfl, rfl, by decide +kernel, rfl, by decide +kernel, by decide +kernel⟩
abbrev s_law : Stmt := top 34
theorem sc_law : FnScope ["script", "pen", "turn", "some", "plain", "more", "far"] ["script"] (defScope s_law) :=
  ⟨rfl, rfl, rfl, by decide +kernel, rfl, by decide +kernel, by decide +kernel⟩
structure Tx (K : PySem.W.Frag) (mg : Str → Option Value) where
  f_is_whole : Addr
  d_is_whole : FuncData
  f_is_from : Addr
  d_is_from : FuncData
  f_are_from : Addr
  d_are_from : FuncData
  f_marked : Addr
  d_marked : FuncData
  f_least_period : Addr
  d_least_period : FuncData
  f_common_period : Addr
  d_common_period : FuncData
  c_StayError : Addr
  c_BadDays : Addr
  f_BadDays___init__ : Addr
  d_BadDays___init__ : FuncData
  c_TooMany : Addr
  f_TooMany___init__ : Addr
  d_TooMany___init__ : FuncData
  c_Days : Addr
  f_Days___init__ : Addr
  d_Days___init__ : FuncData
  f_Days___eq__ : Addr
  d_Days___eq__ : FuncData
  f_Days___str__ : Addr
  d_Days___str__ : FuncData
  f_Days___contains__ : Addr
  d_Days___contains__ : FuncData
  f_Days___and__ : Addr
  d_Days___and__ : FuncData
  f_Days___or__ : Addr
  d_Days___or__ : FuncData
  f_Days___sub__ : Addr
  d_Days___sub__ : FuncData
  f_Days___invert__ : Addr
  d_Days___invert__ : FuncData
  f_Days___rshift__ : Addr
  d_Days___rshift__ : FuncData
  f_Days___lshift__ : Addr
  d_Days___lshift__ : FuncData
  f_Days___le__ : Addr
  d_Days___le__ : FuncData
  f_Days___lt__ : Addr
  d_Days___lt__ : FuncData
  f_Days___ge__ : Addr
  d_Days___ge__ : FuncData
  f_Days___gt__ : Addr
  d_Days___gt__ : FuncData
  f_Days_none : Addr
  p_Days_none : Addr
  d_Days_none : FuncData
  f_Days_on : Addr
  p_Days_on : Addr
  d_Days_on : FuncData
  f_Days_period : Addr
  p_Days_period : Addr
  d_Days_period : FuncData
  f__law_pen : Addr
  d__law_pen : FuncData
  f__law_draw : Addr
  d__law_draw : FuncData
  f__law_pick : Addr
  d__law_pick : FuncData
  f__law_plain : Addr
  d__law_plain : FuncData
  f__law_has : Addr
  d__law_has : FuncData
  f__law_spots : Addr
  d__law_spots : FuncData
  f__law_bound : Addr
  d__law_bound : FuncData
  f__law_joined_right : Addr
  d__law_joined_right : FuncData
  f__law_order_right : Addr
  d__law_order_right : FuncData
  f__law_moved_right : Addr
  d__law_moved_right : FuncData
  f__law_many : Addr
  d__law_many : FuncData
  f__law_refused_right : Addr
  d__law_refused_right : FuncData
  f_law : Addr
  d_law : FuncData
  cc__law_refused_right : Addr
  tp__law_refused_right : Addr
  g_is_whole : mg "is_whole" = some (.ref f_is_whole)
  F_is_whole : Fun K "is_whole" "is_whole" s_is_whole f_is_whole d_is_whole
  bd_is_whole : Binds K d_is_whole ["value"] []
  g_is_from : mg "is_from" = some (.ref f_is_from)
  F_is_from : Fun K "is_from" "is_from" s_is_from f_is_from d_is_from
  bd_is_from : Binds K d_is_from ["value", "least", "most"] []
  g_are_from : mg "are_from" = some (.ref f_are_from)
  F_are_from : Fun K "are_from" "are_from" s_are_from f_are_from d_are_from
  bd_are_from : Binds K d_are_from ["values", "least", "most"] []
  g_marked : mg "marked" = some (.ref f_marked)
  F_marked : Fun K "marked" "marked" s_marked f_marked d_marked
  bd_marked : Binds K d_marked ["size", "numbers"] []
  g_least_period : mg "least_period" = some (.ref f_least_period)
  F_least_period : Fun K "least_period" "least_period" s_least_period f_least_period d_least_period
  bd_least_period : Binds K d_least_period ["turn"] []
  g_common_period : mg "common_period" = some (.ref f_common_period)
  F_common_period : Fun K "common_period" "common_period" s_common_period f_common_period d_common_period
  bd_common_period : Binds K d_common_period ["one", "other"] []
  g_StayError : mg "StayError" = some (.ref c_StayError)
  g_BadDays : mg "BadDays" = some (.ref c_BadDays)
  x_BadDays : OexC K c_BadDays
  xf_BadDays : XfC K c_BadDays
  xc_BadDays : ExcC K c_BadDays
  nx_BadDays_part : PySem.W.findIn K (.ref c_BadDays) "part" = some none
  fi_BadDays___init__ : PySem.W.findIn K (.ref c_BadDays) "__init__" = some (some (.ref f_BadDays___init__))
  isf_BadDays___init__ : PySem.W.isFn K (.ref f_BadDays___init__) = true
  F_BadDays___init__ : Fun K "__init__" "BadDays.__init__" s_BadDays___init__ f_BadDays___init__ d_BadDays___init__
  bd_BadDays___init__ : Binds K d_BadDays___init__ ["self", "part"] []
  ti_BadDays : PySem.W.typeIn K (.ref f_BadDays___init__) = some (.type "function")
  g_TooMany : mg "TooMany" = some (.ref c_TooMany)
  x_TooMany : OexC K c_TooMany
  xf_TooMany : XfC K c_TooMany
  xc_TooMany : ExcC K c_TooMany
  nx_TooMany_what : PySem.W.findIn K (.ref c_TooMany) "what" = some none
  nx_TooMany_most : PySem.W.findIn K (.ref c_TooMany) "most" = some none
  fi_TooMany___init__ : PySem.W.findIn K (.ref c_TooMany) "__init__" = some (some (.ref f_TooMany___init__))
  isf_TooMany___init__ : PySem.W.isFn K (.ref f_TooMany___init__) = true
  F_TooMany___init__ : Fun K "__init__" "TooMany.__init__" s_TooMany___init__ f_TooMany___init__ d_TooMany___init__
  bd_TooMany___init__ : Binds K d_TooMany___init__ ["self", "what", "most"] []
  ti_TooMany : PySem.W.typeIn K (.ref f_TooMany___init__) = some (.type "function")
  g_Days : mg "Days" = some (.ref c_Days)
  cl_Days : Cls K c_Days
  own_Days : OwnC K c_Days
  na_Days__period : NoAttr K c_Days "_period"
  na_Days__rests : NoAttr K c_Days "_rests"
  fi_Days___init__ : PySem.W.findIn K (.ref c_Days) "__init__" = some (some (.ref f_Days___init__))
  isf_Days___init__ : PySem.W.isFn K (.ref f_Days___init__) = true
  F_Days___init__ : Fun K "__init__" "Days.__init__" s_Days___init__ f_Days___init__ d_Days___init__
  bd_Days___init__ : Binds K d_Days___init__ ["self", "period", "rests"] []
  fi_Days___eq__ : PySem.W.findIn K (.ref c_Days) "__eq__" = some (some (.ref f_Days___eq__))
  isf_Days___eq__ : PySem.W.isFn K (.ref f_Days___eq__) = true
  F_Days___eq__ : Fun K "__eq__" "Days.__eq__" s_Days___eq__ f_Days___eq__ d_Days___eq__
  bd_Days___eq__ : Binds K d_Days___eq__ ["self", "other"] []
  fi_Days___str__ : PySem.W.findIn K (.ref c_Days) "__str__" = some (some (.ref f_Days___str__))
  isf_Days___str__ : PySem.W.isFn K (.ref f_Days___str__) = true
  F_Days___str__ : Fun K "__str__" "Days.__str__" s_Days___str__ f_Days___str__ d_Days___str__
  bd_Days___str__ : Binds K d_Days___str__ ["self"] []
  fi_Days___contains__ : PySem.W.findIn K (.ref c_Days) "__contains__" = some (some (.ref f_Days___contains__))
  isf_Days___contains__ : PySem.W.isFn K (.ref f_Days___contains__) = true
  F_Days___contains__ : Fun K "__contains__" "Days.__contains__" s_Days___contains__ f_Days___contains__ d_Days___contains__
  bd_Days___contains__ : Binds K d_Days___contains__ ["self", "x"] []
  fi_Days___and__ : PySem.W.findIn K (.ref c_Days) "__and__" = some (some (.ref f_Days___and__))
  isf_Days___and__ : PySem.W.isFn K (.ref f_Days___and__) = true
  F_Days___and__ : Fun K "__and__" "Days.__and__" s_Days___and__ f_Days___and__ d_Days___and__
  bd_Days___and__ : Binds K d_Days___and__ ["self", "other"] []
  fi_Days___or__ : PySem.W.findIn K (.ref c_Days) "__or__" = some (some (.ref f_Days___or__))
  isf_Days___or__ : PySem.W.isFn K (.ref f_Days___or__) = true
  F_Days___or__ : Fun K "__or__" "Days.__or__" s_Days___or__ f_Days___or__ d_Days___or__
  bd_Days___or__ : Binds K d_Days___or__ ["self", "other"] []
  fi_Days___sub__ : PySem.W.findIn K (.ref c_Days) "__sub__" = some (some (.ref f_Days___sub__))
  isf_Days___sub__ : PySem.W.isFn K (.ref f_Days___sub__) = true
  F_Days___sub__ : Fun K "__sub__" "Days.__sub__" s_Days___sub__ f_Days___sub__ d_Days___sub__
  bd_Days___sub__ : Binds K d_Days___sub__ ["self", "other"] []
  fi_Days___invert__ : PySem.W.findIn K (.ref c_Days) "__invert__" = some (some (.ref f_Days___invert__))
  isf_Days___invert__ : PySem.W.isFn K (.ref f_Days___invert__) = true
  F_Days___invert__ : Fun K "__invert__" "Days.__invert__" s_Days___invert__ f_Days___invert__ d_Days___invert__
  bd_Days___invert__ : Binds K d_Days___invert__ ["self"] []
  fi_Days___rshift__ : PySem.W.findIn K (.ref c_Days) "__rshift__" = some (some (.ref f_Days___rshift__))
  isf_Days___rshift__ : PySem.W.isFn K (.ref f_Days___rshift__) = true
  F_Days___rshift__ : Fun K "__rshift__" "Days.__rshift__" s_Days___rshift__ f_Days___rshift__ d_Days___rshift__
  bd_Days___rshift__ : Binds K d_Days___rshift__ ["self", "other"] []
  fi_Days___lshift__ : PySem.W.findIn K (.ref c_Days) "__lshift__" = some (some (.ref f_Days___lshift__))
  isf_Days___lshift__ : PySem.W.isFn K (.ref f_Days___lshift__) = true
  F_Days___lshift__ : Fun K "__lshift__" "Days.__lshift__" s_Days___lshift__ f_Days___lshift__ d_Days___lshift__
  bd_Days___lshift__ : Binds K d_Days___lshift__ ["self", "other"] []
  fi_Days___le__ : PySem.W.findIn K (.ref c_Days) "__le__" = some (some (.ref f_Days___le__))
  isf_Days___le__ : PySem.W.isFn K (.ref f_Days___le__) = true
  F_Days___le__ : Fun K "__le__" "Days.__le__" s_Days___le__ f_Days___le__ d_Days___le__
  bd_Days___le__ : Binds K d_Days___le__ ["self", "other"] []
  fi_Days___lt__ : PySem.W.findIn K (.ref c_Days) "__lt__" = some (some (.ref f_Days___lt__))
  isf_Days___lt__ : PySem.W.isFn K (.ref f_Days___lt__) = true
  F_Days___lt__ : Fun K "__lt__" "Days.__lt__" s_Days___lt__ f_Days___lt__ d_Days___lt__
  bd_Days___lt__ : Binds K d_Days___lt__ ["self", "other"] []
  fi_Days___ge__ : PySem.W.findIn K (.ref c_Days) "__ge__" = some (some (.ref f_Days___ge__))
  isf_Days___ge__ : PySem.W.isFn K (.ref f_Days___ge__) = true
  F_Days___ge__ : Fun K "__ge__" "Days.__ge__" s_Days___ge__ f_Days___ge__ d_Days___ge__
  bd_Days___ge__ : Binds K d_Days___ge__ ["self", "other"] []
  fi_Days___gt__ : PySem.W.findIn K (.ref c_Days) "__gt__" = some (some (.ref f_Days___gt__))
  isf_Days___gt__ : PySem.W.isFn K (.ref f_Days___gt__) = true
  F_Days___gt__ : Fun K "__gt__" "Days.__gt__" s_Days___gt__ f_Days___gt__ d_Days___gt__
  bd_Days___gt__ : Binds K d_Days___gt__ ["self", "other"] []
  cr_Days : CRead K c_Days (.type "type")
  F_Days_none : Fun K "none" "Days.none" s_Days_none f_Days_none d_Days_none
  bd_Days_none : Binds K d_Days_none [] []
  sme_Days_none : SMet K c_Days (.type "type") "none" p_Days_none f_Days_none
  F_Days_on : Fun K "on" "Days.on" s_Days_on f_Days_on d_Days_on
  sme_Days_on : SMet K c_Days (.type "type") "on" p_Days_on f_Days_on
  F_Days_period : Fun K "period" "Days.period" s_Days_period f_Days_period d_Days_period
  bd_Days_period : Binds K d_Days_period ["self"] []
  pp_Days_period : PropOf K c_Days "period" p_Days_period f_Days_period
  exm_TooMany : PySem.W.exmOne K (.ref c_TooMany) (.ref c_TooMany) = some true
  kit_Days : PySem.W.kitOne K (.ref c_Days) (.ref c_Days) = some true
  si_Days : PySem.W.subIn K (.type "int") (.ref c_Days) = some false
  g_lcm : mg "lcm" = some (.builtin "math.lcm")
  g__law_pen : mg "_law_pen" = some (.ref f__law_pen)
  F__law_pen : Fun K "_law_pen" "_law_pen" s__law_pen f__law_pen d__law_pen
  bd__law_pen : Binds K d__law_pen ["script"] []
  g__law_draw : mg "_law_draw" = some (.ref f__law_draw)
  F__law_draw : Fun K "_law_draw" "_law_draw" s__law_draw f__law_draw d__law_draw
  bd__law_draw : Binds K d__law_draw ["pen", "many"] []
  g__law_pick : mg "_law_pick" = some (.ref f__law_pick)
  F__law_pick : Fun K "_law_pick" "_law_pick" s__law_pick f__law_pick d__law_pick
  bd__law_pick : Binds K d__law_pick ["pen", "some"] []
  g__law_plain : mg "_law_plain" = some (.ref f__law_plain)
  F__law_plain : Fun K "_law_plain" "_law_plain" s__law_plain f__law_plain d__law_plain
  bd__law_plain : Binds K d__law_plain ["pen", "some"] []
  g__law_has : mg "_law_has" = some (.ref f__law_has)
  F__law_has : Fun K "_law_has" "_law_has" s__law_has f__law_has d__law_has
  bd__law_has : Binds K d__law_has ["plain", "d"] []
  g__law_spots : mg "_law_spots" = some (.ref f__law_spots)
  F__law_spots : Fun K "_law_spots" "_law_spots" s__law_spots f__law_spots d__law_spots
  bd__law_spots : Binds K d__law_spots ["pen"] []
  g__law_bound : mg "_law_bound" = some (.ref f__law_bound)
  F__law_bound : Fun K "_law_bound" "_law_bound" s__law_bound f__law_bound d__law_bound
  bd__law_bound : Binds K d__law_bound ["way", "one", "other"] []
  g__law_joined_right : mg "_law_joined_right" = some (.ref f__law_joined_right)
  F__law_joined_right : Fun K "_law_joined_right" "_law_joined_right" s__law_joined_right f__law_joined_right d__law_joined_right
  bd__law_joined_right : Binds K d__law_joined_right ["pen", "plain", "more"] []
  g__law_order_right : mg "_law_order_right" = some (.ref f__law_order_right)
  F__law_order_right : Fun K "_law_order_right" "_law_order_right" s__law_order_right f__law_order_right d__law_order_right
  bd__law_order_right : Binds K d__law_order_right ["plain", "more"] []
  g__law_moved_right : mg "_law_moved_right" = some (.ref f__law_moved_right)
  F__law_moved_right : Fun K "_law_moved_right" "_law_moved_right" s__law_moved_right f__law_moved_right d__law_moved_right
  bd__law_moved_right : Binds K d__law_moved_right ["pen", "plain"] []
  g__law_many : mg "_law_many" = some (.ref f__law_many)
  F__law_many : Fun K "_law_many" "_law_many" s__law_many f__law_many d__law_many
  bd__law_many : Binds K d__law_many ["ask"] []
  g__law_refused_right : mg "_law_refused_right" = some (.ref f__law_refused_right)
  F__law_refused_right : Fun K "_law_refused_right" "_law_refused_right" s__law_refused_right f__law_refused_right d__law_refused_right
  bd__law_refused_right : Binds K d__law_refused_right ["pen"] []
  g_law : mg "law" = some (.ref f_law)
  F_law : Fun K "law" "law" s_law f_law d_law
  bd_law : Binds K d_law ["script"] []
  b_isinstance : mg "isinstance" = none
  b_int : mg "int" = none
  b_bool : mg "bool" = none
  b_len : mg "len" = none
  b_tuple : mg "tuple" = none
  b_range : mg "range" = none
  b_list : mg "list" = none
  b_abs : mg "abs" = none
  b_str : mg "str" = none
  b_all : mg "all" = none
  b_repr : mg "repr" = none
  cv_Days_MOST : ∃ u, CVal K c_Days (.type "type") "MOST" (.int 7) u
  code__law_refused_right : d__law_refused_right.code = .ref cc__law_refused_right
  mk_Days : Mk K c_Days f_Days___init__
  eq_Days : EqM K c_Days f_Days___eq__
  sm_Days___str__ : SpM K c_Days f_Days___str__ "__str__"
  sm_Days___contains__ : SpM K c_Days f_Days___contains__ "__contains__"
  op_Days_and : OpM K .BitAnd c_Days f_Days___and__
  ip_Days_and : NoIp K .BitAnd c_Days
  op_Days_or : OpM K .BitOr c_Days f_Days___or__
  ip_Days_or : NoIp K .BitOr c_Days
  op_Days_sub : OpM K .Sub c_Days f_Days___sub__
  ip_Days_sub : NoIp K .Sub c_Days
  op_Days_rshift : OpM K .RShift c_Days f_Days___rshift__
  op_Days_lshift : OpM K .LShift c_Days f_Days___lshift__
  cm_Days_lt : CmpM K .Lt c_Days f_Days___lt__
  cm_Days_le : CmpM K .LtE c_Days f_Days___le__
  cm_Days_gt : CmpM K .Gt c_Days f_Days___gt__
  cm_Days_ge : CmpM K .GtE c_Days f_Days___ge__
end NN

open AW L2
-- what is known at an address
local macro_rules | `(tactic| walk_at "kn") => `(tactic| first
  | assumption
  | exact upd_same
  | ((with_reducible refine' keep2 ?h1 ?h2); (case h1 => first | assumption | (exact Ne.symm (by assumption))); (case h2 => walk_at "kn"))
  | ((with_reducible refine' know ?h1 ?h2); (case h1 => assumption); (case h2 => walk_at "kn"))
  | ((with_reducible refine' Ext.know ?h1 ?h2); (case h1 => assumption); (case h2 => walk_at "kn")))
-- one step
local macro_rules | `(tactic| walk_at "w1") => `(tactic| first
  | ((with_reducible refine' w_var ?hv ?_); (case hv => rfl))
  | with_reducible refine' w_c ?_
  | with_reducible refine' w_op ?_
  | with_reducible refine' r_I0 ?_
  | with_reducible refine' w_nil ?_
  | with_reducible refine' w_cons ?_
  | with_reducible refine' w_cb ?_
  | with_reducible refine' r_int1 ?_
  | with_reducible refine' r_int1b ?_
  | with_reducible refine' r_abs ?_
  | ((with_reducible refine' r_lenL ?h1 ?_); (case h1 => walk_at "kn"))
  | ((with_reducible refine' r_lenT ?h1 ?_); (case h1 => walk_at "kn"))
  | ((with_reducible refine' r_neV ?h1 ?_); (case h1 => rfl))
  | ((with_reducible refine' r_eqV ?h1 ?_); (case h1 => rfl))
  | ((with_reducible refine' r_eq ?h1 ?_); (case h1 => rfl))
  | ((with_reducible refine' r_ne ?h1 ?_); (case h1 => rfl))
  | ((with_reducible refine' r_ixL ?h1 ?h2 ?_); (case h1 => walk_at "kn"); (case h2 => rfl))
  | ((with_reducible refine' r_ixT ?h1 ?h2 ?_); (case h1 => walk_at "kn"); (case h2 => rfl))
  | with_reducible refine' w_test ?_
  | with_reducible refine' w_B ?_
  | with_reducible refine' w_un ?_
  | with_reducible refine' r_U ?_
  | with_reducible refine' w_and ?_
  | with_reducible refine' w_or ?_
  | with_reducible refine' w_not ?_
  | with_reducible refine' w_andV ?_
  | with_reducible refine' w_orV ?_
  | with_reducible refine' w_notV ?_
  | with_reducible refine' w_ifE ?_
  | with_reducible refine' r_isNt ?_
  | with_reducible refine' r_isNr ?_
  | with_reducible refine' w_chain ?_
  | with_reducible refine' w_tupRg ?_
  | with_reducible refine' w_joined ?_
  | with_reducible refine' w_js0 ?_
  | with_reducible refine' w_js ?_
  | with_reducible refine' w_cval ?_
  | with_reducible refine' s_fld ?_
  | with_reducible refine' w_tup ?_
  | with_reducible refine' w_lst ?_
  | with_reducible refine' w_sl ?_
  | with_reducible refine' w_part ?_
  | with_reducible refine' w_noPart ?_
  | with_reducible refine' s_seq ?_
  | with_reducible refine' s_next ?_
  | with_reducible refine' s_ret ?_
  | with_reducible refine' s_retN ?_
  | with_reducible refine' s_drop ?_
  | with_reducible refine' s_brk ?_
  | with_reducible refine' s_cont ?_
  | with_reducible refine' s_set ?_
  | with_reducible refine' s_asg ?_
  | with_reducible refine' s_par ?_
  | ((with_reducible refine' s_aug ?h1 ?_); (case h1 => rfl))
  | with_reducible refine' g_name ?_
  | with_reducible refine' g_cons ?_
  | with_reducible refine' g_nil ?_
  | with_reducible refine' g_set ?_
  | with_reducible refine' both_t ?_
  | with_reducible refine' both_f ?_
  | with_reducible refine' both_nt ?_
  | with_reducible refine' both_nf ?_
  | with_reducible refine' bor_t ?_
  | with_reducible refine' bor_f ?_
  | with_reducible refine' bor_nt ?_
  | with_reducible refine' bor_nf ?_
  | with_reducible refine' ⟨_, rfl, ?_⟩)
local macro_rules | `(tactic| walk_at "w") => `(tactic| repeat (first | walk_at "w1" | dsimp only))
local macro_rules | `(tactic| walk_at "if") => `(tactic| ((with_reducible refine' s_if ?_); walk_at "w"; refine ⟨fun hb => ?_, fun hb => ?_⟩))
local macro_rules | `(tactic| walk_at "wi") => `(tactic| repeat (first | walk_at "w1" | with_reducible refine' s_if ?_ | dsimp only))

namespace NN
open PySem PySem.Spec PyProof.Rows L2 LamX AW ClX
/-! ### promises -/
/-- a value that is no whole number -/
def Odd (K : PySem.W.Frag) (kn : Hp) (x : V) : Prop := ∃ t bi, TyX K kn x t ∧ PySem.W.kitOne K t (.type "int") = some bi ∧ (bi = true → PySem.W.kitOne K t (.type "bool") = some true)
def bWhole (K : PySem.W.Frag) : List V → Hp → AK → AXK → Prop := fun vs kn Q _ => ∃ x, vs = [x] ∧ ((∃ i, x = .int i ∧ Q (.bl true) kn) ∨ (Odd K kn x ∧ Q (.bl false) kn))
def bFrom (K : PySem.W.Frag) : List V → Hp → AK → AXK → Prop := fun vs kn Q _ => ∃ x lo hi, vs = [x, .int lo, .int hi] ∧ ((∃ i, x = .int i ∧ Q (.bl (decide (lo ≤ i) && decide (i ≤ hi))) kn) ∨ (Odd K kn x ∧ Q (.bl false) kn))
abbrev lastDay : Int := 999999999999
def bDay (K : PySem.W.Frag) : List V → Hp → AK → AXK → Prop := fun vs kn Q _ => ∃ x, vs = [x] ∧ ((∃ i, x = .int i ∧ Q (.bl (decide (-lastDay ≤ i) && decide (i ≤ lastDay))) kn) ∨ (Odd K kn x ∧ Q (.bl false) kn))
section
variable {K : PySem.W.Frag}
theorem mo_whole : MonoX (bWhole K) := by
  rintro vs kn Q R E F h1 h2 ⟨x, e, ⟨i, e2, h⟩ | ⟨o, h⟩⟩
  · exact ⟨x, e, .inl ⟨i, e2, h1 _ _ h⟩⟩
  · exact ⟨x, e, .inr ⟨o, h1 _ _ h⟩⟩
theorem mo_from : MonoX (bFrom K) := by
  rintro vs kn Q R E F h1 h2 ⟨x, lo, hi, e, ⟨i, e2, h⟩ | ⟨o, h⟩⟩
  · exact ⟨x, lo, hi, e, .inl ⟨i, e2, h1 _ _ h⟩⟩
  · exact ⟨x, lo, hi, e, .inr ⟨o, h1 _ _ h⟩⟩
theorem mo_day : MonoX (bDay K) := by
  rintro vs kn Q R E F h1 h2 ⟨x, e, ⟨i, e2, h⟩ | ⟨o, h⟩⟩
  · exact ⟨x, e, .inl ⟨i, e2, h1 _ _ h⟩⟩
  · exact ⟨x, e, .inr ⟨o, h1 _ _ h⟩⟩
theorem odd_ext {kn kn' : Hp} {x : V} (e : Ext kn kn') (h : Odd K kn x) : Odd K kn' x := by
  obtain ⟨t, bi, a, b, d⟩ := h
  exact ⟨t, bi, tyx_ext e a, b, d⟩
end
section
variable {P : Program} {w : World} {K : PySem.W.Frag} {mg : Str → Option Value} {base : Heap}
theorem ok_is_whole (T : Tx K mg) : FnOk P w K mg base CX0 1 T.f_is_whole T.d_is_whole ["value"] (liftX (bWhole K)) := by
  refine T.F_is_whole.ok sc_is_whole (fun vs H Q E h => ?_) (fun cdv A outer s H vs Q E hr h => ?_)
  · obtain ⟨kn, _, _, x, rfl, _⟩ := h
    rfl
  · obtain ⟨kn, e, nt, x, rfl, h⟩ := h
    refine ⟨_, (pss_one (ps_ret (pe_and (pe_callB call_isi (by rfl) T.b_isinstance (by decide +kernel) (pa_cons (pv 0) (pa_cons (pe_bltn (v := .ty "int") (u := .type "int") (by rfl) T.b_int (by decide +kernel) rfl) pa_nil))) (pe_one (pe_not (pe_callB call_isi (by rfl) T.b_isinstance (by decide +kernel) (pa_cons (pv 0) (pa_cons (pe_bltn (v := .ty "bool") (u := .type "bool") (by rfl) T.b_bool (by decide +kernel) rfl) pa_nil)))))))), ?_⟩
    refine body_of (pure_start e nt) ?_
    walk_at "wi"
    rcases h with ⟨i, rfl, h⟩ | ⟨⟨t, bi, ty, e1, e2⟩, h⟩
    · refine r_isi (.ty _) (.base (.int i)) (kit_ty rfl) ?_
      walk_at "wi"
      refine r_isi (.ty _) (.base (.int i)) (kit_ty rfl) ?_
      walk_at "wi"
      exact h 0
    · refine r_isi (.ty _) ty e1 ?_
      walk_at "wi"
      refine ⟨fun hb => ?_, fun hb => h 0⟩
      walk_at "wi"
      refine r_isi (.ty _) ty (e2 hb) ?_
      walk_at "wi"
      exact h 0
theorem ok_is_from (T : Tx K mg) : FnOk P w K mg base CX0 2 T.f_is_from T.d_is_from ["value", "least", "most"] (liftX (bFrom K)) := by
  refine T.F_is_from.ok sc_is_from (fun vs H Q E h => ?_) (fun cdv A outer s H vs Q E hr h => ?_)
  · obtain ⟨kn, _, _, x, lo, hi, rfl, _⟩ := h
    rfl
  · obtain ⟨kn, e, nt, x, lo, hi, rfl, h⟩ := h
    refine ⟨_, (pss_one (ps_ret (pe_and (pe_call (ok_is_whole T) (hr.mono (by decide)) (by rfl) T.g_is_whole T.F_is_whole.kp T.bd_is_whole .nil pass0 (pa_cons (pv 0) pa_nil)) (pe_one (pe_chain op_le op_le (pv 1) (pv 0) (pv 2)))))), ?_⟩
    refine body_of (pure_start e nt) ?_
    walk_at "wi"
    refine w_call mo_whole err_no ?_
    walk_at "wi"
    refine ⟨_, rfl, ?_⟩
    rcases h with ⟨i, rfl, h⟩ | ⟨o, h⟩
    · refine .inl ⟨i, rfl, ?_⟩
      walk_at "wi"
      refine ⟨fun hb => ?_, fun hb => ?_⟩
      · walk_at "wi"
        rw [hb] at h
        exact h 0
      · rw [hb] at h
        exact h 0
    · refine .inr ⟨o, ?_⟩
      walk_at "wi"
      exact h 0
end

end NN

namespace NN
open PySem PySem.Spec PyProof.Rows L2 LamX AW ClX
open Tx1 Ln
theorem ext_new {kn : Hp} {q : Addr} {o : HO} (h : kn q = none) : Ext kn (upd kn q o) := fun x u e => know h e
theorem ext_tr {a b c : Hp} (h : Ext a b) (k : Ext b c) : Ext a c := fun x o e => k x o (h x o e)
theorem ext_rf {a : Hp} : Ext a a := fun _ _ h => h
theorem free_ext {kn kn' : Hp} {q : Addr} (x : Ext kn kn') (h : kn' q = none) : kn q = none := by
  cases z : kn q with
  | none => rfl
  | some o => rw [x _ _ z] at h; cases h
abbrev natV (xs : List Nat) : List V := xs.map fun (n : Nat) => V.int n
abbrev blV (t : List Bool) : List V := t.map V.bl
/-- any value of those that are told -/
def AnyN (K : PySem.W.Frag) (kn : Hp) (x : V) : Prop := (∃ i, x = .int i) ∨ Odd K kn x
theorem any_ext {K : PySem.W.Frag} {kn kn' : Hp} {x : V} (e : Ext kn kn') (h : AnyN K kn x) : AnyN K kn' x := h.imp id (odd_ext e)
def okV (lo hi : Int) : V → Bool
  | .int i => decide (lo ≤ i) && decide (i ≤ hi)
  | _ => false
/-- what may stand for rests: a list or a tuple, its items; or none of both -/
def RestsV (K : PySem.W.Frag) (kn : Hp) (v : V) : Option (List V) → Prop
  | some xs => SeqV K kn v xs ∧ xs.length ≤ 1000 ∧ ∀ x ∈ xs, AnyN K kn x
  | none => ∃ t, TyX K kn v t ∧ PySem.W.kitOne K t (.type "list") = some false ∧ PySem.W.kitOne K t (.type "tuple") = some false
theorem rests_ext {K : PySem.W.Frag} {kn kn' : Hp} {v : V} {o : Option (List V)} (e : Ext kn kn') (h : RestsV K kn v o) : RestsV K kn' v o := by
  cases o with
  | none => obtain ⟨t, a, b, c⟩ := h; exact ⟨t, tyx_ext e a, b, c⟩
  | some xs => obtain ⟨a, b, c⟩ := h; exact ⟨SeqV.ext e a, b, fun x hx => any_ext e (c x hx)⟩
def okO (lo hi : Int) : Option (List V) → Bool
  | some xs => xs.all (okV lo hi)
  | none => false
def bAre (K : PySem.W.Frag) : List V → Hp → AK → AXK → Prop := fun vs kn Q _ => ∃ v o lo hi, vs = [v, .int lo, .int hi] ∧ RestsV K kn v o ∧ ∀ k', Ext kn k' → Q (.bl (okO lo hi o)) k'
theorem mo_are {K : PySem.W.Frag} : MonoX (bAre K) := by
  rintro vs kn Q R E F h1 h2 ⟨v, xs, lo, hi, a, b, h⟩
  exact ⟨v, xs, lo, hi, a, b, fun k e => h1 _ _ (h k e)⟩
theorem okV_odd {K : PySem.W.Frag} {kn : Hp} {x : V} {lo hi : Int} (h : Odd K kn x) : okV lo hi x = false := by
  cases x with
  | int i =>
    obtain ⟨t, bi, ty, k1, k2⟩ := h
    exfalso
    have tt : t = .type "int" := by
      cases ty with
      | base b => cases b; rfl
    subst tt
    have e1 : PySem.W.kitOne K (.type "int") (.type "int") = some true := kit_ty rfl
    rw [e1] at k1
    have e2 : PySem.W.kitOne K (.type "int") (.type "bool") = some false := kit_ty rfl
    have e3 := k2 (Option.some.inj k1).symm
    rw [e2] at e3
    cases e3
  | _ => rfl
section
variable {P : Program} {w : World} {K : PySem.W.Frag} {mg : Str → Option Value} {base : Heap}
theorem ok_are_from (T : Tx K mg) : FnOk P w K mg base CX0 3 T.f_are_from T.d_are_from ["values", "least", "most"] (liftX (bAre K)) := by
  refine T.F_are_from.ok sc_are_from (fun vs H Q E h => ?_) (fun cdv A outer s H vs Q E hr h => ?_)
  · obtain ⟨kn, _, _, v, xs, lo, hi, rfl, _⟩ := h
    rfl
  · obtain ⟨kn, ex, nt, v, o, lo, hi, rfl, sv, h⟩ := h
    refine ⟨_, (pss_one (ps_ret (pe_and (pe_callB call_isiT (by rfl) T.b_isinstance (by decide +kernel) (pa_cons (pv 0) (pa_cons (pe_tup (pa_cons (pe_bltn (v := .ty "list") (u := .type "list") (by rfl) T.b_list (by decide +kernel) rfl) (pa_cons (pe_bltn (v := .ty "tuple") (u := .type "tuple") (by rfl) T.b_tuple (by decide +kernel) rfl) pa_nil))) pa_nil))) (pe_one (pe_callB (c_allQ rfl) (by rfl) T.b_all (by decide +kernel) (pa_cons (pe_lc (own := [("value", 3)]) (g := gName 3) (by rfl) sc_are_from.nd (pi_seq (pv 0)) (blkOk_by (own := [("value", 3)]) (N := ["values", "least", "most", "value"]) (sc := defScope s_are_from) (by decide +kernel)) (fun _ _ _ _ _ => pg_name (i := 3) sc_are_from.nd rfl (Or.inl rfl)) (fun _ _ _ _ _ => pts_nil) (fun _ _ _ _ _ => (pe_call (ok_is_from T) (hr.mono (by decide)) (by rfl) T.g_is_from T.F_is_from.kp T.bd_is_from .nil pass0 (pa_cons (pv 3) (pa_cons (pv 1) (pa_cons (pv 2) pa_nil)))))) pa_nil)))))), ?_⟩
    refine body_of (pure_start ex nt) ?_
    walk_at "wi"
    refine ⟨show 2 ≤ 1000 by decide, fun tp htp => ?_⟩
    have e1 : Ext kn (upd kn tp (.tup [.ty "list", .ty "tuple"])) := ext_new htp
    have t1 : (upd kn tp (.tup [.ty "list", .ty "tuple"])) tp = some (.tup [.ty "list", .ty "tuple"]) := upd_same
    have sv1 := rests_ext e1 sv
    generalize upd kn tp (.tup [.ty "list", .ty "tuple"]) = kn1 at e1 t1 sv1 ⊢
    cases o with
    | none =>
      obtain ⟨t, ty, z1, z2⟩ := sv1
      have kt : PySem.W.kitAny K t [.type "list", .type "tuple"] = some false := by
        unfold PySem.W.kitAny
        rw [z1]
        unfold PySem.W.kitAny
        rw [z2]
        unfold PySem.W.kitAny
        rfl
      walk_at "wi"
      refine r_isiT t1 (.cons (.ty _) (.cons (.ty _) .nil)) ty kt ?_
      walk_at "wi"
      exact h _ e1 0
    | some xs =>
      obtain ⟨sv1, lx, hx⟩ := sv1
      have kt : ∀ {t : Value}, TyX K kn1 v t → (t = .type "list" ∨ t = .type "tuple") → PySem.W.kitAny K t [.type "list", .type "tuple"] = some true := fun {t} _ ht => by
        rcases ht with rfl | rfl
        · unfold PySem.W.kitAny
          rw [kit_ty rfl]
        · unfold PySem.W.kitAny
          rw [show PySem.W.kitOne K (.type "tuple") (.type "list") = some false from kit_ty rfl]
          unfold PySem.W.kitAny
          rw [kit_ty rfl]
      obtain ⟨t, ty, ht⟩ : ∃ t, TyX K kn1 v t ∧ (t = .type "list" ∨ t = .type "tuple") := sv1.ty.elim (fun z => ⟨_, z, .inl rfl⟩) (fun z => ⟨_, z, .inr rfl⟩)
      walk_at "wi"
      refine r_isiT t1 (.cons (.ty _) (.cons (.ty _) .nil)) ty (kt ty ht) ?_
      walk_at "wi"
      refine w_lcP (i_seq3 rfl ext_rf sv1 fun J ka G hka => ?_)
      refine ⟨_, ka, fun x => .bl (okV lo hi x), fun _ => true, G, by omega, hka, fun x hx2 k ek => ?_, fun D hD => ?_⟩
      · walk_at "w"
        refine ⟨rfl, w_yesT ?_⟩
        refine ⟨rfl, rfl, rfl, fun _ => ?_⟩
        walk_at "w"
        refine w_call mo_from err_no ?_
        walk_at "w"
        rcases hx x hx2 with ⟨i, rfl⟩ | od
        · exact ⟨_, _, _, rfl, .inl ⟨_, rfl, rfl, rfl, rfl⟩⟩
        · refine ⟨_, _, _, rfl, .inr ⟨odd_ext ek od, ?_, rfl, rfl⟩⟩
          rw [okV_odd od]
      · walk_at "wi"
        have e : (List.map (fun x => V.bl (okV lo hi x)) (List.filter (fun _ => true) xs)) = (xs.map (okV lo hi)).map V.bl := by
          rw [List.filter_eq_self.2 (fun _ _ => rfl), List.map_map]
          rfl
        rw [e]
        refine r_allQ upd_same ?_
        rw [show (xs.map (okV lo hi)).all id = okO lo hi (some xs) by rw [List.all_map]; rfl]
        exact h _ (ext_tr e1 (ext_new hD)) 0
end

end NN

namespace NN
open PySem PySem.Spec PyProof.Rows L2 LamX AW ClX
open Tx1 Ln
theorem ixN_of {n j : Nat} (hj : j < n) : ixN n (j : Int) = some j := by
  unfold ixN
  rw [if_pos (by omega), if_pos (by omega), Int.toNat_natCast]
theorem cut_lo (xs : List V) (p : Nat) : cutV xs (some (p : Int)) none = xs.drop p := by
  unfold cutV
  rw [HT.sIx_nat, HT.sIx_none]
  apply List.ext_getElem?
  intro i
  rw [List.getElem?_take, List.getElem?_drop, List.getElem?_drop]
  by_cases h : p ≤ xs.length
  · rw [Nat.min_eq_left h]
    by_cases h2 : i < xs.length - p
    · rw [if_pos h2]
    · rw [if_neg h2, List.getElem?_eq_none (by omega)]
  · rw [Nat.min_eq_right (by omega), if_neg (by omega), List.getElem?_eq_none (by omega)]
theorem cut_hi (xs : List V) (p : Nat) : cutV xs none (some (p : Int)) = xs.take p := by
  unfold cutV
  rw [HT.sIx_nat, HT.sIx_none, List.drop_zero, Nat.sub_zero]
  by_cases h : p ≤ xs.length
  · rw [Nat.min_eq_left h]
  · rw [Nat.min_eq_right (by omega), List.take_of_length_le (by omega), List.take_of_length_le (by omega)]
theorem dp_bls {K : PySem.W.Frag} {H : Hp} : ∀ t : List Bool, DpAll K H (blV t) (t.map PyData.bool)
  | [] => .nil
  | b :: t => .cons (.bl b) (dp_bls t)
theorem lay_bls : ∀ t : List Bool, PyData.canLayAll0 (t.map PyData.bool) = true
  | [] => by simp [PyData.canLayAll0]
  | b :: t => by simp only [List.map_cons, PyData.canLayAll0, PyData.canLay0]; rw [lay_bls t]; rfl
theorem deep_bls : ∀ t : List Bool, PyData.depthAll (t.map PyData.bool) = 0
  | [] => by simp [PyData.depthAll]
  | b :: t => by simp only [List.map_cons, PyData.depthAll, PyData.depth]; rw [deep_bls t]; rfl
theorem shaped_bls (t : List Bool) : SeqAt.shaped (.list (t.map PyData.bool)) = true := by
  unfold SeqAt.shaped
  rw [show PyData.canLay0 (.list (t.map PyData.bool)) = true by simp only [PyData.canLay0]; exact lay_bls t, show PyData.depth (.list (t.map PyData.bool)) = 1 by simp only [PyData.depth]; rw [deep_bls t]]
  rfl
theorem shaped_blT (t : List Bool) : SeqAt.shaped (.tuple (t.map PyData.bool)) = true := by
  unfold SeqAt.shaped
  rw [show PyData.canLay0 (.tuple (t.map PyData.bool)) = true by simp only [PyData.canLay0]; exact lay_bls t, show PyData.depth (.tuple (t.map PyData.bool)) = 1 by simp only [PyData.depth]; rw [deep_bls t]]
  rfl
theorem eqv_bls : ∀ a b : List Bool, PyData.eqvAll (a.map PyData.bool) (b.map PyData.bool) = decide (a = b)
  | [], [] => by simp [PyData.eqvAll]
  | [], _ :: _ => by simp [PyData.eqvAll]
  | _ :: _, [] => by simp [PyData.eqvAll]
  | x :: a, y :: b => by
    simp only [List.map_cons, PyData.eqvAll, PyData.eqv, eqv_bls a b]
    cases x <;> cases y <;> simp
theorem eqv_blL (a b : List Bool) : PyData.eqv (.list (a.map PyData.bool)) (.list (b.map PyData.bool)) = decide (a = b) := by
  simp only [PyData.eqv]
  exact eqv_bls a b
theorem eqv_blT (a b : List Bool) : PyData.eqv (.tuple (a.map PyData.bool)) (.tuple (b.map PyData.bool)) = decide (a = b) := by
  simp only [PyData.eqv]
  exact eqv_bls a b
theorem mask_set {size n : Nat} {ys : List Nat} (h : n < size) : (maskOf size ys).set n true = maskOf size (ys ++ [n]) := by
  apply ext_ix (by rw [List.length_set, mask_len, mask_len])
  intro i hi
  rw [List.length_set, mask_len] at hi
  rw [ix_mask hi]
  unfold ix
  rw [List.getD_eq_getElem?_getD, List.getElem?_set, mask_len]
  by_cases e : n = i
  · subst e
    simp [h]
  · rw [if_neg e, ← List.getD_eq_getElem?_getD]
    show ix (maskOf size ys) i = _
    rw [ix_mask hi]
    refine decide_eq_decide.2 ?_
    simp only [List.mem_append, List.mem_singleton]
    constructor
    · exact .inl
    · rintro (h | h)
      · exact h
      · exact absurd h.symm e
theorem mask_nil (size : Nat) : (List.replicate size [V.bl false]).flatten = blV (maskOf size []) := by
  unfold blV maskOf
  rw [List.map_map]
  induction size with
  | zero => rfl
  | succ m ih =>
    rw [List.replicate_succ', List.flatten_append, ih, List.range_succ, List.map_append]
    rfl
theorem int_eq {i j : Int} : decide (V.int i = V.int j) = decide (i = j) := decide_eq_decide.mpr ⟨V.int.inj, congrArg _⟩
def bMarked (K : PySem.W.Frag) : List V → Hp → AK → AXK → Prop := fun vs kn Q _ => ∃ (size : Nat) (v : V) (xs : List Nat), vs = [.int size, v] ∧ SeqV K kn v (natV xs) ∧ xs.length ≤ 1000 ∧ size ≤ 1000 ∧ (∀ n ∈ xs, n < size) ∧
  ∀ q k', Ext kn k' → kn q = none → k' q = some (.lst (blV (maskOf size xs))) → Q (.ref q) k'
theorem mo_marked {K : PySem.W.Frag} : MonoX (bMarked K) := by
  rintro vs kn Q R E F h1 h2 ⟨size, v, xs, a, b, c, d, e, h⟩
  exact ⟨size, v, xs, a, b, c, d, e, fun q k z1 z2 z3 => h1 _ _ (h q k z1 z2 z3)⟩
def bLeast : List V → Hp → AK → AXK → Prop := fun vs kn Q _ => ∃ (a : Addr) (t : List Bool), vs = [.ref a] ∧ kn a = some (.lst (blV t)) ∧ 1 ≤ t.length ∧ t.length ≤ 500 ∧ ∀ k', Ext kn k' → Q (.int (leastP t)) k'
theorem mo_least : MonoX bLeast := by
  rintro vs kn Q R E F h1 h2 ⟨a, t, b, c, d, e, h⟩
  exact ⟨a, t, b, c, d, e, fun k z => h1 _ _ (h k z)⟩
section
variable {P : Program} {w : World} {K : PySem.W.Frag} {mg : Str → Option Value} {base : Heap}
theorem ok_marked (T : Tx K mg) : FnOk P w K mg base CX0 1 T.f_marked T.d_marked ["size", "numbers"] (liftX (bMarked K)) := by
  refine T.F_marked.ok sc_marked (fun vs H Q E h => ?_) (fun cdv A outer s H vs Q E hr h => ?_)
  · obtain ⟨kn, _, _, size, v, xs, rfl, _⟩ := h
    rfl
  · obtain ⟨kn, ex, nt, size, v, xs, rfl, sv, lx, ls, mx, h⟩ := h
    refine ⟨_, (pss_cons (ps_set (i := 2) sc_marked.nd rfl (by first | exact Or.inl rfl | exact Or.inr rfl) (pe_op op_repQ (pe_lst (pa_cons pe_bl pa_nil)) (pv 0)))
       (pss_cons (ps_for PassesOwn.never rfl (pi_seq (pv 1)) (pg_name (i := 3) sc_marked.nd rfl (by first | exact Or.inl rfl | exact Or.inr rfl))
       (pss_one (ps_asg pe_bl (pg_sub (pv 2) (pv 3) set_list))))
       (pss_one (ps_ret (pv 2))))), ?_⟩
    refine body_of (pure_start ex nt) ?_
    walk_at "wi"
    refine ⟨show 1 ≤ 1000 by decide, fun l hl => ?_⟩
    walk_at "wi"
    refine r_repQ upd_same (by omega) (by omega) (by show 1 * _ ≤ _; omega) fun p hp => ?_
    rw [Int.toNat_natCast, mask_nil]
    have e1 : Ext kn (upd (upd kn l (.lst [.bl false])) p (.lst (blV (maskOf size [])))) := ext_tr (ext_new hl) (ext_new hp)
    have hp0 := free_ext (ext_new hl) hp
    have p1 : (upd (upd kn l (.lst [.bl false])) p (.lst (blV (maskOf size [])))) p = some (.lst (blV (maskOf size []))) := upd_same
    generalize upd (upd kn l (.lst [.bl false])) p (.lst (blV (maskOf size []))) = kn1 at e1 p1 ⊢
    walk_at "wi"
    refine s_forJ (i_seq3 rfl e1 sv fun J ka G hka => ?_)
    refine ⟨_, ka, fun j σ' k m => m = 0 ∧ (∃ y3, σ' = [some (.int size), some v, some (.ref p), y3]) ∧ Ext kn k ∧ k p = some (.lst (blV (maskOf size (xs.take j)))), G, ⟨rfl, ⟨_, rfl⟩, e1, p1⟩, fun j σ' k m hh => hka _ hh.2.2.1, ?_, ?_⟩
    · rintro j x σ' k m hx ⟨rfl, ⟨y3, rfl⟩, ek, kp⟩
      rw [List.getElem?_map] at hx
      obtain ⟨n, hn, rfl⟩ := Option.map_eq_some_iff.1 hx
      have hs := mx n (List.mem_of_getElem? hn)
      walk_at "wi"
      refine ⟨p, _, _, n, rfl, rfl, kp, ixN_of (by rw [List.length_map, mask_len]; exact hs), ?_⟩
      walk_at "wi"
      refine ⟨rfl, ⟨_, rfl⟩, fun y o hy => ?_, ?_⟩
      · rw [upd_ne (fun z => by rw [z, hp0] at hy; cases hy)]
        exact ek y o hy
      · rw [upd_same, List.take_add_one, hn, show (some n).toList = [n] from rfl, ← mask_set hs]
        show some (HO.lst ((List.map V.bl (maskOf size (List.take j xs))).set n (V.bl true))) = _
        rw [← List.map_set]
    · rintro σ' k m ⟨rfl, ⟨y3, rfl⟩, ek, kp⟩
      walk_at "wi"
      rw [List.length_map, List.take_length] at kp
      exact h p k ek hp0 kp 0
theorem ok_least_period (T : Tx K mg) : FnOk P w K mg base CX0 1 T.f_least_period T.d_least_period ["turn"] (liftX bLeast) := by
  refine T.F_least_period.ok sc_least_period (fun vs H Q E h => ?_) (fun cdv A outer s H vs Q E hr h => ?_)
  · obtain ⟨kn, _, _, a, t, rfl, _⟩ := h
    rfl
  · obtain ⟨kn, ex, nt, a, t, rfl, ha, l1, l2, h⟩ := h
    refine ⟨_, (pss_cons (ps_set (i := 1) sc_least_period.nd rfl (by first | exact Or.inl rfl | exact Or.inr rfl) (pe_callB c_len (by rfl) T.b_len PySem.boot_len (pa_cons (pv 0) pa_nil)))
       (pss_cons (ps_for PassesOwn.never rfl (pi_range2 (by rfl) T.b_range (pa_cons pe_int (pa_cons (pv 1) pa_nil))) (pg_name (i := 2) sc_least_period.nd rfl (by first | exact Or.inl rfl | exact Or.inr rfl))
       (pss_one (ps_if (PW.pt (pw_and (pt_cmpR op_eq (pe_op op_mod (pv 1) (pv 2)) pe_int (nomark _)) (pw_and1 (pt_cmpR (show OpR _ _ (rEqD K) from op_eqD hr.units) (pe_op op_cat (pe_slice (show SlR _ (rSlL K) from sl_list) (pv 0) (po_some (pv 2)) po_none) (pe_slice (show SlR _ (rSlL K) from sl_list) (pv 0) po_none (po_some (pv 2)))) (pv 0) (nomark _)))))
       (pss_one (ps_ret (pv 2)))
       pss_nil)))
       (pss_one (ps_ret (pv 1))))), ?_⟩
    refine body_of (pure_start ex nt) ?_
    walk_at "wi"
    rw [List.length_map]
    refine s_forJ (i_rng2 ?_)
    walk_at "w"
    refine ⟨1, t.length, rfl, ⟨by decide, by decide, by omega, by omega⟩, ?_⟩
    have hm : ((t.length : Int) - 1).toNat = t.length - 1 := by omega
    rw [hm]
    refine ⟨_, (fun _ => True), fun j σ' k m => m = 0 ∧ (∃ y2, σ' = [some (.ref a), some (.int t.length), y2]) ∧ Ext kn k ∧ ∀ q, q ≤ j → isP t q = false, gives_rng, ⟨rfl, ⟨_, rfl⟩, ext_rf, fun q hq => ?_⟩, fun _ _ _ _ _ => trivial, ?_, ?_⟩
    · have : q = 0 := by omega
      subst this
      simp [isP]
    · rintro j x σ' k m hx ⟨rfl, ⟨y2, rfl⟩, ek, hp⟩
      rw [List.getElem?_map] at hx
      obtain ⟨n, hn, rfl⟩ := Option.map_eq_some_iff.1 hx
      have hj := List.getElem?_eq_some_iff.1 hn
      obtain ⟨hj1, hj2⟩ := hj
      rw [List.length_range] at hj1
      rw [List.getElem_range] at hj2
      subst hj2
      have e0 : (1 : Int) + ((j : Nat) : Int) = ((j + 1 : Nat) : Int) := by omega
      rw [e0]
      have hk := ek _ _ ha
      walk_at "wi"
      refine r_I (by omega) ?_
      walk_at "wi"
      rw [int_eq]
      refine ⟨fun hb => ?_, fun hb => ?_⟩
      · have hb := of_decide_eq_true hb
        have hd : t.length % (j + 1) = 0 := by omega
        walk_at "wi"
        refine r_slL hk fun a1 h1 => ?_
        rw [cut_lo, ← List.map_drop]
        have k1 := know (o := .lst (blV (t.drop (j + 1)))) h1 hk
        have q1 : (upd k a1 (.lst (blV (t.drop (j + 1))))) a1 = some (.lst (blV (t.drop (j + 1)))) := upd_same
        have x1 := ext_tr ek (ext_new (o := .lst (blV (t.drop (j + 1)))) h1)
        generalize upd k a1 (.lst (blV (t.drop (j + 1)))) = kA at k1 q1 x1 ⊢
        walk_at "wi"
        refine r_slL k1 fun a2 h2 => ?_
        rw [cut_hi, ← List.map_take]
        have k2 := know (o := .lst (blV (t.take (j + 1)))) h2 k1
        have q2 : (upd kA a2 (.lst (blV (t.take (j + 1))))) a2 = some (.lst (blV (t.take (j + 1)))) := upd_same
        have q1 := know (o := .lst (blV (t.take (j + 1)))) h2 q1
        have x2 := ext_tr x1 (ext_new (o := .lst (blV (t.take (j + 1)))) h2)
        generalize upd kA a2 (.lst (blV (t.take (j + 1)))) = kB at k2 q1 q2 x2 ⊢
        walk_at "wi"
        refine r_cat q1 q2 (by rw [List.length_map, List.length_map, List.length_drop, List.length_take]; omega) fun a3 h3 => ?_
        rw [← List.map_append]
        have k3 := know (o := .lst (blV (turned t (j + 1)))) h3 k2
        have q3 : (upd kB a3 (.lst (blV (turned t (j + 1))))) a3 = some (.lst (blV (turned t (j + 1)))) := upd_same
        have x3 := ext_tr x2 (ext_new (o := .lst (blV (turned t (j + 1)))) h3)
        show W _ _ (upd kB a3 (.lst (blV (turned t (j + 1))))) _ _
        generalize upd kB a3 (.lst (blV (turned t (j + 1)))) = kC at k3 q3 x3 ⊢
        walk_at "wi"
        refine r_eq_d (.lst (sql q3) (dp_bls _)) (.lst (sql k3) (dp_bls _)) (shaped_bls _) (shaped_bls _) ?_
        rw [eqv_blL]
        walk_at "wi"
        refine ⟨fun hb2 => ?_, fun hb2 => ?_⟩
        · have hb2 := of_decide_eq_true hb2
          have hl : leastP t = j + 1 := by
            have yes : isP t (j + 1) = true := by
              unfold isP
              rw [hb2]
              simp [hd]
            rcases leastP_cases t with ⟨_, f⟩ | ⟨l, q, f⟩
            · rw [f (j + 1) (by omega)] at yes; cases yes
            · rcases Nat.lt_trichotomy (leastP t) (j + 1) with z | z | z
              · rw [hp _ (by omega)] at q; cases q
              · exact z
              · rw [f _ z] at yes; cases yes
          have := h kC x3 0
          rw [hl] at this
          walk_at "wi"
          exact this
        · have hb2 := of_decide_eq_false hb2
          walk_at "wi"
          refine ⟨rfl, ⟨_, rfl⟩, x3, fun q hq => ?_⟩
          rcases Nat.lt_or_ge q (j + 1) with z | z
          · exact hp q (by omega)
          · have : q = j + 1 := by omega
            subst this
            unfold isP
            rw [decide_eq_false hb2]
            simp
      · have hb := of_decide_eq_false hb
        walk_at "wi"
        refine ⟨rfl, ⟨_, rfl⟩, ek, fun q hq => ?_⟩
        rcases Nat.lt_or_ge q (j + 1) with z | z
        · exact hp q (by omega)
        · have : q = j + 1 := by omega
          subst this
          unfold isP
          rw [decide_eq_false (show ¬ t.length % (j + 1) = 0 by omega)]
          simp
    · rintro σ' k m ⟨rfl, ⟨y2, rfl⟩, ek, hp⟩
      rw [List.length_map, List.length_range] at hp
      walk_at "wi"
      have e : leastP t = t.length := by
        rcases leastP_cases t with ⟨e, _⟩ | ⟨l, q, _⟩
        · exact e
        · rw [hp _ (by omega)] at q; cases q
      have := h k ek 0
      rw [e] at this
      exact this
end

end NN

namespace NN
open PySem PySem.Spec PyProof.Rows L2 LamX AW ClX
open Tx1 Ln
/-! ### the class -/
structure Least (t : List Bool) : Prop where
  pos : 1 ≤ t.length
  le : t.length ≤ 7
  per : leastP t = t.length
abbrev dayF (s : Nat) (q : Addr) : List (Str × V) := [("_period", .int s), ("_rests", .ref q)]
structure DayAt (C : Addr) (kn : Hp) (a : Addr) (t : List Bool) : Prop where
  at_ : ∃ dx q, kn a = some (.ins C dx (dayF t.length q)) ∧ kn q = some (.tup (natV (idx t)))
  least : Least t
theorem DayAt.ext {C : Addr} {kn kn' : Hp} {a : Addr} {t : List Bool} (x : Ext kn kn') (h : DayAt C kn a t) : DayAt C kn' a t := by
  obtain ⟨⟨dx, q, a1, a2⟩, f⟩ := h
  exact ⟨⟨dx, q, x _ _ a1, x _ _ a2⟩, f⟩
/-- known but at a -/
def KE (a : Addr) (kn k : Hp) : Prop := ∀ x o, x ≠ a → kn x = some o → k x = some o
theorem KE.rf {a : Addr} {kn : Hp} : KE a kn kn := fun _ _ _ h => h
theorem KE.ext {a : Addr} {kn k k' : Hp} (h : KE a kn k) (e : Ext k k') : KE a kn k' := fun x o n z => e _ _ (h x o n z)
theorem KE.put {a : Addr} {kn k : Hp} {o : HO} (h : KE a kn k) : KE a kn (upd k a o) := fun x u n z => by
  rw [upd_ne n]
  exact h x u n z
abbrev NewD (C : Addr) (kn : Hp) (t : List Bool) (Q : AK) : Prop := ∀ x k', Ext kn k' → kn x = none → DayAt C k' x t → Q (.ref x) k'
/-- the least turn that right arguments tell -/
def formT (p : Nat) (ys : List Nat) : List Bool := (maskOf p ys).take (leastP (maskOf p ys))
def GoodP (vp : V) (o : Option (List V)) (p : Nat) (ys : List Nat) : Prop := vp = .int p ∧ 1 ≤ p ∧ p ≤ 7 ∧ o = some (natV ys) ∧ ∀ y ∈ ys, y < p
/-- which argument is wrong -/
def BadP (vp : V) (o : Option (List V)) (part : Str) : Prop :=
  (part = "period" ∧ ¬ ∃ p : Nat, vp = .int p ∧ 1 ≤ p ∧ p ≤ 7) ∨ (part = "rests" ∧ ∃ p : Nat, vp = .int p ∧ 1 ≤ p ∧ p ≤ 7 ∧ ¬ ∃ ys, o = some (natV ys) ∧ ∀ y ∈ ys, y < p)
/-- an error of class B with its field -/
def BadE (B : Addr) (kn : Hp) (f : Str) (y : V) (E : AXK) : Prop := ∀ d k', Ext kn k' → kn d = none → k' d = some (.xd [(f, y)]) → E (.ref B) (some d) k'
theorem BadE.ext {B : Addr} {kn kn' : Hp} {f : Str} {y : V} {E : AXK} (e : Ext kn kn') (h : BadE B kn f y E) : BadE B kn' f y E := fun d k' x n u => h d k' (ext_tr e x) (free_ext e n) u
theorem form_least {p : Nat} {ys : List Nat} (h1 : 1 ≤ p) (h2 : p ≤ 7) : Least (formT p ys) := by
  have hl := mask_len p ys
  have hp := leastP_pos (t := maskOf p ys) (by omega)
  have hle := leastP_le (maskOf p ys)
  have e : (formT p ys).length = leastP (maskOf p ys) := by
    unfold formT
    rw [List.length_take, Nat.min_eq_left hle]
  refine ⟨by omega, by omega, ?_⟩
  rw [e]
  exact leastP_take (by omega)
theorem form_len (p : Nat) (ys : List Nat) : (formT p ys).length = leastP (maskOf p ys) := by
  unfold formT
  rw [List.length_take, Nat.min_eq_left (leastP_le _)]
theorem again {t : List Bool} (h : Least t) : formT t.length (idx t) = t := by
  unfold formT
  rw [mask_idx, h.per, List.take_length]
def bInit (K : PySem.W.Frag) (C B : Addr) : List V → Hp → AK → AXK → Prop := fun vs kn Q E => ∃ (a dx : Addr) (vp vr : V) (o : Option (List V)), vs = [.ref a, vp, vr] ∧ kn a = some (.ins C dx []) ∧ RestsV K kn vr o ∧ AnyN K kn vp ∧
  (∀ p ys, GoodP vp o p ys → ∀ k', KE a kn k' → (∃ q, k' a = some (.ins C dx (dayF (formT p ys).length q)) ∧ k' q = some (.tup (natV (idx (formT p ys))))) → Q .non k') ∧
  (∀ part, BadP vp o part → BadE B kn "part" (.str part) E)
theorem mo_init {K : PySem.W.Frag} {C B : Addr} : MonoX (bInit K C B) := by
  rintro vs kn Q R E F h1 h2 ⟨a, dx, vp, vr, xs, e1, e2, e3, e4, h, g⟩
  exact ⟨a, dx, vp, vr, xs, e1, e2, e3, e4, fun p ys z k y u => h1 _ _ (h p ys z k y u), fun p z d k y n u => h2 _ _ _ (g p z d k y n u)⟩
theorem nums_any {p : Nat} {K : PySem.W.Frag} {kn : Hp} : ∀ {xs : List V}, (∀ x ∈ xs, AnyN K kn x) → xs.all (okV 0 ((p : Int) - 1)) = true → ∃ ys : List Nat, xs = natV ys ∧ ∀ y ∈ ys, y < p
  | [], _, _ => ⟨[], rfl, fun y hy => (by cases hy)⟩
  | x :: xs, hn, h => by
    rw [List.all_cons, Bool.and_eq_true] at h
    obtain ⟨ys, e, hy⟩ := nums_any (fun z hz => hn z (.tail _ hz)) h.2
    rcases hn x (.head _) with ⟨i, rfl⟩ | od
    · have h1 := h.1
      simp only [okV, Bool.and_eq_true, decide_eq_true_eq] at h1
      refine ⟨i.toNat :: ys, ?_, fun y hy2 => ?_⟩
      · rw [e]
        show _ = V.int ((i.toNat : Nat) : Int) :: natV ys
        rw [Int.toNat_of_nonneg h1.1]
      · rcases List.mem_cons.1 hy2 with rfl | h3
        · omega
        · exact hy y h3
    · have := h.1
      rw [okV_odd od] at this
      cases this
theorem all_of {p : Nat} {ys : List Nat} (h : ∀ y ∈ ys, y < p) : (natV ys).all (okV 0 ((p : Int) - 1)) = true := by
  rw [List.all_map, List.all_eq_true]
  intro y hy
  have := h y hy
  show okV 0 ((p : Int) - 1) (.int (y : Int)) = true
  simp only [okV, Bool.and_eq_true, decide_eq_true_eq]
  omega
theorem rng_filter {m : Nat} {p : V → Bool} {P : Nat → Bool} (h : ∀ i, i < m → p (.int (0 + ((i : Nat) : Int))) = P i) : ((List.range m).map fun (i : Nat) => V.int (0 + (i : Int))).filter p = natV ((List.range m).filter P) := by
  rw [List.filter_map]
  unfold natV
  have e : (fun (i : Nat) => V.int (0 + (i : Int))) = fun (i : Nat) => V.int (i : Int) := by funext i; rw [Int.zero_add]
  rw [e]
  congr 1
  apply List.filter_congr
  intro i hi
  have := h i (List.mem_range.1 hi)
  rw [Int.zero_add] at this
  exact this
theorem idx_take {t : List Bool} {b : Nat} (h : b ≤ t.length) : (List.range b).filter (ix t) = idx (t.take b) := by
  unfold idx
  rw [List.length_take, Nat.min_eq_left h]
  apply List.filter_congr
  intro i hi
  exact (ix_take (List.mem_range.1 hi)).symm
theorem at_bl {t : List Bool} {i : Nat} (h : i < t.length) : atI (blV t) ((i : Nat) : Int) = some (.bl (ix t i)) := by
  refine atI_nat ?_
  rw [List.getElem?_map, List.getElem?_eq_getElem h, ix_lt h]
  rfl
def pIx (t : List Bool) : V → Bool
  | .int i => ix t i.toNat
  | _ => false
section
variable {c : Cw} {kn : Hp} {n : Nat} {σ : L2.St} {Q : V → Hp → Nat → Prop} {K : PySem.W.Frag}
/-- [n for n in range(b) if t[n]] -/
theorem w_lcIx {te : TE} {m j : Nat} {q : Addr} {b : Nat} {t : List Bool} (hte : ∀ R : V → Hp → Nat → Prop, R (.int b) kn n → W c (te σ) kn n R) (hj : ∀ v : V, ((wipe σ [m]).set m (some v))[j]? = some (some (.ref q))) (h9 : ∀ v : V, ((wipe σ [m]).set m (some v))[m]? = some (some v)) (hw : ∀ v : V, wipe ((wipe σ [m]).set m (some v)) [m] = wipe σ [m])
    (ht : kn q = some (.lst (blV t))) (hb : b ≤ t.length) (hs : b ≤ 1000) (hq : ∀ D, kn D = none → Q (.ref D) (upd kn D (.lst (natV (idx (t.take b))))) n) :
    W c (tLc (iRng1 (tCons te tNil)) (gName m) (tB (tOp (rIxL K) (tVar j) (tVar m))) (tVar m) [m] σ) kn n Q := by
  refine w_lcP (i_rng1 (w_cons (hte _ (w_nil ⟨b, rfl, by omega, by omega, ?_⟩))))
  rw [Int.toNat_natCast]
  refine ⟨_, (fun _ => True), (fun v => v), pIx t, gives_rng, by rw [List.length_map, List.length_range]; omega, fun _ _ => trivial, fun x hx k ek => ?_, fun D hD => ?_⟩
  · obtain ⟨i, hm, rfl⟩ := List.mem_map.1 hx
    have hm := List.mem_range.1 hm
    rw [Int.zero_add]
    refine g_name ⟨rfl, rfl, hw _, ?_⟩
    refine w_B (w_op (w_var (hj _) (w_var (h9 _) (r_ixL (ek _ _ ht) (at_bl (by omega)) ⟨_, rfl, rfl, rfl, rfl, fun _ => w_var (h9 _) ⟨rfl, rfl, rfl⟩⟩))))
  · rw [rng_filter (P := ix t) (fun i hi => by rw [Int.zero_add]; rfl), List.map_id', idx_take hb]
    exact hq D hD
end
section
variable {P : Program} {w : World} {K : PySem.W.Frag} {mg : Str → Option Value} {base : Heap}
theorem ok_BadDays___init__ (T : Tx K mg) : FnOk P w K mg base CX0 1 T.f_BadDays___init__ T.d_BadDays___init__ ["self", "part"] (spX1 K "part") := by
  refine T.F_BadDays___init__.ok sc_BadDays___init__ (fun vs H Q E h => ?_) (fun cdv A outer s H vs Q E hr h => ?_)
  · obtain ⟨a, C, y, rfl, _⟩ := h
    rfl
  · obtain ⟨a, C, y, rfl, oc, hf, ha, h⟩ := h
    refine ⟨_, (pss_one (ps_ost (pv 0) (pv 1))), ?_⟩
    refine ⟨_, rfl, _, rfl, a, C, rfl, oc, hf, .inl ⟨ha, h⟩⟩
theorem ok_TooMany___init__ (T : Tx K mg) : FnOk P w K mg base CX0 1 T.f_TooMany___init__ T.d_TooMany___init__ ["self", "what", "most"] (spX2 K "what" "most") := by
  refine T.F_TooMany___init__.ok sc_TooMany___init__ (fun vs H Q E h => ?_) (fun cdv A outer s H vs Q E hr h => ?_)
  · obtain ⟨a, C, y, z, rfl, _⟩ := h
    rfl
  · obtain ⟨a, C, y, z, rfl, oc, hf, hg, ha, h⟩ := h
    refine ⟨_, (pss_cons (ps_ost (pv 0) (pv 1))
       (pss_one (ps_ost (pv 0) (pv 2)))), ?_⟩
    refine ⟨_, rfl, _, rfl, a, C, rfl, oc, hf, .inl ⟨ha, fun dx hd hda => ?_⟩⟩
    refine ⟨_, rfl, _, rfl, a, C, rfl, oc, hg, .inr ⟨dx, [("what", y)], upd_same, ?_, (show 1 ≤ 900 by decide), h dx hd hda⟩⟩
    rw [upd_ne hda, upd_same]
theorem ok_Days___init__ (T : Tx K mg) : FnOk P w K mg base (L2.CX P w) 5 T.f_Days___init__ T.d_Days___init__ ["self", "period", "rests"] (liftX (bInit K T.c_Days T.c_BadDays)) := by
  refine T.F_Days___init__.okX sc_Days___init__ (fun vs H Q E h => ?_) (fun cdv A outer s H vs Q E hr h => ?_)
  · obtain ⟨kn, _, _, a, dx, vp, vr, xs, rfl, _⟩ := h
    rfl
  · obtain ⟨kn, ex, nt, a, dx, vp, vr, o, rfl, ha, sv, np, h, g⟩ := h
    refine ⟨_, (pss_cons (ps_if (pt_not (pt_val (pe_call (ok_is_from T) (hr.mono (by decide)) (by rfl) T.g_is_from T.F_is_from.kp T.bd_is_from .nil pass0 (pa_cons (pv 1) (pa_cons pe_int (pa_cons (pe_cval (pe_glob (v := .ref T.c_Days) (by rfl) T.g_Days rfl)) pa_nil))))))
       (pss_one (ps_raise rfl (takes_of rfl rfl rfl rfl) (pmk_oex T.x_BadDays T.fi_BadDays___init__ T.ti_BadDays (ok_BadDays___init__ T) (hr.mono (by decide)) T.bd_BadDays___init__ .nil pass0 (by rfl) T.g_BadDays (pa_cons pe_str pa_nil))))
       pss_nil)
       (pss_cons (ps_if (pt_not (pt_val (pe_call (ok_are_from T) (hr.mono (by decide)) (by rfl) T.g_are_from T.F_are_from.kp T.bd_are_from .nil pass0 (pa_cons (pv 2) (pa_cons pe_int (pa_cons (pe_op op_sub (pv 1) pe_int) pa_nil))))))
       (pss_one (ps_raise rfl (takes_of rfl rfl rfl rfl) (pmk_oex T.x_BadDays T.fi_BadDays___init__ T.ti_BadDays (ok_BadDays___init__ T) (hr.mono (by decide)) T.bd_BadDays___init__ .nil pass0 (by rfl) T.g_BadDays (pa_cons pe_str pa_nil))))
       pss_nil)
       (pss_cons (ps_set (i := 3) sc_Days___init__.nd rfl (by first | exact Or.inl rfl | exact Or.inr rfl) (pe_call (ok_marked T) (hr.mono (by decide)) (by rfl) T.g_marked T.F_marked.kp T.bd_marked .nil pass0 (pa_cons (pv 1) (pa_cons (pv 2) pa_nil))))
       (pss_cons (ps_fld (pv 0) (pe_call (ok_least_period T) (hr.mono (by decide)) (by rfl) T.g_least_period T.F_least_period.kp T.bd_least_period .nil pass0 (pa_cons (pv 3) pa_nil)) rfl)
       (pss_one (ps_fld (pv 0) (pe_callTy c_tupQ (by rfl) T.b_tuple (by decide +kernel) (pa_cons (pe_lc (own := [("n", 4)]) (g := gName 4) (by rfl) sc_Days___init__.nd (pi_range1 (by rfl) T.b_range (pa_cons (pe_fld (pv 0) rfl) pa_nil)) (blkOk_by (own := [("n", 4)]) (N := ["self", "period", "rests", "turn", "n"]) (sc := defScope s_Days___init__) (by decide +kernel)) (fun _ _ _ _ _ => pg_name (i := 4) sc_Days___init__.nd rfl (Or.inl rfl)) (fun _ _ _ _ _ => (pts_one (pt_val (pe_ix (show IxR _ (rIxL K) from ix_list) (pv 3) (pv 4) (fun _ _ => rfl))))) (fun _ _ _ _ _ => (pv 4))) pa_nil)) rfl)))))), ?_⟩
    refine body_of (pure_start ex nt) ?_
    have cL := T.cl_Days
    obtain ⟨mu, hmu⟩ := T.cv_Days_MOST
    walk_at "wi"
    refine w_call mo_from err_no ?_
    walk_at "w"
    refine ⟨_, _, _, _, rfl, T.cr_Days, hmu, ?_⟩
    walk_at "w"
    rcases np with ⟨i, rfl⟩ | od
    · refine ⟨_, _, _, rfl, .inl ⟨_, rfl, ?_⟩⟩
      walk_at "wi"
      refine ⟨fun hb => ?_, fun hb => ?_⟩
      · have nb : BadP (.int i) o "period" := by
          refine .inl ⟨rfl, ?_⟩
          rintro ⟨p, e, p1, p2⟩
          have e : i = p := V.int.inj e
          rw [decide_eq_true (show (1 : Int) ≤ i by omega), decide_eq_true (show i ≤ 7 by omega)] at hb
          cases hb
        walk_at "wi"
        refine s_raise1 T.x_BadDays T.nx_BadDays_part err_body ?_
        walk_at "wi"
        exact fun d hd => g _ nb d _ (ext_new hd) hd upd_same 0
      · have hb : 1 ≤ i ∧ i ≤ 7 := by
          have hb : (decide (1 ≤ i) && decide (i ≤ 7)) = true := by simpa using hb
          rw [Bool.and_eq_true, decide_eq_true_eq, decide_eq_true_eq] at hb
          exact hb
        obtain ⟨p, rfl⟩ : ∃ p : Nat, i = p := ⟨i.toNat, by omega⟩
        walk_at "wi"
        refine w_call mo_are err_no ?_
        walk_at "w"
        refine ⟨_, o, _, _, rfl, sv, fun k1 e1 => ?_⟩
        walk_at "wi"
        refine ⟨fun hb2 => ?_, fun hb2 => ?_⟩
        · have nb : BadP (.int (p : Int)) o "rests" := by
            refine .inr ⟨rfl, p, rfl, by omega, by omega, ?_⟩
            rintro ⟨ys, rfl, hy⟩
            have hb2 : (!(natV ys).all (okV 0 ((p : Int) - 1))) = true := hb2
            rw [all_of hy] at hb2
            cases hb2
          walk_at "wi"
          refine s_raise1 T.x_BadDays T.nx_BadDays_part err_body ?_
          walk_at "wi"
          exact fun d hd => g _ nb d _ (ext_tr e1 (ext_new hd)) (free_ext e1 hd) upd_same 0
        · obtain ⟨xs, rfl⟩ : ∃ xs, o = some xs := by
            cases o with
            | none => cases hb2
            | some xs => exact ⟨xs, rfl⟩
          obtain ⟨sv, lx, nx⟩ := sv
          obtain ⟨a2, ea2, _⟩ := id sv
          subst ea2
          have hb2 : xs.all (okV 0 ((p : Int) - 1)) = true := by
            have hb2 : (!xs.all (okV 0 ((p : Int) - 1))) = false := hb2
            simpa using hb2
          obtain ⟨ys, rfl, hy⟩ := nums_any nx hb2
          have h := h p ys ⟨rfl, by omega, by omega, rfl, hy⟩
          rw [List.length_map] at lx
          have hturn : (maskOf p ys).length = p := mask_len _ _
          have hpos := leastP_pos (t := maskOf p ys) (by omega)
          have hle := leastP_le (maskOf p ys)
          walk_at "wi"
          refine w_call mo_marked err_no ?_
          walk_at "w"
          refine ⟨p, _, ys, rfl, SeqV.ext e1 sv, lx, (by omega), hy, fun qt k3 e3 f3 hn3 => ?_⟩
          walk_at "wi"
          refine w_call mo_least err_no ?_
          walk_at "w"
          refine ⟨qt, _, rfl, hn3, (by rw [hturn]; omega), (by rw [hturn]; omega), fun k4 e4 => ?_⟩
          have hte : qt ≠ a := fun z => by have := e1 _ _ ha; rw [← z, f3] at this; cases this
          have K4 : KE a kn k4 := KE.rf.ext (ext_tr e1 (ext_tr e3 e4))
          have A4 := e4 _ _ (e3 _ _ (e1 _ _ ha))
          have T4 := e4 _ _ hn3
          clear e1 e3 e4 f3 hn3
          unfold formT at h
          obtain ⟨sP, hsP⟩ : ∃ sP, sP = leastP (maskOf p ys) := ⟨_, rfl⟩
          obtain ⟨turn, hT⟩ : ∃ turn, turn = maskOf p ys := ⟨_, rfl⟩
          rw [← hT] at hturn hpos hle h hsP T4 ⊢
          rw [← hsP] at hpos hle h ⊢
          clear hsP hT
          walk_at "wi"
          refine ⟨_, _, _, _, rfl, A4, cL, T.na_Days__period, by decide, ?_⟩
          have A6 : (upd k4 a (.ins T.c_Days dx (putF "_period" (.int sP) []))) a = some (.ins T.c_Days dx [("_period", .int sP)]) := upd_same
          have K6 := K4.put (o := .ins T.c_Days dx (putF "_period" (.int sP) []))
          have T6 : (upd k4 a (.ins T.c_Days dx (putF "_period" (.int sP) []))) qt = _ := (upd_ne hte).trans T4
          generalize upd k4 a (.ins T.c_Days dx (putF "_period" (.int sP) [])) = k6 at A6 K6 T6 ⊢
          clear A4 K4 T4
          refine s_fld ?_
          refine w_cb (w_cons (w_lcIx (q := qt) (t := turn) (b := sP) (fun R hR => w_fld (w_var rfl ⟨_, _, _, _, _, rfl, A6, cL, T.na_Days__period, rfl, hR⟩)) (fun _ => rfl) (fun _ => rfl) (fun _ => rfl) T6 hle (by omega) fun D hD => w_nil (r_tupL upd_same fun l hl => ?_)))
          walk_at "w"
          have d1 : l ≠ a := fun z => by rw [z, know hD A6] at hl; cases hl
          refine ⟨_, _, _, _, rfl, know hl (know hD A6), cL, T.na_Days__rests, (show 1 < 1000 by decide), ?_⟩
          walk_at "wi"
          refine fun H' g' => h _ ((K6.ext (ext_tr (ext_new hD) (ext_new hl))).put) ⟨l, ?_, (upd_ne d1).trans upd_same⟩ 0 H' g'
          rw [upd_same, List.length_take, Nat.min_eq_left hle]
          rfl
    · refine ⟨_, _, _, rfl, .inr ⟨od, ?_⟩⟩
      have nb : BadP vp o "period" := by
        refine .inl ⟨rfl, ?_⟩
        rintro ⟨p, rfl, p1, p2⟩
        have := okV_odd (lo := 1) (hi := 7) od
        simp only [okV, Bool.and_eq_false_iff, decide_eq_false_iff_not] at this
        omega
      walk_at "wi"
      refine s_raise1 T.x_BadDays T.nx_BadDays_part err_body ?_
      walk_at "wi"
      exact fun d hd => g _ nb d _ (ext_new hd) hd upd_same 0
/-- Days(..): what it makes, what it refuses -/
def MakeD (K : PySem.W.Frag) (C B : Addr) (vp vr : V) (kn1 : Hp) (Q : AK) (E : AXK) : Prop := ∃ o, RestsV K kn1 vr o ∧ AnyN K kn1 vp ∧ (∀ p ys, GoodP vp o p ys → NewD C kn1 (formT p ys) Q) ∧ (∀ part, BadP vp o part → BadE B kn1 "part" (.str part) E)
theorem make_init {K : PySem.W.Frag} {C B : Addr} {vp vr : V} {kn1 : Hp} {Q : AK} {E : AXK} (hv : MakeD K C B vp vr kn1 Q E) {x dx : Addr} (hx : kn1 x = none) (hdx : kn1 dx = none) (hne : dx ≠ x) :
    bInit K C B [.ref x, vp, vr] (upd (upd kn1 dx (.own x)) x (.ins C dx [])) (fun v k => v = .non ∧ Q (.ref x) k) E := by
  obtain ⟨o, sv, np, h1, h2⟩ := hv
  have hx2 : upd kn1 dx (.own x) x = none := by rw [upd_ne (Ne.symm hne)]; exact hx
  have ex : Ext kn1 (upd (upd kn1 dx (.own x)) x (.ins C dx [])) := ext_tr (ext_new hdx) (ext_new hx2)
  have keep : ∀ k', KE x (upd (upd kn1 dx (.own x)) x (.ins C dx [])) k' → Ext kn1 k' := fun k' ke y o hy => ke y o (fun z => by rw [z, hx] at hy; cases hy) (ex y o hy)
  refine ⟨x, dx, vp, vr, o, rfl, upd_same, rests_ext ex sv, any_ext ex np, fun p ys gp k' ke hk => ⟨rfl, h1 p ys gp x k' (keep k' ke) hx ?_⟩, fun part nb => (h2 part nb).ext ex⟩
  obtain ⟨q, z1, z2⟩ := hk
  exact ⟨⟨dx, q, z1, z2⟩, form_least gp.2.1 gp.2.2.1⟩
theorem w_days {c : Cw} {kn : Hp} {n : Nat} {σ : L2.St} {Q : V → Hp → Nat → Prop} {E : XK} {EA : EAK} {C B : Addr} {t : TA} (hE : ErrOk c EA E)
    (h : W c (t σ) kn n fun vs kn1 n1 => ∃ vp vr, vs = [vp, vr] ∧ MakeD K C B vp vr kn1 (fun v k => Q v k n1) (fun cls d k => EA cls d k n1)) : W c (tMake C (liftX (bInit K C B)) [] E t σ) kn n Q := by
  refine w_make mo_init hE (h.mono fun vs kn1 n1 hv => ?_)
  obtain ⟨vp, vr, rfl, hv⟩ := hv
  intro x dx hx hdx hne
  exact make_init hv hx hdx hne
end

end NN

namespace NN
open PySem PySem.Spec PyProof.Rows L2 LamX AW ClX
open Tx1 Ln
/-! ### compared, written -/
theorem dp_nats {K : PySem.W.Frag} {H : Hp} : ∀ xs : List Nat, DpAll K H (natV xs) (xs.map fun (n : Nat) => PyData.int n)
  | [] => .nil
  | n :: r => .cons (.int n) (dp_nats r)
theorem lay_nats : ∀ xs : List Nat, PyData.canLayAll0 (xs.map fun (n : Nat) => PyData.int n) = true
  | [] => by simp [PyData.canLayAll0]
  | n :: r => by simp only [List.map_cons, PyData.canLayAll0, PyData.canLay0]; rw [lay_nats r]; rfl
theorem deep_nats : ∀ xs : List Nat, PyData.depthAll (xs.map fun (n : Nat) => PyData.int n) = 0
  | [] => by simp [PyData.depthAll]
  | n :: r => by simp only [List.map_cons, PyData.depthAll, PyData.depth]; rw [deep_nats r]; rfl
theorem shaped_natT (xs : List Nat) : SeqAt.shaped (.tuple (xs.map fun (n : Nat) => PyData.int n)) = true := by
  unfold SeqAt.shaped
  rw [show PyData.canLay0 (.tuple (xs.map fun (n : Nat) => PyData.int n)) = true by simp only [PyData.canLay0]; exact lay_nats xs, show PyData.depth (.tuple (xs.map fun (n : Nat) => PyData.int n)) = 1 by simp only [PyData.depth]; rw [deep_nats xs]]
  rfl
theorem shaped_natL (xs : List Nat) : SeqAt.shaped (.list (xs.map fun (n : Nat) => PyData.int n)) = true := by
  unfold SeqAt.shaped
  rw [show PyData.canLay0 (.list (xs.map fun (n : Nat) => PyData.int n)) = true by simp only [PyData.canLay0]; exact lay_nats xs, show PyData.depth (.list (xs.map fun (n : Nat) => PyData.int n)) = 1 by simp only [PyData.depth]; rw [deep_nats xs]]
  rfl
theorem eqv_nats : ∀ a b : List Nat, PyData.eqvAll (a.map fun (n : Nat) => PyData.int n) (b.map fun (n : Nat) => PyData.int n) = decide (a = b)
  | [], [] => by simp [PyData.eqvAll]
  | [], _ :: _ => by simp [PyData.eqvAll]
  | _ :: _, [] => by simp [PyData.eqvAll]
  | x :: a, y :: b => by
    simp only [List.map_cons, PyData.eqvAll, PyData.eqv, eqv_nats a b]
    rw [Bool.eq_iff_iff]
    simp
    omega
theorem eqv_natT (a b : List Nat) : PyData.eqv (.tuple (a.map fun (n : Nat) => PyData.int n)) (.tuple (b.map fun (n : Nat) => PyData.int n)) = decide (a = b) := by
  simp only [PyData.eqv]
  exact eqv_nats a b
theorem eqv_natL (xs : List Nat) : PyData.eqv (.list (xs.map fun (n : Nat) => PyData.int n)) (.list []) = xs.isEmpty := by
  cases xs <;> simp [PyData.eqv, PyData.eqvAll]
/-! ### the text -/
abbrev everyS : Str := SX.S [101, 118, 101, 114, 121]
theorem sp_eq : (Str.ofString " ") = Tx1.spS := by decide +kernel
theorem by_eq : (Str.ofString "by") = byS := by decide +kernel
theorem at_eq : (Str.ofString "at") = Tx1.atS := by decide +kernel
theorem none_eq : (Str.ofString "none") = noneS := by decide +kernel
theorem every_eq : (Str.ofString "every") = everyS := by decide +kernel
theorem log_small {i : Int} (h1 : -(10 ^ 13) < i) (h2 : i < 10 ^ 13) : i.natAbs.log2 < 1920 := by
  by_cases z : i.natAbs = 0
  · rw [z]; decide
  · have a : i.natAbs < 2 ^ 44 := by omega
    exact Nat.lt_trans ((Nat.log2_lt z).mpr a) (by decide)
theorem len_small {i : Int} (h1 : -(10 ^ 13) < i) (h2 : i < 10 ^ 13) : (Str.ofString (toString i)).length ≤ 14 := by
  rw [PySem.ofString_length]
  exact int_text_length_le10 (k := 13) (by decide) (by omega)
theorem nS_len {n : Nat} (h : n ≤ 1000) : (nS n).length ≤ 14 := len_small (by omega) (by omega)
theorem sum_le {α : Type} {f : α → Nat} {m : Nat} : ∀ {l : List α}, (∀ x ∈ l, f x ≤ m) → (l.map f).sum ≤ m * l.length
  | [], _ => by simp
  | a :: l, h => by
    have h1 := h a List.mem_cons_self
    have h2 := sum_le (f := f) (m := m) (l := l) fun x hx => h x (List.mem_cons_of_mem _ hx)
    simp only [List.map_cons, List.sum_cons, List.length_cons]
    rw [Nat.mul_succ]
    omega
theorem idx_len (t : List Bool) : (idx t).length ≤ t.length := by
  unfold idx
  exact Nat.le_trans (List.length_filter_le _ _) (by rw [List.length_range]; exact Nat.le_refl _)
def dW (t : List Bool) : List Str := byS :: nS t.length :: Tx1.atS :: (idx t).map nS
def dT (t : List Bool) : Str := if idx t = [] then noneS else if t.length = 1 then everyS else Txt.join Tx1.spS (dW t)
theorem dW_len {t : List Bool} (h : Least t) : (dW t).length ≤ 10 ∧ ∀ p ∈ dW t, p.length ≤ 14 := by
  have h1 := idx_len t
  have h2 := h.le
  have ht : ∀ n ∈ idx t, (nS n).length ≤ 14 := fun n hn => nS_len (by have := (mem_idx.1 hn).1; omega)
  constructor
  · unfold dW
    simp only [List.length_cons, List.length_map]
    omega
  · intro p hp
    unfold dW at hp
    simp only [List.mem_cons] at hp
    rcases hp with rfl | rfl | rfl | h
    · decide
    · exact nS_len (by omega)
    · decide
    · obtain ⟨n, hm, rfl⟩ := List.mem_map.1 h
      exact ht n hm
theorem dW_free (t : List Bool) : ∀ p ∈ dW t, ¬ 32 ∈ TL.tl p := by
  have hn : ∀ n, ¬ 32 ∈ TL.tl (nS n) := fun n hc => by have := nS_dig n 32 hc; omega
  intro p hp
  unfold dW at hp
  simp only [List.mem_cons] at hp
  rcases hp with rfl | rfl | rfl | h
  · decide
  · exact hn _
  · decide
  · obtain ⟨n, hm, rfl⟩ := List.mem_map.1 h
    exact hn _
theorem split_dW (t : List Bool) : Txt.split (Txt.join Tx1.spS (dW t)) Tx1.spS = dW t := split_words (by unfold dW; exact List.cons_ne_nil _ _) (dW_free t)
theorem dW_ne_none (t : List Bool) : Txt.join Tx1.spS (dW t) ≠ noneS := fun z => by
  have e := split_dW t
  rw [z, show Txt.split noneS Tx1.spS = [noneS] by decide +kernel] at e
  unfold dW at e
  exact absurd (List.cons.inj e).2.symm (List.cons_ne_nil _ _)
theorem dW_ne_every (t : List Bool) : Txt.join Tx1.spS (dW t) ≠ everyS := fun z => by
  have e := split_dW t
  rw [z, show Txt.split everyS Tx1.spS = [everyS] by decide +kernel] at e
  unfold dW at e
  exact absurd (List.cons.inj e).2.symm (List.cons_ne_nil _ _)
def isD (x : Str) : Prop := ∃ t, Least t ∧ x = dT t
theorem dT_long {t : List Bool} {x : Str} (e : x = dT t) (h1 : x ≠ noneS) (h2 : x ≠ everyS) : x = Txt.join Tx1.spS (dW t) := by
  unfold dT at e
  split at e
  · exact absurd e h1
  · split at e
    · exact absurd e h2
    · exact e
def fStr : V → V
  | .int i => .str (Str.ofString (toString i))
  | v => v
abbrev strV (ws : List Str) : List V := ws.map V.str
theorem map_fStr (xs : List Nat) : ((natV xs).filter (fun _ => true)).map fStr = strV (xs.map nS) := by
  rw [List.filter_eq_self.2 (fun _ _ => rfl)]
  unfold natV strV
  rw [List.map_map, List.map_map]
  rfl
def bEq (K : PySem.W.Frag) (C : Addr) : List V → Hp → AK → AXK → Prop := fun vs kn Q _ => ∃ a y t, vs = [.ref a, y] ∧ DayAt C kn a t ∧ ((∃ b t', y = .ref b ∧ DayAt C kn b t' ∧ Q (.bl (decide (t = t'))) kn) ∨ ∃ ty, TyX K kn y ty ∧ PySem.W.kitOne K ty (.ref C) = some false ∧ Q (.bl false) kn)
theorem mo_eq {K : PySem.W.Frag} {C : Addr} : MonoX (bEq K C) := by
  rintro vs kn Q R E F h1 h2 ⟨a, y, t, e, x, ⟨b, t', z, u, h⟩ | ⟨ty, z, u, h⟩⟩
  · exact ⟨a, y, t, e, x, .inl ⟨b, t', z, u, h1 _ _ h⟩⟩
  · exact ⟨a, y, t, e, x, .inr ⟨ty, z, u, h1 _ _ h⟩⟩
def bStr (C : Addr) : List V → Hp → AK → AXK → Prop := fun vs kn Q _ => ∃ a t, vs = [.ref a] ∧ DayAt C kn a t ∧ ∀ k', Ext kn k' → Q (.str (dT t)) k'
theorem mo_str {C : Addr} : MonoX (bStr C) := by
  rintro vs kn Q R E F h1 h2 ⟨a, t, x, y, h⟩
  exact ⟨a, t, x, y, fun k e => h1 _ _ (h k e)⟩
section
variable {c : Cw} {kn : Hp} {n : Nat} {σ : L2.St} {Q : V → Hp → Nat → Prop} {K : PySem.W.Frag}
/-- [str(n) for n in a tuple or a list of numbers] -/
theorem w_strs {te : TE} {i : Nat} {xs : List Nat} {q : Addr} (hte : ∀ R : V → Hp → Nat → Prop, R (.ref q) kn n → W c (te σ) kn n R) (hq : kn q = some (.tup (natV xs))) (hl : xs.length ≤ 1000) (hx : ∀ m ∈ xs, m ≤ 1000)
    (hi : ∀ v : V, ((wipe σ [i]).set i (some v))[i]? = some (some v)) (hw : ∀ v : V, wipe ((wipe σ [i]).set i (some v)) [i] = wipe σ [i])
    (h : ∀ D, kn D = none → Q (.ref D) (upd kn D (.lst (strV (xs.map nS)))) n) : W c (tLc (iTup K te) (gName i) tYes (tCB rStrI (tCons (tVar i) tNil)) [i] σ) kn n Q := by
  refine w_lcP (i_tup (hte _ ⟨q, _, rfl, hq, ?_⟩))
  refine ⟨_, _, fStr, fun _ => true, gives_tup, by rw [List.length_map]; omega, fun k e => e _ _ hq, fun x hx2 k ek => ?_, fun D hD => ?_⟩
  · obtain ⟨m, hm, rfl⟩ := List.mem_map.1 hx2
    have := hx m hm
    refine g_name ⟨rfl, rfl, hw _, w_yesT ⟨rfl, rfl, rfl, fun _ => ?_⟩⟩
    exact w_cb (w_cons (w_var (hi _) (w_nil (r_strI (log_small (by omega) (by omega)) ⟨rfl, rfl, rfl⟩))))
  · rw [map_fStr]
    exact h D hD
theorem w_strsL {te : TE} {i : Nat} {xs : List Nat} {q : Addr} (hte : ∀ R : V → Hp → Nat → Prop, R (.ref q) kn n → W c (te σ) kn n R) (hq : kn q = some (.lst (natV xs))) (hl : xs.length ≤ 1000) (hx : ∀ m ∈ xs, m ≤ 1000)
    (hi : ∀ v : V, ((wipe σ [i]).set i (some v))[i]? = some (some v)) (hw : ∀ v : V, wipe ((wipe σ [i]).set i (some v)) [i] = wipe σ [i])
    (h : ∀ D, kn D = none → Q (.ref D) (upd kn D (.lst (strV (xs.map nS)))) n) : W c (tLc (iList K te) (gName i) tYes (tCB rStrI (tCons (tVar i) tNil)) [i] σ) kn n Q := by
  refine w_lcP (i_list (hte _ ⟨q, _, rfl, hq, ?_⟩))
  refine ⟨_, _, fStr, fun _ => true, gives_lst, by rw [List.length_map]; omega, fun k e => e _ _ hq, fun x hx2 k ek => ?_, fun D hD => ?_⟩
  · obtain ⟨m, hm, rfl⟩ := List.mem_map.1 hx2
    have := hx m hm
    refine g_name ⟨rfl, rfl, hw _, w_yesT ⟨rfl, rfl, rfl, fun _ => ?_⟩⟩
    exact w_cb (w_cons (w_var (hi _) (w_nil (r_strI (log_small (by omega) (by omega)) ⟨rfl, rfl, rfl⟩))))
  · rw [map_fStr]
    exact h D hD
end
theorem natV_empty (xs : List Nat) : (natV xs).isEmpty = xs.isEmpty := by cases xs <;> rfl
def inD (t : List Bool) (i : Int) : Bool := ix t (i % ((t.length : Nat) : Int)).toNat
theorem inV_nat (x : Nat) : ∀ ws : List Nat, inV (.int (x : Int)) (natV ws) = decide (x ∈ ws)
  | [] => rfl
  | w :: ws => by
    have ih := inV_nat x ws
    unfold inV natV at ih ⊢
    rw [List.map_cons, List.any_cons, ih]
    show ((w : Int) == (x : Int) || decide (x ∈ ws)) = _
    by_cases e : w = x
    · subst e
      simp
    · have e2 : ¬ x = w := fun z => e z.symm
      rw [beq_eq_false_iff_ne.2 (show ¬ (w : Int) = (x : Int) by omega), Bool.false_or]
      exact decide_eq_decide.2 ⟨fun h => .tail _ h, fun h => (List.mem_cons.1 h).resolve_left e2⟩
theorem flat_nats (ws : List Nat) : (natV ws).all flatV = true := by
  unfold natV
  rw [List.all_map]
  exact List.all_eq_true.2 fun _ _ => rfl
def bPer (C : Addr) : List V → Hp → AK → AXK → Prop := fun vs kn Q _ => ∃ a t, vs = [.ref a] ∧ DayAt C kn a t ∧ Q (.int t.length) kn
theorem mo_per {C : Addr} : MonoX (bPer C) := by
  rintro vs kn Q R E F h1 h2 ⟨a, t, x, y, h⟩
  exact ⟨a, t, x, y, h1 _ _ h⟩
def bHas (K : PySem.W.Frag) (C : Addr) : List V → Hp → AK → AXK → Prop := fun vs kn Q _ => ∃ a x t, vs = [.ref a, x] ∧ DayAt C kn a t ∧ ((∃ i, x = .int i ∧ Q (.bl (inD t i)) kn) ∨ (Odd K kn x ∧ Q (.bl false) kn))
theorem mo_has {K : PySem.W.Frag} {C : Addr} : MonoX (bHas K C) := by
  rintro vs kn Q R E F h1 h2 ⟨a, x, t, e, y, ⟨i, z, h⟩ | ⟨z, h⟩⟩
  · exact ⟨a, x, t, e, y, .inl ⟨i, z, h1 _ _ h⟩⟩
  · exact ⟨a, x, t, e, y, .inr ⟨z, h1 _ _ h⟩⟩
section
variable {P : Program} {w : World} {K : PySem.W.Frag} {mg : Str → Option Value} {base : Heap}
theorem ok_Days___eq__ (T : Tx K mg) : FnOk P w K mg base CX0 1 T.f_Days___eq__ T.d_Days___eq__ ["self", "other"] (liftX (bEq K T.c_Days)) := by
  refine T.F_Days___eq__.ok sc_Days___eq__ (fun vs H Q E h => ?_) (fun cdv A outer s H vs Q E hr h => ?_)
  · obtain ⟨kn, _, _, a, y, t, rfl, _⟩ := h
    rfl
  · obtain ⟨kn, ex, nt, a, y, t, rfl, ⟨⟨dx, q, z1, z2⟩, F1⟩, h⟩ := h
    refine ⟨_, (pss_one (ps_ret (pe_and (pe_callB call_isi (by rfl) T.b_isinstance (by decide +kernel) (pa_cons (pv 1) (pa_cons (pe_glob (v := .ref T.c_Days) (by rfl) T.g_Days rfl) pa_nil))) (pe_and (pe_cmpR op_eq (pe_fld (pv 0) rfl) (pe_fld (pv 1) rfl) (nomark _)) (pe_one (pe_cmpR (op_eqD hr.units) (pe_fld (pv 0) rfl) (pe_fld (pv 1) rfl) (nomark _))))))), ?_⟩
    refine body_of (pure_start ex nt) ?_
    have cL := T.cl_Days
    walk_at "wi"
    rcases h with ⟨b, t', rfl, ⟨⟨dx', q', y1, y2⟩, F2⟩, h⟩ | ⟨ty, hy, kt, h⟩
    · refine r_isi (.own _) (T.own_Days.ty y1) T.kit_Days ?_
      walk_at "wi"
      refine w_fld (w_var rfl ⟨_, _, _, _, _, rfl, z1, cL, T.na_Days__period, rfl, ?_⟩)
      refine w_fld (w_var rfl ⟨_, _, _, _, _, rfl, y1, cL, T.na_Days__period, rfl, ?_⟩)
      walk_at "wi"
      rw [int_eq]
      refine ⟨fun hb => ?_, fun hb => ?_⟩
      · have hb : t.length = t'.length := by have := of_decide_eq_true hb; omega
        walk_at "wi"
        refine w_fld (w_var rfl ⟨_, _, _, _, _, rfl, z1, cL, T.na_Days__rests, rfl, ?_⟩)
        refine w_fld (w_var rfl ⟨_, _, _, _, _, rfl, y1, cL, T.na_Days__rests, rfl, ?_⟩)
        walk_at "wi"
        refine r_eq_d (.tup (sqt z2) (dp_nats _)) (.tup (sqt y2) (dp_nats _)) (shaped_natT _) (shaped_natT _) ?_
        rw [eqv_natT]
        have e : decide (idx t = idx t') = decide (t = t') := decide_eq_decide.2 ⟨fun e => idx_inj hb e, fun e => by rw [e]⟩
        rw [e]
        exact h 0
      · have hb : ¬ t.length = t'.length := by have := of_decide_eq_false hb; omega
        have e : decide (t = t') = false := decide_eq_false fun z => hb (by rw [z])
        rw [e] at h
        exact h 0
    · refine r_isi (.own _) hy kt ?_
      walk_at "wi"
      exact h 0
theorem ok_Days___str__ (T : Tx K mg) : FnOk P w K mg base CX0 2 T.f_Days___str__ T.d_Days___str__ ["self"] (liftX (bStr T.c_Days)) := by
  refine T.F_Days___str__.ok sc_Days___str__ (fun vs H Q E h => ?_) (fun cdv A outer s H vs Q E hr h => ?_)
  · obtain ⟨kn, _, _, a, t, rfl, _⟩ := h
    rfl
  · obtain ⟨kn, ex, nt, a, t, rfl, ⟨⟨dx, q, z1, z2⟩, F⟩, h⟩ := h
    refine ⟨_, (pss_cons (ps_if (pt_not (pt_truthQ (pe_fld (pv 0) rfl) (by intro _; rfl)))
       (pss_one (ps_ret pe_str))
       pss_nil)
       (pss_cons (ps_if (pt_cmpR op_eq (pe_fld (pv 0) rfl) pe_int (nomark _))
       (pss_one (ps_ret pe_str))
       pss_nil)
       (pss_cons (ps_setLc (i := 1) (own := [("n", 2)]) (g := gName 2) (by rfl) sc_Days___str__.nd rfl rfl (sw_true rfl rfl rfl (by decide +kernel)) (pi_tup (pe_fld (pv 0) rfl)) (blkOk_by (own := [("n", 2)]) (N := ["self", "rests", "n"]) (sc := defScope s_Days___str__) (by decide +kernel)) (fun _ _ _ _ _ => pg_name (i := 2) sc_Days___str__.nd rfl (Or.inl rfl)) (fun _ _ _ _ _ => pts_nil) (fun _ _ _ _ _ => (pe_callTy c_strI (by rfl) T.b_str (by decide +kernel) (pa_cons (pv 2) pa_nil))))
       (pss_one (ps_ret (pe_joinQ pe_str (pe_lst (pa_cons pe_str (pa_cons (pe_callTy c_strI (by rfl) T.b_str (by decide +kernel) (pa_cons (pe_fld (pv 0) rfl) pa_nil)) (pa_cons pe_str (StX.pa_star (pv 1) pa_nil))))))))))), ?_⟩
    refine body_of (pure_start ex nt) ?_
    have cL := T.cl_Days
    have i1 := idx_len t
    have fl := F.le
    refine s_seq (s_if (w_not (w_tru (w_fld (w_var rfl ⟨_, _, _, _, _, rfl, z1, cL, T.na_Days__rests, rfl, q, _, rfl, .inr z2, fun hb => ?_, fun hb => ?_⟩)))))
    · have he : idx t = [] := by
        cases z : idx t with
        | nil => rfl
        | cons x r => rw [z] at hb; cases hb
      walk_at "wi"
      have := h kn ext_rf 0
      unfold dT at this
      rw [if_pos he, ← none_eq] at this
      exact this
    · have hne : idx t ≠ [] := fun z => by rw [z] at hb; cases hb
      refine s_next ?_
      walk_at "wi"
      refine w_fld (w_var rfl ⟨_, _, _, _, _, rfl, z1, cL, T.na_Days__period, rfl, ?_⟩)
      walk_at "wi"
      rw [int_eq]
      refine ⟨fun hb => ?_, fun hb => ?_⟩
      · have hb : t.length = 1 := by have := of_decide_eq_true hb; omega
        walk_at "wi"
        have := h kn ext_rf 0
        unfold dT at this
        rw [if_neg hne, if_pos hb, ← every_eq] at this
        exact this
      · have hb : ¬ t.length = 1 := by have := of_decide_eq_false hb; omega
        obtain ⟨wl, wm⟩ := dW_len F
        walk_at "wi"
        refine w_strs (q := q) (fun R hR => w_fld (w_var rfl ⟨_, _, _, _, _, rfl, z1, cL, T.na_Days__rests, rfl, hR⟩)) z2 (by omega) (fun m hm => by have := (mem_idx.1 hm).1; omega) (fun _ => rfl) (fun _ => rfl) fun D hD => ?_
        have e1 : Ext kn (upd kn D (.lst (strV ((idx t).map nS)))) := ext_new hD
        have D1 : (upd kn D (.lst (strV ((idx t).map nS)))) D = some (.lst (strV ((idx t).map nS))) := upd_same
        generalize upd kn D (.lst (strV ((idx t).map nS))) = k1 at e1 D1 ⊢
        walk_at "w"
        refine w_m1 ?_
        walk_at "w"
        refine ⟨⟨_, rfl⟩, ?_⟩
        walk_at "w"
        refine w_fld (w_var rfl ⟨_, _, _, _, _, rfl, e1 _ _ z1, cL, T.na_Days__period, rfl, ?_⟩)
        walk_at "w"
        refine r_strI (log_small (by omega) (by omega)) ?_
        walk_at "w"
        refine w_star (w_var rfl ⟨D, _, rfl, .inl D1, w_nil ?_⟩)
        have we : V.str (Str.ofString "by") :: V.str (Str.ofString (toString ((t.length : Nat) : Int))) :: V.str (Str.ofString "at") :: (strV ((idx t).map nS) ++ []) = strV (dW t) := by
          unfold dW strV
          rw [List.append_nil, by_eq, at_eq]
          rfl
        rw [we]
        refine ⟨by rw [List.length_map]; omega, fun Dw hDw => ?_⟩
        refine r_joinQ upd_same ?_ ?_
        · have := sum_le (f := fun x : Str => x.length) (m := 14) (l := dW t) wm
          have hs : (Str.ofString " ").length = 1 := by decide +kernel
          rw [hs]
          omega
        · have := h _ (ext_tr e1 (ext_new (o := .lst (strV (dW t))) hDw)) 0
          unfold dT at this
          rw [if_neg hne, if_neg hb, ← sp_eq] at this
          exact this
theorem ok_Days_period (T : Tx K mg) : FnOk P w K mg base CX0 1 T.f_Days_period T.d_Days_period ["self"] (liftX (bPer T.c_Days)) := by
  refine T.F_Days_period.ok sc_Days_period (fun vs H Q E h => ?_) (fun cdv A outer s H vs Q E hr h => ?_)
  · obtain ⟨kn, _, _, a, t, rfl, _⟩ := h
    rfl
  · obtain ⟨kn, ex, nt, a, t, rfl, ⟨⟨dx, q, z1, z2⟩, F⟩, h⟩ := h
    refine ⟨_, (pss_one (ps_ret (pe_fld (pv 0) rfl))), ?_⟩
    refine body_of (pure_start ex nt) ?_
    walk_at "wi"
    refine w_fld (w_var rfl ⟨_, _, _, _, _, rfl, z1, T.cl_Days, T.na_Days__period, rfl, ?_⟩)
    exact h 0
theorem ok_Days___contains__ (T : Tx K mg) : FnOk P w K mg base CX0 2 T.f_Days___contains__ T.d_Days___contains__ ["self", "x"] (liftX (bHas K T.c_Days)) := by
  refine T.F_Days___contains__.ok sc_Days___contains__ (fun vs H Q E h => ?_) (fun cdv A outer s H vs Q E hr h => ?_)
  · obtain ⟨kn, _, _, a, x, t, rfl, _⟩ := h
    rfl
  · obtain ⟨kn, ex, nt, a, x, t, rfl, ⟨⟨dx, q, z1, z2⟩, F⟩, h⟩ := h
    refine ⟨_, (pss_one (ps_ret (pe_and (pe_call (ok_is_whole T) (hr.mono (by decide)) (by rfl) T.g_is_whole T.F_is_whole.kp T.bd_is_whole .nil pass0 (pa_cons (pv 1) pa_nil)) (pe_one (pe_cmpR (show OpR _ _ (rInQ K false) from c_inQ) (pe_op op_mod (pv 1) (pe_fld (pv 0) rfl)) (pe_fld (pv 0) rfl) (by rfl)))))), ?_⟩
    refine body_of (pure_start ex nt) ?_
    have cL := T.cl_Days
    have tp := F.pos
    walk_at "wi"
    refine w_call mo_whole err_no ?_
    walk_at "w"
    refine ⟨_, rfl, ?_⟩
    rcases h with ⟨i, rfl, h⟩ | ⟨od, h⟩
    · refine .inl ⟨i, rfl, ?_⟩
      walk_at "wi"
      refine w_fld (w_var rfl ⟨_, _, _, _, _, rfl, z1, cL, T.na_Days__period, rfl, ?_⟩)
      refine r_I (by omega) ?_
      walk_at "wi"
      refine w_fld (w_var rfl ⟨_, _, _, _, _, rfl, z1, cL, T.na_Days__rests, rfl, ?_⟩)
      obtain ⟨m, hm⟩ : ∃ m : Nat, i % ((t.length : Nat) : Int) = m := ⟨(i % ((t.length : Nat) : Int)).toNat, by have := Int.emod_nonneg i (show ((t.length : Nat) : Int) ≠ 0 by omega); omega⟩
      have hm2 : m < t.length := by have := Int.emod_lt_of_pos i (show (0 : Int) < ((t.length : Nat) : Int) by omega); omega
      unfold inD at h
      rw [hm] at h ⊢
      rw [Int.toNat_natCast] at h
      refine r_inQ (.inr z2) rfl (flat_nats _) ?_
      rw [inV_nat]
      have e : decide (m ∈ idx t) = ix t m := by
        rw [Bool.eq_iff_iff, decide_eq_true_eq, mem_idx]
        exact ⟨fun z => z.2, fun z => ⟨hm2, z⟩⟩
      rw [if_neg Bool.false_ne_true, e]
      exact h 0
    · refine .inr ⟨od, ?_⟩
      walk_at "wi"
      exact h 0
end

end NN

namespace NN
open PySem PySem.Spec PyProof.Rows L2 LamX AW ClX
open Tx1 Ln
theorem natV_inj {a b : List Nat} (h : natV a = natV b) : a = b := (List.map_inj_right (f := fun (n : Nat) => V.int n) (fun x y e => by have := V.int.inj e; omega)).1 h
theorem make_good {K : PySem.W.Frag} {C B : Addr} {vr : V} {kn1 : Hp} {Q : AK} {E : AXK} {p : Nat} {ys : List Nat} (h1 : 1 ≤ p) (h2 : p ≤ 7) (hy : ∀ y ∈ ys, y < p) (hl : ys.length ≤ 1000) (sv : SeqV K kn1 vr (natV ys)) (h : NewD C kn1 (formT p ys) Q) : MakeD K C B (.int p) vr kn1 Q E := by
  refine ⟨some (natV ys), ⟨sv, by rw [List.length_map]; exact hl, fun x hx => ?_⟩, .inl ⟨_, rfl⟩, fun p' ys' gp => ?_, fun part nb => ?_⟩
  · obtain ⟨m, _, rfl⟩ := List.mem_map.1 hx
    exact .inl ⟨_, rfl⟩
  · obtain ⟨e1, _, _, e2, _⟩ := gp
    have e1 := V.int.inj e1
    obtain rfl : p = p' := by omega
    obtain rfl := natV_inj (Option.some.inj e2)
    exact h
  · exfalso
    rcases nb with ⟨_, no⟩ | ⟨_, p', e1, _, _, no⟩
    · exact no ⟨p, rfl, h1, h2⟩
    · have e1 := V.int.inj e1
      obtain rfl : p = p' := by omega
      exact no ⟨ys, rfl, hy⟩
theorem make_bad {K : PySem.W.Frag} {C B : Addr} {vp vr : V} {o : Option (List V)} {kn1 : Hp} {Q : AK} {E : AXK} {part : Str} (sv : RestsV K kn1 vr o) (np : AnyN K kn1 vp) (nb : BadP vp o part) (h : BadE B kn1 "part" (.str part) E) : MakeD K C B vp vr kn1 Q E := by
  refine ⟨o, sv, np, fun p ys gp => ?_, fun part' nb' => ?_⟩
  · obtain ⟨e1, p1, p2, e2, hy⟩ := gp
    exfalso
    rcases nb with ⟨_, no⟩ | ⟨_, p', e3, _, _, no⟩
    · exact no ⟨p, e1, p1, p2⟩
    · rw [e1] at e3
      have e3 := V.int.inj e3
      obtain rfl : p = p' := by omega
      exact no ⟨ys, e2, hy⟩
  · have e : part' = part := by
      rcases nb with ⟨rfl, no⟩ | ⟨rfl, p, e1, p1, p2, no⟩
      · rcases nb' with ⟨rfl, no'⟩ | ⟨rfl, p', e1', p1', p2', no'⟩
        · rfl
        · exact absurd ⟨p', e1', p1', p2'⟩ no
      · rcases nb' with ⟨rfl, no'⟩ | ⟨rfl, p', e1', p1', p2', no'⟩
        · exact absurd ⟨p, e1, p1, p2⟩ no'
        · rfl
    rw [e]
    exact h
theorem MakeD.mono {K : PySem.W.Frag} {C B : Addr} {vp vr : V} {kn1 : Hp} {Q R : AK} {E F : AXK} (h1 : ∀ v k, Q v k → R v k) (h2 : ∀ cls d k, E cls d k → F cls d k) (h : MakeD K C B vp vr kn1 Q E) : MakeD K C B vp vr kn1 R F := by
  obtain ⟨o, a, b, c, d⟩ := h
  exact ⟨o, a, b, fun p ys g x k e n l => h1 _ _ (c p ys g x k e n l), fun part nb x k e n u => h2 _ _ _ (d part nb x k e n u)⟩
def bOn (K : PySem.W.Frag) (C B : Addr) : List V → Hp → AK → AXK → Prop := fun vs kn Q E => ∃ vp vr, vs = [vp, vr] ∧ MakeD K C B vp vr kn Q E
theorem mo_on {K : PySem.W.Frag} {C B : Addr} : MonoX (bOn K C B) := by
  rintro vs kn Q R E F h1 h2 ⟨vp, vr, e, h⟩
  exact ⟨vp, vr, e, h.mono h1 h2⟩
def bNew (C : Addr) (t : List Bool) : List V → Hp → AK → AXK → Prop := fun vs kn Q _ => vs = [] ∧ NewD C kn t Q
theorem mo_new {C : Addr} {t : List Bool} : MonoX (bNew C t) := by
  rintro vs kn Q R E F h1 h2 ⟨a, h⟩
  exact ⟨a, fun x k z1 z2 z3 => h1 _ _ (h x k z1 z2 z3)⟩
theorem form_F : formT 1 [] = [false] := by decide +kernel
section
variable {P : Program} {w : World} {K : PySem.W.Frag} {mg : Str → Option Value} {base : Heap}
theorem ok_Days_none (T : Tx K mg) : FnOk P w K mg base CX0 7 T.f_Days_none T.d_Days_none [] (liftX (bNew T.c_Days [false])) := by
  refine T.F_Days_none.ok sc_Days_none (fun vs H Q E h => ?_) (fun cdv A outer s H vs Q E hr h => ?_)
  · obtain ⟨kn, _, _, rfl, _⟩ := h
    rfl
  · obtain ⟨kn, ex, nt, rfl, h⟩ := h
    refine ⟨_, (pss_one (ps_ret (pe_make T.mk_Days (ok_Days___init__ T) (hr.mono (by decide)) (by rfl) T.g_Days T.bd_Days___init__ .nil passL (pa_cons pe_int (pa_cons (pe_tup pa_nil) pa_nil))))), ?_⟩
    refine body_of (pure_start ex nt) ?_
    walk_at "wi"
    refine w_days (B := T.c_BadDays) (EA := fun _ _ _ _ => False) err_no ?_
    walk_at "w"
    refine ⟨show 0 ≤ 1000 by decide, fun t2 h2 => ?_⟩
    walk_at "w"
    refine ⟨_, _, rfl, make_good (p := 1) (ys := []) (by decide) (by decide) (by decide) (by decide) ⟨t2, rfl, .inr (.inl upd_same)⟩ fun x k e n l => ?_⟩
    rw [form_F] at l
    exact h x k (ext_tr (ext_new h2) e) (free_ext (ext_new h2) n) l 0
theorem oR_Days_none (T : Tx K mg) : FnR P w K mg base CX0 7 T.f_Days_none (liftX (bNew T.c_Days [false])) :=
  ((ok_Days_none T).raw T.bd_Days_none .nil).imp fun vs H Q E h => by rw [List.append_nil]; exact h
theorem oR_Days_on (T : Tx K mg) : FnR P w K mg base (L2.CX P w) 8 T.f_Days_on (spStar 1 (bOn K T.c_Days T.c_BadDays)) := by
  obtain ⟨oc, od, kV, doc, pm, an, cdv, ct, osl, hfd, lk, hcd⟩ := T.F_Days_on.ex
  rw [hfd] at lk
  refine StX.fn_star (ps := ["period"]) (pv := "rests") lk hcd sc_Days_on StX.cxUp (fun us rest hl => ?_) (fun A outer s H vs Q E hr h => ?_)
  · match us, hl with
    | [u], _ =>
      cases rest with
      | nil => rfl
      | cons r rs => rfl
  · obtain ⟨kn, ex, nt, vp, vr, rfl, h⟩ := h
    refine ⟨_, (pss_one (ps_ret (pe_make T.mk_Days (ok_Days___init__ T) (hr.mono (by decide)) (by rfl) T.g_Days T.bd_Days___init__ .nil (passes_call (takes_of rfl rfl rfl rfl) (fun _ _ _ _ h => h)) (pa_cons (pv 0) (pa_cons (pv 1) pa_nil))))), ?_⟩
    refine body_of (pure_start ex nt) ?_
    walk_at "wi"
    refine w_days (EA := bodyX _ E) err_body ?_
    walk_at "w"
    exact ⟨_, _, rfl, h.mono (fun v k hq => hq 0) (fun cls d k he => he 0)⟩
end

end NN

namespace NN
open PySem PySem.Spec PyProof.Rows L2 LamX AW ClX
open Tx1 Ln
section
variable {P : Program} {w : World} {K : PySem.W.Frag} {mg : Str → Option Value} {base : Heap}
theorem ok__law_draw (T : Tx K mg) : FnOk P w K mg base CX0 1 T.f__law_draw T.d__law_draw ["pen", "many"] spDraw := by
  refine T.F__law_draw.ok sc__law_draw (fun vs H Q E h => ?_) (fun cdv A outer s H vs Q E hr h => ?_)
  · obtain ⟨p, a, ns, n, many, rfl, _⟩ := h
    rfl
  · obtain ⟨p, a, ns, n, many, rfl, hp, hn, h0, h1, k⟩ := h
    obtain ⟨⟨i, g, hP, hi0, hin, hg0⟩, hA, hpa⟩ := hp
    refine ⟨_, (pss_cons (ps_if (pt_cmpR op_gt (pe_ix (show IxR _ (rIxL K) from ix_list) (pv 0) pe_int (fun _ _ => rfl)) pe_int (nomark _))
       (pss_cons (ps_set (i := 2) sc__law_draw.nd rfl (by first | exact Or.inl rfl | exact Or.inr rfl) (pe_op op_mod (pe_callTy c_int (by rfl) T.b_int boot_int (pa_cons (pe_ix (show IxR _ (rIxL K) from ix_list) (pv 0) pe_int (fun _ _ => rfl)) pa_nil)) (pv 1)))
       (pss_cons (ps_asg (pe_op op_fdivW (pe_callTy c_int (by rfl) T.b_int boot_int (pa_cons (pe_ix (show IxR _ (rIxL K) from ix_list) (pv 0) pe_int (fun _ _ => rfl)) pa_nil)) (pv 1)) (pg_sub (pv 0) pe_int set_list))
       (pss_one (ps_ret (pv 2)))))
       pss_nil)
       (pss_cons (ps_set (i := 3) sc__law_draw.nd rfl (by first | exact Or.inl rfl | exact Or.inr rfl) (pe_ix (show IxR _ (rIxL K) from ix_list) (pv 0) pe_int (fun _ _ => rfl)))
       (pss_cons (ps_asg (pe_op op_add (pv 3) pe_int) (pg_sub (pv 0) pe_int set_list))
       (pss_cons (ps_set (i := 4) sc__law_draw.nd rfl (by first | exact Or.inl rfl | exact Or.inr rfl) (pe_op op_add (pe_op op_mul pe_int (pv 3)) pe_int))
       (pss_cons (ps_if (pt_cmpR (op_neD hr.units) (pe_ix (show IxR _ (rIxL K) from ix_list) (pv 0) pe_int (fun _ _ => rfl)) (pe_lst pa_nil) (nomark _))
       (pss_one (ps_set (i := 4) sc__law_draw.nd rfl (by first | exact Or.inl rfl | exact Or.inr rfl) (pe_ix (show IxR _ (rIxL K) from ix_list) (pe_ix (show IxR _ (rIxL K) from ix_list) (pv 0) pe_int (fun _ _ => rfl)) (pe_op op_mod (pe_callTy c_int (by rfl) T.b_int boot_int (pa_cons (pv 3) pa_nil)) (pe_callB c_len (by rfl) T.b_len PySem.boot_len (pa_cons (pe_ix (show IxR _ (rIxL K) from ix_list) (pv 0) pe_int (fun _ _ => rfl)) pa_nil))) (fun _ _ => rfl))))
       pss_nil)
       (pss_cons (ps_if (PW.pt (pw_and (pt_cmpR op_lt (pv 3) (pe_callB c_len (by rfl) T.b_len PySem.boot_len (pa_cons (pe_ix (show IxR _ (rIxL K) from ix_list) (pv 0) pe_int (fun _ _ => rfl)) pa_nil)) (nomark _)) (pw_and1 (pt_cmpR op_ge (pe_callB c_abs (by rfl) T.b_abs (by decide +kernel) (pa_cons (pv 4) pa_nil)) (pe_op op_pow pe_int pe_int) (nomark _)))))
       (pss_cons (ps_set (i := 5) sc__law_draw.nd rfl (by first | exact Or.inl rfl | exact Or.inr rfl) (pe_op op_add (pe_op op_mul pe_int (pe_op op_sub (pe_callB c_abs (by rfl) T.b_abs (by decide +kernel) (pa_cons (pv 4) pa_nil)) (pe_op op_pow pe_int pe_int))) (pe_callTy c_int (by rfl) T.b_int boot_int (pa_cons (pe_cmpR op_lt (pv 4) pe_int (nomark _)) pa_nil))))
       (pss_cons (ps_asg (pe_op op_fdivW (pe_callTy c_int (by rfl) T.b_int boot_int (pa_cons (pv 5) pa_nil)) (pv 1)) (pg_sub (pv 0) pe_int set_list))
       (pss_one (ps_ret (pe_op op_mod (pe_callTy c_int (by rfl) T.b_int boot_int (pa_cons (pv 5) pa_nil)) (pv 1))))))
       pss_nil)
       (pss_cons (ps_set (i := 6) sc__law_draw.nd rfl (by first | exact Or.inl rfl | exact Or.inr rfl) (pe_op op_mod (pe_callTy c_int (by rfl) T.b_int boot_int (pa_cons (pe_op op_pow (pe_op op_add (pe_op op_add (pe_op op_mod (pe_callTy c_int (by rfl) T.b_int boot_int (pa_cons (pv 4) pa_nil)) pe_int) (pe_op op_mul pe_int (pv 3))) pe_int) pe_int) pa_nil)) pe_int))
       (pss_cons (ps_set (i := 6) sc__law_draw.nd rfl (by first | exact Or.inl rfl | exact Or.inr rfl) (pe_op op_mod (pe_callTy c_int (by rfl) T.b_int boot_int (pa_cons (pe_op op_pow (pe_op op_add (pe_op op_add (pe_op op_mul (pv 6) (pe_op op_add (pe_op op_mul pe_int (pv 3)) pe_int)) (pe_op op_mul (pe_op op_mul pe_int (pv 3)) (pv 3))) pe_int) pe_int) pa_nil)) pe_int))
       (pss_one (ps_ret (pe_op op_mod (pe_callTy c_int (by rfl) T.b_int boot_int (pa_cons (pe_op op_fdivW (pv 6) pe_int) pa_nil)) (pv 1)))))))))))), ?_⟩
    have e : Ext (penKn H p a) H := fun x o h => by
      unfold penKn at h
      split at h
      · exact h
      · cases h
    have kP : penKn H p a p = some (.lst [.ref a, .int i, .int g]) := (if_pos (.inl rfl)).trans hP
    have kA : penKn H p a a = some (.lst (ns.map V.int)) := (if_pos (.inr rfl)).trans hA
    have done : ∀ (k' : Int) (kn' : Hp) (n' : Nat) (i' g' : Int), 0 ≤ k' → k' < many → kn' p = some (.lst [.ref a, .int i', .int g']) → kn' a = some (.lst (ns.map V.int)) → 0 ≤ i' → i' ≤ (n + 1 : Nat) → 0 ≤ g' → ∀ H', Good (pureC (penKn H p a) H) kn' n' H' → Q (.int k') H' := fun k' kn' n' i' g' b1 b2 e1 e2 b3 b4 b5 H' G => by
      refine k k' H' b1 b2 ⟨⟨i', g', G.ex _ _ e1, b3, b4, b5⟩, G.ex _ _ e2, hpa⟩ fun x o hx hH => ?_
      by_cases hxa : x = a
      · rw [hxa, hA] at hH
        cases hH
        rw [hxa]
        exact G.ex _ _ e2
      · exact G.inv x o hH (.inl (if_neg (by simp [hx, hxa])))
    have hlog : many.natAbs.log2 < 9000 := Nat.lt_trans ((Nat.log2_lt (by omega)).mpr (show many.natAbs < 2 ^ 70 by omega)) (by decide)
    refine body_of (pure_start e (fun x o h => by
      unfold penKn at h
      split at h
      · rename_i hh
        rcases hh with rfl | rfl
        · rw [hP] at h; cases h; rfl
        · rw [hA] at h; cases h; rfl
      · cases h)) ?_
    walk_at "w"
    refine s_if ?_
    walk_at "w"
    refine ⟨fun hg => ?_, fun hg => ?_⟩
    · have hg' : 0 < g := of_decide_eq_true hg
      walk_at "w"
      refine r_I h0 ?_
      walk_at "w"
      refine r_I ⟨h0, hlog⟩ ?_
      walk_at "w"
      refine ⟨_, _, _, 2, rfl, rfl, kP, rfl, ?_⟩
      walk_at "w"
      have kA' : ∀ o, upd (penKn H p a) p o a = some (.lst (ns.map V.int)) := fun o => by rw [upd_ne hpa.symm]; exact kA
      exact done _ _ _ i (g / many) (Int.emod_nonneg _ (by omega)) (Int.emod_lt_of_pos _ h0) upd_same (kA' _) hi0 (by omega) (Int.ediv_nonneg hg0 (by omega))
    · walk_at "w"
      refine ⟨_, _, _, 1, rfl, rfl, kP, rfl, ?_⟩
      have kA1 : ∀ o, upd (penKn H p a) p o a = some (.lst (ns.map V.int)) := fun o => by rw [upd_ne hpa.symm]; exact kA
      have kP1 : ∀ o, upd (penKn H p a) p o p = some o := fun o => upd_same
      walk_at "w"
      refine r_I (.inl ⟨by decide, by decide⟩) ?_
      walk_at "w"
      -- if pen[0] != []
      refine s_join (fun σ' kn' n' => ∃ cell : Int, σ' = [some (.ref p), some (.int many), none, some (.int i), some (.int cell), none, none] ∧ kn' p = some (.lst [.ref a, .int (i + 1), .int g]) ∧ kn' a = some (.lst (ns.map V.int))) ?_ ?_
      · have kP1 := kP1 (.lst [.ref a, .int (i + 1), .int g])
        have kA1 := kA1 (.lst [.ref a, .int (i + 1), .int g])
        refine s_if ?_
        walk_at "w"
        refine ⟨by decide, fun l hl => ?_⟩
        refine r_ne_d (.lst (sql (know hl kA1)) (dp_ints ns)) (.lst (sql upd_same) .nil) (shaped_ints ns) rfl ?_
        walk_at "w"
        rw [nil_eqv]
        refine ⟨fun hb => ?_, fun hb => ?_⟩
        · have hne : ns ≠ [] := by
            intro z
            rw [z] at hb
            cases hb
          have hl0 : 0 < ns.length := by
            cases ns with
            | nil => exact absurd rfl hne
            | cons => exact Nat.succ_pos _
          have kA3 := know (o := .lst []) hl kA1
          have kP3 := know (o := .lst []) hl kP1
          walk_at "w"
          refine r_I (by rw [List.length_map]; omega) ?_
          obtain ⟨z, hz⟩ := at_mod ns i hl0
          refine r_ixL kA3 hz ?_
          walk_at "w"
          exact ⟨kP3, kA3⟩
        · walk_at "w"
          exact ⟨know hl kP1, know hl kA1⟩
      · rintro σ' kn' n' ⟨cell, rfl, kP2, kA2⟩
        have mod1 : ∀ x : Int, 0 ≤ x % many ∧ x % many < many := fun x => ⟨Int.emod_nonneg _ (by omega), Int.emod_lt_of_pos _ h0⟩
        walk_at "w"
        refine s_join (fun σ2 kn2 n2 => σ2 = [some (.ref p), some (.int many), none, some (.int i), some (.int cell), none, none] ∧ kn2 p = some (.lst [.ref a, .int (i + 1), .int g]) ∧ kn2 a = some (.lst (ns.map V.int))) ?_ ?_
        · refine s_if ?_
          walk_at "w"
          refine ⟨fun hb => ?_, fun hb => ?_⟩
          · walk_at "w"
            refine r_I ⟨by decide, by decide, by decide⟩ ?_
            walk_at "w"
            refine ⟨fun hb2 => ?_, fun hb2 => ?_⟩
            · have hc : (10 : Int) ^ (18 : Int).toNat ≤ if cell < 0 then -cell else cell := of_decide_eq_true hb2
              walk_at "w"
              refine r_I ⟨by decide, by decide, by decide⟩ ?_
              walk_at "w"
              refine r_I (.inl ⟨by decide, by decide⟩) ?_
              walk_at "w"
              refine r_I ⟨h0, hlog⟩ ?_
              walk_at "w"
              refine ⟨_, _, _, 2, rfl, rfl, kP2, rfl, ?_⟩
              walk_at "w"
              refine r_I h0 ?_
              refine done _ _ _ (i + 1) _ (mod1 _).1 (mod1 _).2 upd_same (by rw [upd_ne hpa.symm]; exact kA2) (by omega) (by omega) (Int.ediv_nonneg ?_ (by omega))
              split <;> omega
            · walk_at "w"
              exact ⟨rfl, kP2, kA2⟩
          · walk_at "w"
            exact ⟨rfl, kP2, kA2⟩
        · rintro σ2 kn2 n2 ⟨rfl, kP3, kA3⟩
          walk_at "w"
          refine r_I (by decide) ?_
          obtain ⟨x, hx⟩ : ∃ x : Int, x = cell % 2147483549 := ⟨_, rfl⟩
          have x0 : 0 ≤ x := hx ▸ Int.emod_nonneg _ (by decide)
          have x1 : x < 2147483549 := hx ▸ Int.emod_lt_of_pos _ (by decide)
          rw [← hx]
          walk_at "w"
          refine r_I (.inl ⟨by decide, by decide⟩) ?_
          walk_at "w"
          refine r_I ⟨by decide, by decide, by omega⟩ ?_
          walk_at "w"
          refine r_I (by decide) ?_
          generalize ((x + 49031 * i + 853) ^ (5 : Int).toNat) = y
          obtain ⟨z, hz⟩ : ∃ z : Int, z = y % 2147483629 := ⟨_, rfl⟩
          have z0 : 0 ≤ z := hz ▸ Int.emod_nonneg _ (by decide)
          have z1 : z < 2147483629 := hz ▸ Int.emod_lt_of_pos _ (by decide)
          rw [← hz]
          walk_at "w"
          refine r_I (.inl ⟨by decide, by decide⟩) ?_
          walk_at "w"
          refine r_I (.inl ⟨by omega, by omega⟩) ?_
          walk_at "w"
          refine r_I (.inl ⟨by decide, by decide⟩) ?_
          walk_at "w"
          refine r_I (.inl ⟨by omega, by omega⟩) ?_
          walk_at "w"
          obtain ⟨m1, m2⟩ := mul_bd z0 (show z ≤ 2147483629 by omega) (show 0 ≤ 2 * i + 307 by omega) (show 2 * i + 307 ≤ 2000307 by omega)
          obtain ⟨m3, m4⟩ := mul_bd (show 0 ≤ 57947 * i by omega) (show 57947 * i ≤ 57947000000 by omega) hi0 (show i ≤ 1000000 by omega)
          refine r_I ⟨by decide, by decide, by omega⟩ ?_
          walk_at "w"
          refine r_I (by decide) ?_
          walk_at "w"
          refine r_I ⟨by decide, by decide⟩ ?_
          walk_at "w"
          refine r_I h0 ?_
          exact done _ _ _ (i + 1) g (mod1 _).1 (mod1 _).2 kP3 kA3 (by omega) (by omega) hg0

/-- _law_pick -/
def bPick : List V → Hp → AK → AXK → Prop := fun vs kn Q _ => ∃ l xs, vs = [.ref l] ∧ kn l = some (.lst xs) ∧ 0 < xs.length ∧ xs.length ≤ 1000 ∧ ∀ v ∈ xs, Q v kn
theorem mo_pick : MonoX bPick := by
  rintro vs kn Q R E F h1 h2 ⟨l, xs, a, b, c, d, h⟩
  exact ⟨l, xs, a, b, c, d, fun v hv => h1 _ _ (h v hv)⟩
theorem ok__law_pick (T : Tx K mg) (TT : List (Addr × Str)) : FnOk P w K mg base CX0 2 T.f__law_pick T.d__law_pick ["pen", "some"] (liftP TT 1 bPick) := by
  refine T.F__law_pick.ok sc__law_pick (fun vs H Q E h => ?_) (fun cdv A outer s H vs Q E hr h => ?_)
  · obtain ⟨p, a, ns, n, kn, ws, rfl, _, _, l, xs, rfl, _⟩ := h
    rfl
  · obtain ⟨p, a, ns, n, kn, ws, rfl, g, hn, l, xs, rfl, hl, l1, l2, h⟩ := h
    refine ⟨_, (pss_one (ps_ret (pe_ix (show IxR _ (rIxL K) from ix_list) (pv 1) (pe_call (ok__law_draw T) (hr.mono (by decide)) (by rfl) T.g__law_draw T.F__law_draw.kp T.bd__law_draw .nil pass0 (pa_cons (pv 0) (pa_cons (pe_callB c_len (by rfl) T.b_len PySem.boot_len (pa_cons (pv 1) pa_nil)) pa_nil))) (fun _ _ => rfl)))), ?_⟩
    refine body_of g ?_
    walk_at "w"
    refine w_draw ?_
    walk_at "w"
    refine ⟨by omega, by omega, by omega, fun k k0 k1 => ?_⟩
    obtain ⟨j, hj⟩ : ∃ j : Nat, k = j := ⟨k.toNat, by omega⟩
    subst hj
    have hj : j < xs.length := by omega
    refine r_ixL hl (atI_nat (List.getElem?_eq_getElem hj)) ?_
    exact h _ (List.getElem_mem hj)
/-- _law_pen -/
def spPen (K : PySem.W.Frag) : Sp := fun vs H Q _ => ∃ (s : Addr) (ns : List Int), vs = [.ref s] ∧ SqL K H s (ns.map V.int) ∧
  ∀ (p a : Addr) (ns' : List Int) (H' : Hp), p ≠ a → H p = none → H a = none → H' p = some (.lst [.ref a, .int 0, .int 0]) → H' a = some (.lst (ns'.map V.int)) → Ext H H' → Q (.ref p) H'
theorem cut_map (ns : List Int) (lo hi : Option Int) : ∃ ns' : List Int, cutV (ns.map V.int) lo hi = ns'.map V.int := by
  unfold cutV
  exact ⟨(ns.drop _).take _, by rw [List.map_take, List.map_drop]⟩
theorem ok__law_pen (T : Tx K mg) : FnOk P w K mg base CX0 1 T.f__law_pen T.d__law_pen ["script"] (spPen K) := by
  refine T.F__law_pen.ok sc__law_pen (fun vs H Q E h => ?_) (fun cdv A outer s H vs Q E hr h => ?_)
  · obtain ⟨s, ns, rfl, _⟩ := h
    rfl
  · obtain ⟨sc, ns, rfl, hs, h⟩ := h
    refine ⟨_, (pss_one (ps_ret (pe_lst (pa_cons (pe_callTy c_list (by rfl) T.b_list (by decide +kernel) (pa_cons (pe_slice (show SlR _ (rSlL K) from sl_list) (pv 0) po_none (po_some pe_int)) pa_nil)) (pa_cons pe_int (pa_cons pe_int pa_nil)))))), ?_⟩
    obtain ⟨ns', e⟩ := cut_map ns none (some 63)
    refine ⟨_, rfl, _, rfl, sc, _, rfl, hs, fun l hl => ⟨l, _, rfl, .inl (sql upd_same), fun a ha => ⟨(by rw [sizeLine_eq]; exact (show 3 ≤ 16777216 by decide)), fun p hp => ?_⟩⟩⟩
    have la : l ≠ a := fun z => by rw [z, upd_same] at ha; cases ha
    have ha0 : H a = none := by rw [upd_ne (Ne.symm la)] at ha; exact ha
    have pa : p ≠ a := fun z => by rw [z, upd_same] at hp; cases hp
    have pl : p ≠ l := fun z => by rw [z, upd_ne la, upd_same] at hp; cases hp
    have hp0 : H p = none := by rw [upd_ne pa, upd_ne pl] at hp; exact hp
    refine h p a ns' _ pa hp0 ha0 upd_same ?_ ?_
    · rw [upd_ne (Ne.symm pa), upd_same, e]
    · exact fun x o hx => by rw [upd_ne (ne_of_none hx hp0), upd_ne (ne_of_none hx ha0), upd_ne (ne_of_none hx hl)]; exact hx
end

end NN

namespace NN
open PySem PySem.Spec PyProof.Rows L2 LamX AW ClX
open Tx1 Ln
theorem nf_self {K : PySem.W.Frag} {C : Addr} : PySem.W.notFirst K C (.ref C) = true := by
  unfold PySem.W.notFirst
  simp
/-! ### the same days -/
theorem inD_form {s : Nat} {ys : List Nat} (h1 : 1 ≤ s) (x : Int) : inD (formT s ys) x = decide ((x % (s : Int)).toNat ∈ ys) := by
  have ml := mask_len s ys
  obtain ⟨pd, pp⟩ := leastP_per (t := maskOf s ys) (by omega)
  have ple := leastP_le (maskOf s ys)
  have ppos := leastP_pos (t := maskOf s ys) (by omega)
  unfold inD
  rw [form_len]
  unfold formT
  rw [ml] at pd ple
  generalize hP : leastP (maskOf s ys) = P at pd pp ple ppos ⊢
  have hx0 := Int.emod_nonneg x (show (P : Int) ≠ 0 by omega)
  have hx1 := Int.emod_lt_of_pos x (show (0 : Int) < P by omega)
  have hs0 := Int.emod_nonneg x (show (s : Int) ≠ 0 by omega)
  have hs1 := Int.emod_lt_of_pos x (show (0 : Int) < s by omega)
  rw [ix_take (by omega), ← ix_mask (show (x % (s : Int)).toNat < s by omega), pp (x % (s : Int)).toNat (by rw [ml]; omega)]
  congr 1
  have e : (x % (s : Int)) % (P : Int) = x % (P : Int) := Int.emod_emod_of_dvd x (Int.natCast_dvd_natCast.2 (Nat.dvd_of_mod_eq_zero pd))
  have e2 : (((x % (s : Int)).toNat % P : Nat) : Int) = x % (P : Int) := by
    rw [Int.natCast_emod, Int.toNat_of_nonneg hs0, e]
  omega
theorem mask_congr {s : Nat} {a b : List Nat} (h : ∀ i, i ∈ a ↔ i ∈ b) : maskOf s a = maskOf s b := by
  unfold maskOf
  apply List.map_congr_left
  intro i _
  exact decide_eq_decide.2 (h i)
theorem form_congr {s : Nat} {a b : List Nat} (h : ∀ i, i ∈ a ↔ i ∈ b) : formT s a = formT s b := by
  unfold formT
  rw [mask_congr h]
theorem inD_per {t : List Bool} (x : Int) (k : Int) : inD t (x + k * (t.length : Int)) = inD t x := by
  unfold inD
  rw [Int.add_mul_emod_self_right]
theorem inD_eq {t : List Bool} {x y : Int} (h : x % (t.length : Int) = y % (t.length : Int)) : inD t x = inD t y := by
  unfold inD
  rw [h]
theorem inD_mod {t : List Bool} {L : Nat} (h : t.length ∣ L) (x : Int) : inD t (x % (L : Int)) = inD t x :=
  inD_eq (Int.emod_emod_of_dvd x (Int.natCast_dvd_natCast.2 h))
theorem bez : ∀ p : Nat, p < 8 → ∀ q : Nat, q < 8 → 1 ≤ p → 1 ≤ q → ∃ a : Nat, a < 8 ∧ a * p % q = Nat.gcd p q % q := by decide +kernel
theorem inD_nat {t : List Bool} {i : Nat} (h : i < t.length) : inD t (i : Int) = ix t i := by
  unfold inD
  rw [Int.emod_eq_of_lt (by omega) (by omega), Int.toNat_natCast]
theorem per_gcd {t u : List Bool} (F : Least t) (G : Least u) (h : ∀ x, inD t x = inD u x) (x : Int) : inD t (x + (Nat.gcd t.length u.length : Nat)) = inD t x := by
  have f1 := F.pos; have f2 := F.le; have g1 := G.pos; have g2 := G.le
  obtain ⟨a, _, ha⟩ := bez t.length (by omega) u.length (by omega) f1 g1
  have e1 : inD t (x + (a : Int) * (t.length : Int)) = inD t x := inD_per x a
  have e2 : inD u (x + (a : Int) * (t.length : Int)) = inD u (x + (Nat.gcd t.length u.length : Nat)) := by
    refine inD_eq ?_
    have : ((a : Int) * (t.length : Int)) % (u.length : Int) = ((Nat.gcd t.length u.length : Nat) : Int) % (u.length : Int) := by
      have := congrArg (fun (n : Nat) => (n : Int)) ha
      simp only [Int.natCast_emod, Int.natCast_mul] at this
      exact this
    rw [Int.add_emod, this, ← Int.add_emod]
  rw [h, ← e2, ← h, e1]
theorem per_gcds {t u : List Bool} (F : Least t) (G : Least u) (h : ∀ x, inD t x = inD u x) (x : Int) : ∀ k : Nat, inD t (x + (k * Nat.gcd t.length u.length : Nat)) = inD t x
  | 0 => by rw [Nat.zero_mul]; exact congrArg (inD t) (by omega)
  | k + 1 => by
    have := per_gcd F G h (x + (k * Nat.gcd t.length u.length : Nat))
    rw [per_gcds F G h x k] at this
    rw [← this]
    exact congrArg (inD t) (by rw [Nat.succ_mul]; omega)
theorem len_gcd {t u : List Bool} (F : Least t) (G : Least u) (h : ∀ x, inD t x = inD u x) : t.length = Nat.gcd t.length u.length := by
  have f1 := F.pos
  have gd := Nat.gcd_dvd_left t.length u.length
  have gp : 0 < Nat.gcd t.length u.length := Nat.gcd_pos_of_pos_left _ f1
  have gl := Nat.le_of_dvd f1 gd
  rcases Nat.lt_or_ge (Nat.gcd t.length u.length) t.length with z | z
  · exfalso
    refine leastP_min (t := t) gp (by rw [F.per]; exact z) (Nat.mod_eq_zero_of_dvd gd) fun i hi => ?_
    have hm := Nat.mod_lt i gp
    have e := per_gcds F G h ((i % Nat.gcd t.length u.length : Nat) : Int) (i / Nat.gcd t.length u.length)
    rw [← inD_nat hi, ← inD_nat (show i % Nat.gcd t.length u.length < t.length by omega), ← e]
    refine congrArg (inD t) ?_
    have := Nat.mod_add_div i (Nat.gcd t.length u.length)
    rw [Nat.mul_comm] at this
    omega
  · omega
theorem inD_uniq {t u : List Bool} (F : Least t) (G : Least u) (h : ∀ x, inD t x = inD u x) : t = u := by
  have e1 := len_gcd F G h
  have e2 := len_gcd G F fun x => (h x).symm
  rw [Nat.gcd_comm] at e2
  have e : t.length = u.length := e1.trans e2.symm
  refine ext_ix e fun i hi => ?_
  rw [← inD_nat hi, ← inD_nat (by omega), h]
theorem lcm_dvd_of {t u : List Bool} : t.length ∣ Nat.lcm t.length u.length ∧ u.length ∣ Nat.lcm t.length u.length := ⟨Nat.dvd_lcm_left _ _, Nat.dvd_lcm_right _ _⟩
theorem lcm_pos_of {t u : List Bool} (F : Least t) (G : Least u) : 0 < Nat.lcm t.length u.length := Nat.lcm_pos F.pos G.pos
/-- what is told of each day of a round -/
def dayL (L : Nat) (p : Int → Bool) : List Nat := (List.range L).filter fun n => p (n : Int)
theorem mem_dayL {L : Nat} {p : Int → Bool} {n : Nat} : n ∈ dayL L p ↔ n < L ∧ p (n : Int) = true := by
  unfold dayL
  rw [List.mem_filter, List.mem_range]
theorem dayL_lt {L : Nat} {p : Int → Bool} : ∀ y ∈ dayL L p, y < L := fun y hy => (mem_dayL.1 hy).1
theorem dayL_len (L : Nat) (p : Int → Bool) : (dayL L p).length ≤ L := Nat.le_trans (List.length_filter_le _ _) (by rw [List.length_range]; exact Nat.le_refl _)
theorem inD_dayL {L : Nat} {p : Int → Bool} (h1 : 1 ≤ L) (hp : ∀ x, p (x % (L : Int)) = p x) (x : Int) : inD (formT L (dayL L p)) x = p x := by
  rw [inD_form h1]
  have h0 := Int.emod_nonneg x (show (L : Int) ≠ 0 by omega)
  have h2 := Int.emod_lt_of_pos x (show (0 : Int) < L by omega)
  rw [Bool.eq_iff_iff, decide_eq_true_eq, mem_dayL]
  have e : (((x % (L : Int)).toNat : Nat) : Int) = x % (L : Int) := Int.toNat_of_nonneg h0
  rw [e, hp]
  exact ⟨fun z => z.2, fun z => ⟨by omega, z⟩⟩
def subB (t u : List Bool) : Bool := (List.range (Nat.lcm t.length u.length)).all fun n => !inD t (n : Int) || inD u (n : Int)
theorem subB_iff {t u : List Bool} (F : Least t) (G : Least u) : subB t u = true ↔ ∀ x, inD t x = true → inD u x = true := by
  unfold subB
  rw [List.all_eq_true]
  have lp := lcm_pos_of F G
  constructor
  · intro h x hx
    have h0 := Int.emod_nonneg x (show ((Nat.lcm t.length u.length : Nat) : Int) ≠ 0 by omega)
    have h2 := Int.emod_lt_of_pos x (show (0 : Int) < ((Nat.lcm t.length u.length : Nat) : Int) by omega)
    have := h (x % ((Nat.lcm t.length u.length : Nat) : Int)).toNat (List.mem_range.2 (by omega))
    rw [Int.toNat_of_nonneg h0, inD_mod lcm_dvd_of.1, inD_mod lcm_dvd_of.2, hx] at this
    simpa using this
  · intro h n _
    cases e : inD t (n : Int) with
    | false => rfl
    | true => rw [h _ e]; rfl
abbrev andn (x y : Bool) : Bool := x && !y
/-- TooMany -/
def BadTM (B : Addr) (kn : Hp) (E : AXK) : Prop := ∀ d k', Ext kn k' → kn d = none → k' d = some (.xd [("most", .int 7), ("what", .str "days")]) → E (.ref B) (some d) k'
def bCP (C B : Addr) : List V → Hp → AK → AXK → Prop := fun vs kn Q E => ∃ a b t u, vs = [.ref a, .ref b] ∧ DayAt C kn a t ∧ DayAt C kn b u ∧ (Nat.lcm t.length u.length ≤ 7 → Q (.int (Nat.lcm t.length u.length : Nat)) kn) ∧ (7 < Nat.lcm t.length u.length → BadTM B kn E)
theorem mo_cp {C B : Addr} : MonoX (bCP C B) := by
  rintro vs kn Q R E F h1 h2 ⟨a, b, t, u, e, x, y, h, g⟩
  exact ⟨a, b, t, u, e, x, y, fun z => h1 _ _ (h z), fun z d k u1 u2 u3 => h2 _ _ _ (g z d k u1 u2 u3)⟩
def bJoin (f : Bool → Bool → Bool) (C B : Addr) : List V → Hp → AK → AXK → Prop := fun vs kn Q E => ∃ a b t u, vs = [.ref a, .ref b] ∧ DayAt C kn a t ∧ DayAt C kn b u ∧ (Nat.lcm t.length u.length ≤ 7 → ∀ r, Least r → (∀ x, inD r x = f (inD t x) (inD u x)) → NewD C kn r Q) ∧ (7 < Nat.lcm t.length u.length → BadTM B kn E)
theorem mo_join {f : Bool → Bool → Bool} {C B : Addr} : MonoX (bJoin f C B) := by
  rintro vs kn Q R E F h1 h2 ⟨a, b, t, u, e, x, y, h, g⟩
  exact ⟨a, b, t, u, e, x, y, fun z r l i s k u1 u2 u3 => h1 _ _ (h z r l i s k u1 u2 u3), fun z d k u1 u2 u3 => h2 _ _ _ (g z d k u1 u2 u3)⟩
def bInv (C : Addr) : List V → Hp → AK → AXK → Prop := fun vs kn Q E => ∃ a t, vs = [.ref a] ∧ DayAt C kn a t ∧ ∀ r, Least r → (∀ x, inD r x = !inD t x) → NewD C kn r Q
theorem mo_inv {C : Addr} : MonoX (bInv C) := by
  rintro vs kn Q R E F h1 h2 ⟨a, t, e, x, h⟩
  exact ⟨a, t, e, x, fun r l i s k u1 u2 u3 => h1 _ _ (h r l i s k u1 u2 u3)⟩
def bSh (C : Addr) (sg : Int) : List V → Hp → AK → AXK → Prop := fun vs kn Q E => ∃ a t k, vs = [.ref a, .int k] ∧ DayAt C kn a t ∧ ∀ r, Least r → (∀ x, inD r x = inD t (x - sg * k)) → NewD C kn r Q
theorem mo_sh {C : Addr} {sg : Int} : MonoX (bSh C sg) := by
  rintro vs kn Q R E F h1 h2 ⟨a, t, k, e, x, h⟩
  exact ⟨a, t, k, e, x, fun r l i s k u1 u2 u3 => h1 _ _ (h r l i s k u1 u2 u3)⟩
def bCmp (C : Addr) (f : List Bool → List Bool → Bool) : List V → Hp → AK → AXK → Prop := fun vs kn Q _ => ∃ a b t u, vs = [.ref a, .ref b] ∧ DayAt C kn a t ∧ DayAt C kn b u ∧ ∀ k', Ext kn k' → Q (.bl (f t u)) k'
theorem mo_cmp {C : Addr} {f : List Bool → List Bool → Bool} : MonoX (bCmp C f) := by
  rintro vs kn Q R E F h1 h2 ⟨a, b, t, u, e, x, y, h⟩
  exact ⟨a, b, t, u, e, x, y, fun k z => h1 _ _ (h k z)⟩
section
variable {c : Cw} {kn : Hp} {n : Nat} {σ : L2.St} {Q : V → Hp → Nat → Prop} {K : PySem.W.Frag} {mg : Str → Option Value}
theorem r_hasD {C a : Addr} {t : List Bool} {i : Int} {neg : Bool} (l : DayAt C kn a t) (q : Q (.bl (if neg then !inD t i else inD t i)) kn n) : W c (rInO C (liftX (bHas K C)) neg (.int i) (.ref a)) kn n Q := by
  obtain ⟨dx, p, a1, b1⟩ := l.at_
  exact r_inO mo_has a1 ⟨_, _, _, rfl, l, .inl ⟨i, rfl, _, rfl, q⟩⟩
theorem r_strD {C s : Addr} {t : List Bool} (l : DayAt C kn s t) (q : ∀ k, Ext kn k → Q (.str (dT t)) k n) : W c (rStrO C (liftX (bStr C)) [.ref s]) kn n Q := by
  obtain ⟨dx, p, a1, b1⟩ := l.at_
  exact r_strO mo_str a1 ⟨s, t, rfl, l, fun k e => ⟨_, rfl, q k e⟩⟩
theorem r_eqDD (T : Tx K mg) {s s' : Addr} {t t' : List Bool} {neg : Bool} (l : DayAt T.c_Days kn s t) (l' : DayAt T.c_Days kn s' t') (q : Q (.bl (if neg then !decide (t = t') else decide (t = t'))) kn n) : W c (rEqO K T.c_Days (liftX (bEq K T.c_Days)) neg (.ref s) (.ref s')) kn n Q := by
  obtain ⟨dx, q1, a1, a2⟩ := l.at_
  obtain ⟨dx', q2, b1, b2⟩ := l'.at_
  exact r_eqO mo_eq a1 (T.own_Days.ty b1) nf_self ⟨_, _, _, rfl, l, .inl ⟨_, _, rfl, l', _, rfl, q⟩⟩
theorem w_per {C : Addr} {E : XK} {i : Nat} {a : Addr} {t : List Bool} (hv : σ[i]? = some (some (.ref a))) (l : DayAt C kn a t) (q : Q (.int t.length) kn n) : W c (tProp C (liftX (bPer C)) [] E (tVar i) σ) kn n Q := by
  obtain ⟨dx, q1, a1, a2⟩ := l.at_
  exact w_prop mo_per (w_var hv ⟨a, dx, _, rfl, a1, _, _, rfl, l, q⟩)
/-- [n for n in range(L) if ..] of what is asked of each day -/
theorem w_lcDays {te : TE} {tt : TT} {m L : Nat} {pr : Int → Bool} (hte : ∀ R : V → Hp → Nat → Prop, R (.int L) kn n → W c (te σ) kn n R) (hL : L ≤ 1000)
    (h9 : ∀ v : V, ((wipe σ [m]).set m (some v))[m]? = some (some v)) (hw : ∀ v : V, wipe ((wipe σ [m]).set m (some v)) [m] = wipe σ [m])
    (ht : ∀ (i : Nat) (k : Hp) (R : Bool → Hp → Nat → Prop), Ext kn k → R (pr (i : Int)) k n → W c (tt ((wipe σ [m]).set m (some (.int (i : Int))))) k n R)
    (hq : ∀ D, kn D = none → Q (.ref D) (upd kn D (.lst (natV (dayL L pr)))) n) :
    W c (tLc (iRng1 (tCons te tNil)) (gName m) tt (tVar m) [m] σ) kn n Q := by
  refine w_lcP (i_rng1 (w_cons (hte _ (w_nil ⟨L, rfl, by omega, by omega, ?_⟩))))
  rw [Int.toNat_natCast]
  refine ⟨_, (fun _ => True), (fun v => v), (fun v => match v with | .int i => pr i | _ => false), gives_rng, by rw [List.length_map, List.length_range]; omega, fun _ _ => trivial, fun x hx k ek => ?_, fun D hD => ?_⟩
  · obtain ⟨i, hm, rfl⟩ := List.mem_map.1 hx
    rw [Int.zero_add]
    refine g_name ⟨rfl, rfl, hw _, ?_⟩
    exact ht i k _ ek ⟨rfl, rfl, rfl, fun _ => w_var (h9 _) ⟨rfl, rfl, rfl⟩⟩
  · rw [List.map_id', rng_filter (P := fun i => pr (i : Int)) (fun i hi => by rw [Int.zero_add])]
    exact hq D hD
end

end NN

namespace NN
open PySem PySem.Spec PyProof.Rows L2 LamX AW ClX
open Tx1 Ln
section
variable {P : Program} {w : World} {K : PySem.W.Frag} {mg : Str → Option Value} {base : Heap}
theorem ok_common_period (T : Tx K mg) : FnOk P w K mg base (L2.CX P w) 4 T.f_common_period T.d_common_period ["one", "other"] (liftX (bCP T.c_Days T.c_TooMany)) := by
  refine T.F_common_period.okX sc_common_period (fun vs H Q E h => ?_) (fun cdv A outer s H vs Q E hr h => ?_)
  · obtain ⟨kn, _, _, a, b, t, u, rfl, _⟩ := h
    rfl
  · obtain ⟨kn, ex, nt, a, b, t, u, rfl, da, db, h, hb⟩ := h
    refine ⟨_, (pss_cons (ps_set (i := 2) sc_common_period.nd rfl (by first | exact Or.inl rfl | exact Or.inr rfl) (pe_callMB cr_lcm (by rfl) T.g_lcm (pa_cons (pe_prop (pv 0) T.cl_Days T.pp_Days_period (ok_Days_period T) (hr.mono (by decide)) T.bd_Days_period .nil pass0 (by rfl)) (pa_cons (pe_prop (pv 1) T.cl_Days T.pp_Days_period (ok_Days_period T) (hr.mono (by decide)) T.bd_Days_period .nil pass0 (by rfl)) pa_nil))))
       (pss_cons (ps_if (pt_cmpR op_gt (pv 2) (pe_cval (pe_glob (v := .ref T.c_Days) (by rfl) T.g_Days rfl)) (nomark _))
       (pss_one (ps_raise rfl (takes_of rfl rfl rfl rfl) (pmk_oex T.x_TooMany T.fi_TooMany___init__ T.ti_TooMany (ok_TooMany___init__ T) (hr.mono (by decide)) T.bd_TooMany___init__ .nil pass0 (by rfl) T.g_TooMany (pa_cons pe_str (pa_cons (pe_cval (pe_glob (v := .ref T.c_Days) (by rfl) T.g_Days rfl)) pa_nil)))))
       pss_nil)
       (pss_one (ps_ret (pv 2))))), ?_⟩
    refine body_of (pure_start ex nt) ?_
    obtain ⟨mu, hmu⟩ := T.cv_Days_MOST
    have f2 := da.least.le
    have g2 := db.least.le
    walk_at "wi"
    refine w_per rfl da ?_
    walk_at "wi"
    refine w_per rfl db ?_
    walk_at "wi"
    refine r_lcm (by omega) (by omega) ?_
    walk_at "wi"
    refine ⟨_, _, _, _, rfl, T.cr_Days, hmu, ?_⟩
    walk_at "wi"
    refine ⟨fun h1 => ?_, fun h1 => ?_⟩
    · have h1 : 7 < Nat.lcm t.length u.length := by have := of_decide_eq_true h1; omega
      walk_at "wi"
      refine s_raise2 T.x_TooMany T.nx_TooMany_what T.nx_TooMany_most err_body ?_
      walk_at "w"
      refine ⟨_, _, _, _, rfl, T.cr_Days, hmu, ?_⟩
      walk_at "w"
      exact ⟨_, _, rfl, fun d hd => hb h1 d _ (ext_new hd) hd upd_same 0⟩
    · have h1 : Nat.lcm t.length u.length ≤ 7 := by have := of_decide_eq_false h1; omega
      walk_at "wi"
      exact h h1 0
theorem ok_Days___and__ (T : Tx K mg) : FnOk P w K mg base (L2.CX P w) 7 T.f_Days___and__ T.d_Days___and__ ["self", "other"] (liftX (bJoin and T.c_Days T.c_TooMany)) := by
  refine T.F_Days___and__.okX sc_Days___and__ (fun vs H Q E h => ?_) (fun cdv A outer s H vs Q E hr h => ?_)
  · obtain ⟨kn, _, _, a, b, t, u, rfl, _⟩ := h
    rfl
  · obtain ⟨kn, ex, nt, a, b, t, u, rfl, da, db, h, hb⟩ := h
    refine ⟨_, (pss_cons (ps_set (i := 2) sc_Days___and__.nd rfl (by first | exact Or.inl rfl | exact Or.inr rfl) (pe_call (ok_common_period T) (hr.mono (by decide)) (by rfl) T.g_common_period T.F_common_period.kp T.bd_common_period .nil (passes_call (takes_of rfl rfl rfl rfl) (fun _ _ _ _ h => h)) (pa_cons (pv 0) (pa_cons (pv 1) pa_nil))))
       (pss_one (ps_ret (pe_make T.mk_Days (ok_Days___init__ T) (hr.mono (by decide)) (by rfl) T.g_Days T.bd_Days___init__ .nil (passes_call (takes_of rfl rfl rfl rfl) (fun _ _ _ _ h => h)) (pa_cons (pv 2) (pa_cons (pe_lc (own := [("n", 3)]) (g := gName 3) (by rfl) sc_Days___and__.nd (pi_range1 (by rfl) T.b_range (pa_cons (pv 2) pa_nil)) (blkOk_by (own := [("n", 3)]) (N := ["self", "other", "period", "n"]) (sc := defScope s_Days___and__) (by decide +kernel)) (fun _ _ _ _ _ => pg_name (i := 3) sc_Days___and__.nd rfl (Or.inl rfl)) (fun _ _ _ _ _ => (pts_one (PW.pt (pw_and (pt_cmpR (op_inO T.sm_Days___contains__ (ok_Days___contains__ T) (hr.mono (by decide)) T.bd_Days___contains__ pass0) (pv 3) (pv 0) (by rfl)) (pw_and1 (pt_cmpR (op_inO T.sm_Days___contains__ (ok_Days___contains__ T) (hr.mono (by decide)) T.bd_Days___contains__ pass0) (pv 3) (pv 1) (by rfl))))))) (fun _ _ _ _ _ => (pv 3))) pa_nil)))))), ?_⟩
    refine body_of (pure_start ex nt) ?_
    walk_at "wi"
    refine w_call mo_cp err_body ?_
    walk_at "wi"
    refine ⟨a, b, t, u, rfl, da, db, fun h7 => ?_, fun h7 d k e n hd => hb h7 d k e n hd 0⟩
    have l1 := lcm_pos_of da.least db.least
    have dv := lcm_dvd_of (t := t) (u := u)
    have h := h h7
    generalize Nat.lcm t.length u.length = L at h h7 l1 dv ⊢
    walk_at "wi"
    refine w_days (EA := bodyX _ E) err_body ?_
    walk_at "w"
    refine w_lcDays (L := L) (pr := fun x => and (inD t x) (inD u x)) (fun R hR => w_var rfl hR) (by omega) (fun _ => rfl) (fun _ => rfl) (fun i k R ek hR => ?_) fun D hD => ?_
    · walk_at "w"
      refine r_hasD (DayAt.ext ek da) ?_
      rw [if_neg Bool.false_ne_true]
      walk_at "w"
      refine ⟨fun h1 => ?_, fun h1 => ?_⟩
      · walk_at "w"
        refine r_hasD (DayAt.ext ek db) ?_
        rw [if_neg Bool.false_ne_true]
        walk_at "w"
        rw [h1] at hR
        exact hR
      · rw [h1] at hR
        exact hR
    · walk_at "w"
      refine ⟨_, _, rfl, make_good l1 h7 dayL_lt (Nat.le_trans (dayL_len _ _) (by omega)) ⟨D, rfl, .inl upd_same⟩ fun x k e n d => ?_⟩
      exact h _ (form_least l1 h7) (inD_dayL l1 fun x => by rw [inD_mod dv.1, inD_mod dv.2]) x k (ext_tr (ext_new hD) e) (free_ext (ext_new hD) n) d 0
theorem ok_Days___or__ (T : Tx K mg) : FnOk P w K mg base (L2.CX P w) 7 T.f_Days___or__ T.d_Days___or__ ["self", "other"] (liftX (bJoin or T.c_Days T.c_TooMany)) := by
  refine T.F_Days___or__.okX sc_Days___or__ (fun vs H Q E h => ?_) (fun cdv A outer s H vs Q E hr h => ?_)
  · obtain ⟨kn, _, _, a, b, t, u, rfl, _⟩ := h
    rfl
  · obtain ⟨kn, ex, nt, a, b, t, u, rfl, da, db, h, hb⟩ := h
    refine ⟨_, (pss_cons (ps_set (i := 2) sc_Days___or__.nd rfl (by first | exact Or.inl rfl | exact Or.inr rfl) (pe_call (ok_common_period T) (hr.mono (by decide)) (by rfl) T.g_common_period T.F_common_period.kp T.bd_common_period .nil (passes_call (takes_of rfl rfl rfl rfl) (fun _ _ _ _ h => h)) (pa_cons (pv 0) (pa_cons (pv 1) pa_nil))))
       (pss_one (ps_ret (pe_make T.mk_Days (ok_Days___init__ T) (hr.mono (by decide)) (by rfl) T.g_Days T.bd_Days___init__ .nil (passes_call (takes_of rfl rfl rfl rfl) (fun _ _ _ _ h => h)) (pa_cons (pv 2) (pa_cons (pe_lc (own := [("n", 3)]) (g := gName 3) (by rfl) sc_Days___or__.nd (pi_range1 (by rfl) T.b_range (pa_cons (pv 2) pa_nil)) (blkOk_by (own := [("n", 3)]) (N := ["self", "other", "period", "n"]) (sc := defScope s_Days___or__) (by decide +kernel)) (fun _ _ _ _ _ => pg_name (i := 3) sc_Days___or__.nd rfl (Or.inl rfl)) (fun _ _ _ _ _ => (pts_one (PW.pt (pw_or (pt_cmpR (op_inO T.sm_Days___contains__ (ok_Days___contains__ T) (hr.mono (by decide)) T.bd_Days___contains__ pass0) (pv 3) (pv 0) (by rfl)) (pw_or1 (pt_cmpR (op_inO T.sm_Days___contains__ (ok_Days___contains__ T) (hr.mono (by decide)) T.bd_Days___contains__ pass0) (pv 3) (pv 1) (by rfl))))))) (fun _ _ _ _ _ => (pv 3))) pa_nil)))))), ?_⟩
    refine body_of (pure_start ex nt) ?_
    walk_at "wi"
    refine w_call mo_cp err_body ?_
    walk_at "wi"
    refine ⟨a, b, t, u, rfl, da, db, fun h7 => ?_, fun h7 d k e n hd => hb h7 d k e n hd 0⟩
    have l1 := lcm_pos_of da.least db.least
    have dv := lcm_dvd_of (t := t) (u := u)
    have h := h h7
    generalize Nat.lcm t.length u.length = L at h h7 l1 dv ⊢
    walk_at "wi"
    refine w_days (EA := bodyX _ E) err_body ?_
    walk_at "w"
    refine w_lcDays (L := L) (pr := fun x => or (inD t x) (inD u x)) (fun R hR => w_var rfl hR) (by omega) (fun _ => rfl) (fun _ => rfl) (fun i k R ek hR => ?_) fun D hD => ?_
    · walk_at "w"
      refine r_hasD (DayAt.ext ek da) ?_
      rw [if_neg Bool.false_ne_true]
      walk_at "w"
      refine ⟨fun h1 => ?_, fun h1 => ?_⟩
      · walk_at "w"
        refine r_hasD (DayAt.ext ek db) ?_
        rw [if_neg Bool.false_ne_true]
        walk_at "w"
        rw [h1] at hR
        exact hR
      · rw [h1] at hR
        exact hR
    · walk_at "w"
      refine ⟨_, _, rfl, make_good l1 h7 dayL_lt (Nat.le_trans (dayL_len _ _) (by omega)) ⟨D, rfl, .inl upd_same⟩ fun x k e n d => ?_⟩
      exact h _ (form_least l1 h7) (inD_dayL l1 fun x => by rw [inD_mod dv.1, inD_mod dv.2]) x k (ext_tr (ext_new hD) e) (free_ext (ext_new hD) n) d 0
theorem ok_Days___sub__ (T : Tx K mg) : FnOk P w K mg base (L2.CX P w) 7 T.f_Days___sub__ T.d_Days___sub__ ["self", "other"] (liftX (bJoin andn T.c_Days T.c_TooMany)) := by
  refine T.F_Days___sub__.okX sc_Days___sub__ (fun vs H Q E h => ?_) (fun cdv A outer s H vs Q E hr h => ?_)
  · obtain ⟨kn, _, _, a, b, t, u, rfl, _⟩ := h
    rfl
  · obtain ⟨kn, ex, nt, a, b, t, u, rfl, da, db, h, hb⟩ := h
    refine ⟨_, (pss_cons (ps_set (i := 2) sc_Days___sub__.nd rfl (by first | exact Or.inl rfl | exact Or.inr rfl) (pe_call (ok_common_period T) (hr.mono (by decide)) (by rfl) T.g_common_period T.F_common_period.kp T.bd_common_period .nil (passes_call (takes_of rfl rfl rfl rfl) (fun _ _ _ _ h => h)) (pa_cons (pv 0) (pa_cons (pv 1) pa_nil))))
       (pss_one (ps_ret (pe_make T.mk_Days (ok_Days___init__ T) (hr.mono (by decide)) (by rfl) T.g_Days T.bd_Days___init__ .nil (passes_call (takes_of rfl rfl rfl rfl) (fun _ _ _ _ h => h)) (pa_cons (pv 2) (pa_cons (pe_lc (own := [("n", 3)]) (g := gName 3) (by rfl) sc_Days___sub__.nd (pi_range1 (by rfl) T.b_range (pa_cons (pv 2) pa_nil)) (blkOk_by (own := [("n", 3)]) (N := ["self", "other", "period", "n"]) (sc := defScope s_Days___sub__) (by decide +kernel)) (fun _ _ _ _ _ => pg_name (i := 3) sc_Days___sub__.nd rfl (Or.inl rfl)) (fun _ _ _ _ _ => (pts_one (PW.pt (pw_and (pt_cmpR (op_inO T.sm_Days___contains__ (ok_Days___contains__ T) (hr.mono (by decide)) T.bd_Days___contains__ pass0) (pv 3) (pv 0) (by rfl)) (pw_and1 (pt_cmpR (op_notInO T.sm_Days___contains__ (ok_Days___contains__ T) (hr.mono (by decide)) T.bd_Days___contains__ pass0) (pv 3) (pv 1) (by rfl))))))) (fun _ _ _ _ _ => (pv 3))) pa_nil)))))), ?_⟩
    refine body_of (pure_start ex nt) ?_
    walk_at "wi"
    refine w_call mo_cp err_body ?_
    walk_at "wi"
    refine ⟨a, b, t, u, rfl, da, db, fun h7 => ?_, fun h7 d k e n hd => hb h7 d k e n hd 0⟩
    have l1 := lcm_pos_of da.least db.least
    have dv := lcm_dvd_of (t := t) (u := u)
    have h := h h7
    generalize Nat.lcm t.length u.length = L at h h7 l1 dv ⊢
    walk_at "wi"
    refine w_days (EA := bodyX _ E) err_body ?_
    walk_at "w"
    refine w_lcDays (L := L) (pr := fun x => andn (inD t x) (inD u x)) (fun R hR => w_var rfl hR) (by omega) (fun _ => rfl) (fun _ => rfl) (fun i k R ek hR => ?_) fun D hD => ?_
    · walk_at "w"
      refine r_hasD (DayAt.ext ek da) ?_
      rw [if_neg Bool.false_ne_true]
      walk_at "w"
      refine ⟨fun h1 => ?_, fun h1 => ?_⟩
      · walk_at "w"
        refine r_hasD (DayAt.ext ek db) ?_
        rw [if_pos rfl]
        walk_at "w"
        rw [h1] at hR
        exact hR
      · rw [h1] at hR
        exact hR
    · walk_at "w"
      refine ⟨_, _, rfl, make_good l1 h7 dayL_lt (Nat.le_trans (dayL_len _ _) (by omega)) ⟨D, rfl, .inl upd_same⟩ fun x k e n d => ?_⟩
      exact h _ (form_least l1 h7) (inD_dayL l1 fun x => by rw [inD_mod dv.1, inD_mod dv.2]) x k (ext_tr (ext_new hD) e) (free_ext (ext_new hD) n) d 0
theorem ok_Days___invert__ (T : Tx K mg) : FnOk P w K mg base CX0 7 T.f_Days___invert__ T.d_Days___invert__ ["self"] (liftX (bInv T.c_Days)) := by
  refine T.F_Days___invert__.ok sc_Days___invert__ (fun vs H Q E h => ?_) (fun cdv A outer s H vs Q E hr h => ?_)
  · obtain ⟨kn, _, _, a, t, rfl, _⟩ := h
    rfl
  · obtain ⟨kn, ex, nt, a, t, rfl, da, h⟩ := h
    refine ⟨_, (pss_one (ps_ret (pe_make T.mk_Days (ok_Days___init__ T) (hr.mono (by decide)) (by rfl) T.g_Days T.bd_Days___init__ .nil passL (pa_cons (pe_fld (pv 0) rfl) (pa_cons (pe_lc (own := [("n", 1)]) (g := gName 1) (by rfl) sc_Days___invert__.nd (pi_range1 (by rfl) T.b_range (pa_cons (pe_fld (pv 0) rfl) pa_nil)) (blkOk_by (own := [("n", 1)]) (N := ["self", "n"]) (sc := defScope s_Days___invert__) (by decide +kernel)) (fun _ _ _ _ _ => pg_name (i := 1) sc_Days___invert__.nd rfl (Or.inl rfl)) (fun _ _ _ _ _ => (pts_one (pt_cmpR (op_notInO T.sm_Days___contains__ (ok_Days___contains__ T) (hr.mono (by decide)) T.bd_Days___contains__ pass0) (pv 1) (pv 0) (by rfl)))) (fun _ _ _ _ _ => (pv 1))) pa_nil))))), ?_⟩
    refine body_of (pure_start ex nt) ?_
    have cL := T.cl_Days
    have l1 := da.least.pos
    have h7 := da.least.le
    obtain ⟨dx, q, z1, z2⟩ := da.at_
    walk_at "wi"
    refine w_days (B := T.c_BadDays) (EA := fun _ _ _ _ => False) err_no ?_
    walk_at "w"
    refine w_fld (w_var rfl ⟨_, _, _, _, _, rfl, z1, cL, T.na_Days__period, rfl, ?_⟩)
    walk_at "w"
    refine w_lcDays (L := t.length) (pr := fun x => !inD t x) (fun R hR => w_fld (w_var rfl ⟨_, _, _, _, _, rfl, z1, cL, T.na_Days__period, rfl, hR⟩)) (by omega) (fun _ => rfl) (fun _ => rfl) (fun i k R ek hR => ?_) fun D hD => ?_
    · walk_at "w"
      refine r_hasD (DayAt.ext ek da) ?_
      rw [if_pos rfl]
      exact ⟨_, rfl, hR⟩
    · walk_at "w"
      refine ⟨_, _, rfl, make_good l1 h7 dayL_lt (Nat.le_trans (dayL_len _ _) (by omega)) ⟨D, rfl, .inl upd_same⟩ fun x k e n d => ?_⟩
      exact h _ (form_least l1 h7) (inD_dayL l1 fun x => by rw [inD_mod (Nat.dvd_refl _)]) x k (ext_tr (ext_new hD) e) (free_ext (ext_new hD) n) d 0
theorem ok_Days___rshift__ (T : Tx K mg) : FnOk P w K mg base (L2.CX P w) 7 T.f_Days___rshift__ T.d_Days___rshift__ ["self", "other"] (liftX (bSh T.c_Days 1)) := by
  refine T.F_Days___rshift__.okX sc_Days___rshift__ (fun vs H Q E h => ?_) (fun cdv A outer s H vs Q E hr h => ?_)
  · obtain ⟨kn, _, _, a, t, k, rfl, _⟩ := h
    rfl
  · obtain ⟨kn, ex, nt, a, t, k, rfl, da, h⟩ := h
    refine ⟨_, (pss_one (ps_ret (pe_make T.mk_Days (ok_Days___init__ T) (hr.mono (by decide)) (by rfl) T.g_Days T.bd_Days___init__ .nil (passes_call (takes_of rfl rfl rfl rfl) (fun _ _ _ _ h => h)) (pa_cons (show PE _ _ (tFld K (tVar 0) "_period") from pe_fld (pv 0) rfl) (pa_cons (pe_lc (own := [("n", 2)]) (g := gName 2) (by rfl) sc_Days___rshift__.nd (pi_tup (pe_fld (pv 0) rfl)) (blkOk_by (own := [("n", 2)]) (N := ["self", "other", "n"]) (sc := defScope s_Days___rshift__) (by decide +kernel)) (fun _ _ _ _ _ => pg_name (i := 2) sc_Days___rshift__.nd rfl (Or.inl rfl)) (fun _ _ _ _ _ => pts_nil) (fun _ _ _ _ _ => (pe_op op_mod (pe_op op_add (pv 2) (pv 1)) (show PE _ _ (tFld K (tVar 0) "_period") from pe_fld (pv 0) rfl)))) pa_nil))))), ?_⟩
    refine body_of (pure_start ex nt) ?_
    have cL := T.cl_Days
    have l1 := da.least.pos
    have h7 := da.least.le
    have il := idx_len t
    obtain ⟨dx, q, z1, z2⟩ := da.at_
    walk_at "wi"
    refine w_days (EA := bodyX _ E) err_body ?_
    walk_at "w"
    refine w_fld (w_var rfl ⟨_, _, _, _, _, rfl, z1, cL, T.na_Days__period, rfl, ?_⟩)
    walk_at "w"
    refine w_lcP (i_tup (w_fld (w_var rfl ⟨_, _, _, _, _, rfl, z1, cL, T.na_Days__rests, rfl, ?_⟩)))
    refine ⟨q, _, rfl, z2, ?_⟩
    refine ⟨_, _, (fun v => match v with | .int i => .int ((i + k) % (t.length : Int)) | v => v), fun _ => true, gives_tup, by rw [List.length_map]; omega, fun k e => e _ _ z2, fun x hx k' ek => ?_, fun D hD => ?_⟩
    · obtain ⟨i, _, rfl⟩ := List.mem_map.1 hx
      refine g_name ⟨rfl, rfl, rfl, w_yesT ⟨rfl, rfl, rfl, fun _ => ?_⟩⟩
      walk_at "w"
      refine w_fld (w_var rfl ⟨_, _, _, _, _, rfl, ek _ _ z1, cL, T.na_Days__period, rfl, ?_⟩)
      refine r_I (by omega) ?_
      exact ⟨rfl, rfl, rfl⟩
    · have e : List.map (fun v => match v with | .int i => .int ((i + k) % (t.length : Int)) | v => v) (List.filter (fun _ => true) (natV (idx t))) = natV ((idx t).map fun (n : Nat) => (((n : Int) + k) % (t.length : Int)).toNat) := by
        rw [List.filter_eq_self.2 (fun _ _ => rfl)]
        unfold natV
        rw [List.map_map, List.map_map]
        apply List.map_congr_left
        intro n _
        have := Int.emod_nonneg ((n : Int) + k) (show ((t.length : Nat) : Int) ≠ 0 by omega)
        show V.int (((n : Int) + k) % (t.length : Int)) = V.int _
        congr 1
        show _ = (((((n : Int) + k) % (t.length : Int)).toNat : Nat) : Int)
        omega
      rw [e]
      walk_at "w"
      have lt : ∀ y ∈ (idx t).map (fun (n : Nat) => (((n : Int) + k) % (t.length : Int)).toNat), y < t.length := fun y hy => by
        obtain ⟨n, _, rfl⟩ := List.mem_map.1 hy
        have := Int.emod_nonneg ((n : Int) + k) (show ((t.length : Nat) : Int) ≠ 0 by omega)
        have := Int.emod_lt_of_pos ((n : Int) + k) (show (0 : Int) < ((t.length : Nat) : Int) by omega)
        omega
      refine ⟨_, _, rfl, make_good l1 h7 lt (by rw [List.length_map]; omega) ⟨D, rfl, .inl upd_same⟩ fun x k' e n d => ?_⟩
      refine h _ (form_least l1 h7) (fun y => ?_) x k' (ext_tr (ext_new hD) e) (free_ext (ext_new hD) n) d 0
      rw [inD_form l1, Bool.eq_iff_iff, decide_eq_true_eq, List.mem_map, Int.one_mul]
      have y0 := Int.emod_nonneg y (show ((t.length : Nat) : Int) ≠ 0 by omega)
      have y1 := Int.emod_lt_of_pos y (show (0 : Int) < ((t.length : Nat) : Int) by omega)
      have s0 := Int.emod_nonneg (y - k) (show ((t.length : Nat) : Int) ≠ 0 by omega)
      have s1 := Int.emod_lt_of_pos (y - k) (show (0 : Int) < ((t.length : Nat) : Int) by omega)
      constructor
      · rintro ⟨m, hm, hr⟩
        obtain ⟨m1, m2⟩ := mem_idx.1 hm
        have r0 := Int.emod_nonneg ((m : Int) + k) (show ((t.length : Nat) : Int) ≠ 0 by omega)
        have hr : ((m : Int) + k) % (t.length : Int) = y % (t.length : Int) := by omega
        rw [← inD_nat m1] at m2
        rw [← m2]
        refine inD_eq ?_
        rw [Int.sub_emod, ← hr, ← Int.sub_emod, Int.add_sub_cancel]
      · intro hy
        refine ⟨((y - k) % (t.length : Int)).toNat, mem_idx.2 ⟨by omega, hy⟩, ?_⟩
        have : ((((y - k) % (t.length : Int)).toNat : Nat) : Int) = (y - k) % (t.length : Int) := Int.toNat_of_nonneg s0
        rw [this, Int.emod_add_emod, Int.sub_add_cancel]
theorem ok_Days___lshift__ (T : Tx K mg) : FnOk P w K mg base (L2.CX P w) 9 T.f_Days___lshift__ T.d_Days___lshift__ ["self", "other"] (liftX (bSh T.c_Days (-1))) := by
  refine T.F_Days___lshift__.okX sc_Days___lshift__ (fun vs H Q E h => ?_) (fun cdv A outer s H vs Q E hr h => ?_)
  · obtain ⟨kn, _, _, a, t, k, rfl, _⟩ := h
    rfl
  · obtain ⟨kn, ex, nt, a, t, k, rfl, da, h⟩ := h
    refine ⟨_, (pss_one (ps_ret (pe_op (op_own T.op_Days_rshift (ok_Days___rshift__ T) (hr.mono (by decide)) T.bd_Days___rshift__ (passes_call (takes_of rfl rfl rfl rfl) (fun _ _ _ _ h => h))) (pv 0) (pe_un un_neg (pv 1))))), ?_⟩
    refine body_of (pure_start ex nt) ?_
    obtain ⟨dx, q, z1, z2⟩ := da.at_
    walk_at "wi"
    refine r_own mo_sh err_body z1 (.base (.int _)) (ot_int_shr T.si_Days) ?_
    refine ⟨a, t, -k, rfl, da, fun r l i => ?_⟩
    exact fun x k' e n d => h r l (fun x => by rw [i]; congr 1; omega) x k' e n d 0
theorem ok_Days___le__ (T : Tx K mg) : FnOk P w K mg base CX0 4 T.f_Days___le__ T.d_Days___le__ ["self", "other"] (liftX (bCmp T.c_Days subB)) := by
  refine T.F_Days___le__.ok sc_Days___le__ (fun vs H Q E h => ?_) (fun cdv A outer s H vs Q E hr h => ?_)
  · obtain ⟨kn, _, _, a, b, t, u, rfl, _⟩ := h
    rfl
  · obtain ⟨kn, ex, nt, a, b, t, u, rfl, da, db, h⟩ := h
    refine ⟨_, (pss_one (ps_ret (pe_callB (c_allQ rfl) (by rfl) T.b_all (by decide +kernel) (pa_cons (pe_lc (own := [("n", 2)]) (g := gName 2) (by rfl) sc_Days___le__.nd (pi_range1 (by rfl) T.b_range (pa_cons (pe_callMB cr_lcm (by rfl) T.g_lcm (pa_cons (pe_fld (pv 0) rfl) (pa_cons (pe_fld (pv 1) rfl) pa_nil))) pa_nil)) (blkOk_by (own := [("n", 2)]) (N := ["self", "other", "n"]) (sc := defScope s_Days___le__) (by decide +kernel)) (fun _ _ _ _ _ => pg_name (i := 2) sc_Days___le__.nd rfl (Or.inl rfl)) (fun _ _ _ _ _ => (pts_one (pt_cmpR (op_inO T.sm_Days___contains__ (ok_Days___contains__ T) (hr.mono (by decide)) T.bd_Days___contains__ pass0) (pv 2) (pv 0) (by rfl)))) (fun _ _ _ _ _ => (pe_cmpR (op_inO T.sm_Days___contains__ (ok_Days___contains__ T) (hr.mono (by decide)) T.bd_Days___contains__ pass0) (pv 2) (pv 1) (by rfl)))) pa_nil)))), ?_⟩
    refine body_of (pure_start ex nt) ?_
    have cL := T.cl_Days
    have f2 := da.least.le
    have g2 := db.least.le
    obtain ⟨dx, q, z1, z2⟩ := da.at_
    obtain ⟨dx', q', y1, y2⟩ := db.at_
    have ll : Nat.lcm t.length u.length ≤ 49 := by
      unfold Nat.lcm
      exact Nat.le_trans (Nat.div_le_self _ _) (Nat.mul_le_mul f2 g2)
    walk_at "wi"
    refine w_lcP (i_rng1 ?_)
    walk_at "w"
    refine w_fld (w_var rfl ⟨_, _, _, _, _, rfl, z1, cL, T.na_Days__period, rfl, ?_⟩)
    walk_at "w"
    refine w_fld (w_var rfl ⟨_, _, _, _, _, rfl, y1, cL, T.na_Days__period, rfl, ?_⟩)
    walk_at "w"
    refine r_lcm (by omega) (by omega) ?_
    walk_at "w"
    refine ⟨by omega, by omega, ?_⟩
    rw [Int.toNat_natCast]
    refine ⟨_, (fun _ => True), (fun v => match v with | .int i => .bl (inD u i) | v => v), (fun v => match v with | .int i => inD t i | _ => false), gives_rng, by rw [List.length_map, List.length_range]; omega, fun _ _ => trivial, fun x hx k ek => ?_, fun D hD => ?_⟩
    · obtain ⟨i, hm, rfl⟩ := List.mem_map.1 hx
      rw [Int.zero_add]
      refine g_name ⟨rfl, rfl, rfl, ?_⟩
      walk_at "w"
      refine r_hasD (DayAt.ext ek da) ?_
      refine ⟨_, rfl, rfl, rfl, rfl, fun _ => ?_⟩
      walk_at "w"
      refine r_hasD (DayAt.ext ek db) ?_
      exact ⟨rfl, rfl, rfl⟩
    · walk_at "w"
      have e : List.map (fun v => match v with | .int i => .bl (inD u i) | v => v) (List.filter (fun v => match v with | .int i => inD t i | _ => false) ((List.range (Nat.lcm t.length u.length)).map fun (i : Nat) => V.int (0 + (i : Int)))) = (((List.range (Nat.lcm t.length u.length)).filter fun (n : Nat) => inD t (n : Int)).map fun (n : Nat) => inD u (n : Int)).map V.bl := by
        rw [rng_filter (P := fun i => inD t (i : Int)) (fun i hi => by rw [Int.zero_add])]
        unfold natV
        rw [List.map_map, List.map_map]
        rfl
      rw [e]
      refine r_allQ upd_same ?_
      have e2 : ((((List.range (Nat.lcm t.length u.length)).filter fun (n : Nat) => inD t (n : Int)).map fun (n : Nat) => inD u (n : Int)).all id) = subB t u := by
        unfold subB
        rw [List.all_map, List.all_filter]
        rfl
      rw [e2]
      exact h _ (ext_new hD) 0
theorem r_leD (T : Tx K mg) {c : Cw} {kn : Hp} {n : Nat} {E : XK} {Q : V → Hp → Nat → Prop} {f : List Bool → List Bool → Bool} {a b : Addr} {t u : List Bool} (da : DayAt T.c_Days kn a t) (db : DayAt T.c_Days kn b u) (q : ∀ k, Ext kn k → Q (.bl (f t u)) k n) : W c (rCmpO K T.c_Days (liftX (bCmp T.c_Days f)) E (.ref a) (.ref b)) kn n Q := by
  obtain ⟨dx, p, z1, z2⟩ := da.at_
  obtain ⟨dx', p', y1, y2⟩ := db.at_
  exact r_cmpO (EA := fun _ _ _ _ => False) mo_cmp err_no z1 (T.own_Days.ty y1) nf_self ⟨a, b, t, u, rfl, da, db, q⟩
theorem ok_Days___lt__ (T : Tx K mg) : FnOk P w K mg base CX0 7 T.f_Days___lt__ T.d_Days___lt__ ["self", "other"] (liftX (bCmp T.c_Days fun t u => subB t u && !decide (t = u))) := by
  refine T.F_Days___lt__.ok sc_Days___lt__ (fun vs H Q E h => ?_) (fun cdv A outer s H vs Q E hr h => ?_)
  · obtain ⟨kn, _, _, a, b, t, u, rfl, _⟩ := h
    rfl
  · obtain ⟨kn, ex, nt, a, b, t, u, rfl, da, db, h⟩ := h
    refine ⟨_, (pss_one (ps_ret (pe_and (pe_cmpR (op_cmpO (fun _ _ => rfl) T.cm_Days_le (ok_Days___le__ T) (hr.mono (by decide)) T.bd_Days___le__ pass0) (pv 0) (pv 1) (nomark _)) (pe_one (pe_not (pe_cmpR (op_eqO T.eq_Days (ok_Days___eq__ T) (hr.mono (by decide)) T.bd_Days___eq__ pass0) (pv 0) (pv 1) (nomark _))))))), ?_⟩
    refine body_of (pure_start ex nt) ?_
    walk_at "wi"
    refine r_leD T da db fun k1 e1 => ?_
    refine ⟨_, rfl, fun h1 => ?_, fun h1 => ?_⟩
    · walk_at "wi"
      refine r_eqDD T (DayAt.ext e1 da) (DayAt.ext e1 db) ?_
      rw [if_neg Bool.false_ne_true]
      walk_at "wi"
      have := h k1 e1 0
      dsimp only at this
      rw [h1, Bool.true_and] at this
      exact this
    · have := h k1 e1 0
      dsimp only at this
      rw [h1, Bool.false_and] at this
      exact this
theorem ok_Days___ge__ (T : Tx K mg) : FnOk P w K mg base CX0 7 T.f_Days___ge__ T.d_Days___ge__ ["self", "other"] (liftX (bCmp T.c_Days fun t u => subB u t)) := by
  refine T.F_Days___ge__.ok sc_Days___ge__ (fun vs H Q E h => ?_) (fun cdv A outer s H vs Q E hr h => ?_)
  · obtain ⟨kn, _, _, a, b, t, u, rfl, _⟩ := h
    rfl
  · obtain ⟨kn, ex, nt, a, b, t, u, rfl, da, db, h⟩ := h
    refine ⟨_, (pss_one (ps_ret (pe_cmpR (op_cmpO (fun _ _ => rfl) T.cm_Days_le (ok_Days___le__ T) (hr.mono (by decide)) T.bd_Days___le__ pass0) (pv 1) (pv 0) (nomark _)))), ?_⟩
    refine body_of (pure_start ex nt) ?_
    walk_at "wi"
    refine r_leD T db da fun k1 e1 => ?_
    exact h k1 e1 0
theorem ok_Days___gt__ (T : Tx K mg) : FnOk P w K mg base CX0 10 T.f_Days___gt__ T.d_Days___gt__ ["self", "other"] (liftX (bCmp T.c_Days fun t u => subB u t && !decide (u = t))) := by
  refine T.F_Days___gt__.ok sc_Days___gt__ (fun vs H Q E h => ?_) (fun cdv A outer s H vs Q E hr h => ?_)
  · obtain ⟨kn, _, _, a, b, t, u, rfl, _⟩ := h
    rfl
  · obtain ⟨kn, ex, nt, a, b, t, u, rfl, da, db, h⟩ := h
    refine ⟨_, (pss_one (ps_ret (pe_cmpR (op_cmpO (fun _ _ => rfl) T.cm_Days_lt (ok_Days___lt__ T) (hr.mono (by decide)) T.bd_Days___lt__ pass0) (pv 1) (pv 0) (nomark _)))), ?_⟩
    refine body_of (pure_start ex nt) ?_
    walk_at "wi"
    refine r_leD T db da fun k1 e1 => ?_
    exact h k1 e1 0
end

end NN

namespace NN
open PySem PySem.Spec PyProof.Rows L2 LamX AW ClX
open Tx1 Ln
def tabsT {K : PySem.W.Frag} {mg : Str → Option Value} (T : Tx K mg) : List (Addr × Str) := [(T.tp__law_refused_right, "_law_refused_right.<locals>.<lambda>")]
theorem tabs__law_refused_right {K : PySem.W.Frag} {mg : Str → Option Value} (T : Tx K mg) : ∀ p ∈ tabsT T, p.1 = T.tp__law_refused_right → p.2 = "_law_refused_right.<locals>.<lambda>" := by
  intro p hp e
  rcases List.mem_cons.mp hp with rfl | hp
  · rfl
  · cases hp
def bTrue : List V → Hp → AK → AXK → Prop := fun vs kn Q _ => vs = [] ∧ ∀ kn', Ext kn kn' → Q (.bl true) kn'
theorem mo_true : MonoX bTrue := by
  rintro vs kn Q R E F h1 h2 ⟨z1, h⟩
  exact ⟨z1, fun kn' x => h1 _ _ (h kn' x)⟩
/-- (size, rests) -/
structure PlainAt (k : Hp) (q : Addr) (s : Nat) (ys : List Nat) : Prop where
  at_ : ∃ l, k q = some (.tup [.int s, .ref l]) ∧ k l = some (.lst (natV ys))
  pos : 1 ≤ s
  le : s ≤ 7
  lt : ∀ y ∈ ys, y < s
  len : ys.length ≤ 7
theorem PlainAt.ext {k k' : Hp} {q : Addr} {s : Nat} {ys : List Nat} (e : Ext k k') (h : PlainAt k q s ys) : PlainAt k' q s ys := by
  obtain ⟨⟨l, a, b⟩, c, d, f, g⟩ := h
  exact ⟨⟨l, e _ _ a, e _ _ b⟩, c, d, f, g⟩
def hasP (s : Nat) (ys : List Nat) (d : Int) : Bool := decide ((d % (s : Int)).toNat ∈ ys)
def bPlain : List V → Hp → AK → AXK → Prop := fun vs kn Q _ => ∃ l, ∃ ns : List Nat, vs = [.ref l] ∧ kn l = some (.lst (natV ns)) ∧ 0 < ns.length ∧ ns.length ≤ 100 ∧ (∀ n ∈ ns, 1 ≤ n ∧ n ≤ 7) ∧ ∀ q s ys k', Ext kn k' → PlainAt k' q s ys → s ∈ ns → Q (.ref q) k'
theorem mo_plain : MonoX bPlain := by
  rintro vs kn Q R E F h1 h2 ⟨l, ns, a, b, c, d, e, h⟩
  exact ⟨l, ns, a, b, c, d, e, fun q s ys k z1 z2 z3 => h1 _ _ (h q s ys k z1 z2 z3)⟩
def bHasP : List V → Hp → AK → AXK → Prop := fun vs kn Q _ => ∃ q s ys d, vs = [.ref q, .int d] ∧ PlainAt kn q s ys ∧ Q (.bl (hasP s ys d)) kn
theorem mo_hasP : MonoX bHasP := by
  rintro vs kn Q R E F h1 h2 ⟨q, s, ys, d, a, b, h⟩
  exact ⟨q, s, ys, d, a, b, h1 _ _ h⟩
def bSpots : List V → Hp → AK → AXK → Prop := fun vs kn Q _ => vs = [] ∧ ∀ l k', ∀ ns : List Int, Ext kn k' → k' l = some (.lst (ns.map V.int)) → ns.length ≤ 100 → Q (.ref l) k'
theorem mo_spots : MonoX bSpots := by
  rintro vs kn Q R E F h1 h2 ⟨a, h⟩
  exact ⟨a, fun l k ns z1 z2 z3 => h1 _ _ (h l k ns z1 z2 z3)⟩
def fW (w : Int) (x y : Bool) : Bool := if w = 0 then x && y else if w = 1 then x || y else x && !y
def bBound (C : Addr) : List V → Hp → AK → AXK → Prop := fun vs kn Q _ => ∃ w a b t u, vs = [.int w, .ref a, .ref b] ∧ DayAt C kn a t ∧ DayAt C kn b u ∧ Nat.lcm t.length u.length ≤ 7 ∧ ∀ r, Least r → (∀ x, inD r x = fW w (inD t x) (inD u x)) → NewD C kn r Q
theorem mo_bound {C : Addr} : MonoX (bBound C) := by
  rintro vs kn Q R E F h1 h2 ⟨w, a, b, t, u, e, x, y, z, h⟩
  exact ⟨w, a, b, t, u, e, x, y, z, fun r l i s k u1 u2 u3 => h1 _ _ (h r l i s k u1 u2 u3)⟩
section
variable {c : Cw} {kn : Hp} {n : Nat} {σ : L2.St} {Q : V → Hp → Nat → Prop} {K : PySem.W.Frag} {mg : Str → Option Value}
theorem w_lstRg {ta tb : TE} (h : W c (ta σ) kn n fun x kn1 n1 => W c (tb σ) kn1 n1 fun y kn2 n2 => ∃ i j, x = .int i ∧ y = .int j ∧ RgOk i j ∧ ∀ q, kn2 q = none → Q (.ref q) (upd kn2 q (.lst (rgV i j))) n2) : W c (tLstRg (tRg2 ta tb) σ) kn n Q :=
  fun H g Q' q => h H g _ fun x kn1 n1 H1 h1 g1 => h1 H1 g1 _ fun y kn2 n2 H2 ⟨i, j, e1, e2, ok, h2⟩ g2 => ⟨i, j, e1, e2, ok, fun p hp => q _ _ _ _ (h2 p (g2.free hp)) (g2.new hp)⟩
theorem w_xf {a C : Addr} {cls : Value} {d : Option Addr} {f : Str} {te : TE} (h : W c (te σ) kn n fun x kn1 n1 => x = .ref a ∧ cls = .ref C ∧ ∃ (dd : Addr) (fs : List (Str × V)) (v : V), d = some dd ∧ kn1 dd = some (.xd fs) ∧ fs.lookup f = some v ∧ Q v kn1 n1) : W c (tXf a cls d C f te σ) kn n Q :=
  fun H g Q' q => h H g _ fun x kn1 n1 H1 ⟨e1, e2, dd, fs, v, e3, h1, h2, h3⟩ g1 => ⟨e1, e2, dd, fs, v, e3, g1.ex _ _ h1, h2, q _ _ _ _ h3 g1⟩
/-- an object laid where nothing stood, behind what changed nothing -/
theorem Good.lay {kn1 kn' H2 H' : Hp} {n1 m : Nat} {a : Addr} {o : HO} (g2 : AW.Good c kn1 n1 H2) (ha : H2 a = none) (e : Ext kn1 kn') (g' : AW.Good (pureC kn1 H2) kn' m H') : AW.Good c kn1 n1 (upd H' a o) := by
  refine ⟨fun x u hx => ?_, c.step n1 kn1 H2 (upd H' a o) g2.inv g2.res fun x u hx hk => ?_, g2.res, g2.nt⟩
  · rw [upd_ne (fun z => by have := g2.ex _ _ hx; rw [z, ha] at this; cases this)]
    exact g'.ex _ _ (e _ _ hx)
  · rw [upd_ne (fun z => by rw [z, ha] at hx; cases hx)]
    exact g'.inv x u hx hk
end
section
variable {P : Program} {w : World} {K : PySem.W.Frag} {mg : Str → Option Value} {base : Heap}
theorem ok__law_plain (T : Tx K mg) (TT : List (Addr × Str)) : FnOk P w K mg base CX0 4 T.f__law_plain T.d__law_plain ["pen", "some"] (liftP (tabsT T) 9 bPlain) := by
  refine T.F__law_plain.ok sc__law_plain (fun vs H Q E h => ?_) (fun cdv A outer s H vs Q E hr h => ?_)
  · obtain ⟨p, a, ns, n, kn, ws, rfl, _, _, l, xs, rfl, _⟩ := h
    rfl
  · obtain ⟨p, a, ns, n, kn, ws, rfl, g, hn, l, xs, rfl, hl, x0, x1, hx, h⟩ := h
    refine ⟨_, (pss_cons (ps_set (i := 2) sc__law_plain.nd rfl (by first | exact Or.inl rfl | exact Or.inr rfl) (pe_call (ok__law_pick T (tabsT T)) (hr.mono (by decide)) (by rfl) T.g__law_pick T.F__law_pick.kp T.bd__law_pick .nil pass0 (pa_cons (pv 0) (pa_cons (pv 1) pa_nil))))
       (pss_one (ps_ret (pe_tup (pa_cons (pv 2) (pa_cons (pe_lc (own := [("rest", 3)]) (g := gName 3) (by rfl) sc__law_plain.nd (pi_range1 (by rfl) T.b_range (pa_cons (pv 2) pa_nil)) (blkOk_by (own := [("rest", 3)]) (N := ["pen", "some", "size", "rest"]) (sc := defScope s__law_plain) (by decide +kernel)) (fun _ _ _ _ _ => pg_name (i := 3) sc__law_plain.nd rfl (Or.inl rfl)) (fun _ _ _ _ _ => (pts_one (pt_cmpR op_eq (pe_call (ok__law_draw T) (hr.mono (by decide)) (by rfl) T.g__law_draw T.F__law_draw.kp T.bd__law_draw .nil pass0 (pa_cons (pv 0) (pa_cons pe_int pa_nil))) pe_int (nomark _)))) (fun _ _ _ _ _ => (pv 3))) pa_nil)))))), ?_⟩
    refine body_of g ?_
    walk_at "w"
    refine w_callP mo_pick err_no ?_
    walk_at "w"
    refine ⟨by omega, l, _, rfl, hl, by rw [List.length_map]; exact x0, by rw [List.length_map]; omega, fun v hv => ?_⟩
    obtain ⟨s, hs, rfl⟩ := List.mem_map.1 hv
    obtain ⟨s1, s7⟩ := hx s hs
    walk_at "w"
    refine w_lcOver (s := s) rfl (fun _ => rfl) (fun _ => rfl) (fun _ => rfl) (by omega) (by omega) fun l2 ys n2 hl2 ysl yl n2l => ?_
    walk_at "w"
    refine ⟨show 2 ≤ 1000 by decide, fun q hq => ?_⟩
    exact fin_at (by omega) (h q s ys _ (ext_tr (ext_new hl2) (ext_new hq)) ⟨⟨l2, upd_same, know hq upd_same⟩, s1, s7, ysl, by omega⟩ hs)
theorem ok__law_has (T : Tx K mg) : FnOk P w K mg base CX0 1 T.f__law_has T.d__law_has ["plain", "d"] (liftX bHasP) := by
  refine T.F__law_has.ok sc__law_has (fun vs H Q E h => ?_) (fun cdv A outer s H vs Q E hr h => ?_)
  · obtain ⟨kn, _, _, q, s, ys, d, rfl, _⟩ := h
    rfl
  · obtain ⟨kn, ex, nt, q, s, ys, d, rfl, pa, h⟩ := h
    obtain ⟨l, a1, a2⟩ := pa.at_
    have s1 := pa.pos
    refine ⟨_, (pss_one (ps_ret (pe_cmpR (show OpR _ _ (rInQ K false) from c_inQ) (pe_op op_mod (pe_callTy c_int (by rfl) T.b_int boot_int (pa_cons (pv 1) pa_nil)) (pe_ix ix_tup (pv 0) pe_int (fun _ _ => rfl))) (pe_ix ix_tup (pv 0) pe_int (fun _ _ => rfl)) (by rfl)))), ?_⟩
    refine body_of (pure_start ex nt) ?_
    walk_at "w"
    refine r_I (by omega) ?_
    walk_at "w"
    have h0 := Int.emod_nonneg d (show (s : Int) ≠ 0 by omega)
    unfold hasP at h
    obtain ⟨r, hr⟩ : ∃ r : Nat, d % (s : Int) = r := ⟨(d % (s : Int)).toNat, by omega⟩
    rw [hr] at h ⊢
    rw [Int.toNat_natCast] at h
    refine r_inQ (.inl a2) rfl (flat_nats _) ?_
    rw [inV_nat, if_neg Bool.false_ne_true]
    exact h 0
theorem ok__law_spots (T : Tx K mg) (TT : List (Addr × Str)) : FnOk P w K mg base CX0 4 T.f__law_spots T.d__law_spots ["pen"] (liftP (tabsT T) 2 bSpots) := by
  refine T.F__law_spots.ok sc__law_spots (fun vs H Q E h => ?_) (fun cdv A outer s H vs Q E hr h => ?_)
  · obtain ⟨p, a, ns, n, kn, ws, rfl, _, _, rfl, _⟩ := h
    rfl
  · obtain ⟨p, a, ns, n, kn, ws, rfl, g, hn, rfl, h⟩ := h
    refine ⟨_, (pss_one (ps_ret (pe_op op_cat (pe_listRg rfl (by rfl) T.b_list (prg_2 (by rfl) T.b_range (pe_un un_neg pe_int) pe_int)) (pe_lst (pa_cons (pe_op op_add (pe_op op_pow pe_int pe_int) (pe_call (ok__law_draw T) (hr.mono (by decide)) (by rfl) T.g__law_draw T.F__law_draw.kp T.bd__law_draw .nil pass0 (pa_cons (pv 0) (pa_cons pe_int pa_nil)))) (pa_cons (pe_op op_sub (pe_call (ok__law_draw T) (hr.mono (by decide)) (by rfl) T.g__law_draw T.F__law_draw.kp T.bd__law_draw .nil pass0 (pa_cons (pv 0) (pa_cons pe_int pa_nil))) (pe_op op_pow pe_int pe_int)) pa_nil)))))), ?_⟩
    refine body_of g ?_
    walk_at "w"
    refine w_lstRg ?_
    walk_at "w"
    refine ⟨-45, 45, rfl, rfl, ⟨by decide, by decide, by decide⟩, fun q1 h1 => ?_⟩
    walk_at "w"
    refine r_I ⟨by decide, by decide, by decide⟩ ?_
    walk_at "w"
    refine w_draw ?_
    walk_at "w"
    refine ⟨by omega, by decide, by decide, fun c1 c10 c11 => ?_⟩
    walk_at "w"
    refine w_draw ?_
    walk_at "w"
    refine ⟨by omega, by decide, by decide, fun c2 c20 c21 => ?_⟩
    walk_at "w"
    refine r_I ⟨by decide, by decide, by decide⟩ ?_
    walk_at "w"
    refine ⟨show 2 ≤ 1000 by decide, fun q2 h2 => ?_⟩
    refine r_cat (know h2 upd_same) upd_same (show (rgV (-45) 45).length + 2 ≤ 1000 by rw [rgV_length]; decide) fun q3 h3 => ?_
    have e : rgV (-45) 45 ++ [V.int (10 ^ (30 : Int).toNat + c1), .int (c2 - 10 ^ (30 : Int).toNat)] = (((List.range (45 - (-45) : Int).toNat).map fun i => (-45 : Int) + (i : Nat)) ++ [10 ^ (30 : Int).toNat + c1, c2 - 10 ^ (30 : Int).toNat]).map V.int := by
      rw [List.map_append, List.map_map]
      rfl
    rw [e]
    exact fin_at (by omega) (h q3 _ _ (ext_tr (ext_new h1) (ext_tr (ext_new h2) (ext_new h3))) upd_same (by rw [List.length_append, List.length_map, List.length_range]; exact (show 90 + 2 ≤ 100 by decide)))
theorem ok__law_bound (T : Tx K mg) : FnOk P w K mg base CX0 9 T.f__law_bound T.d__law_bound ["way", "one", "other"] (liftX (bBound T.c_Days)) := by
  refine T.F__law_bound.ok sc__law_bound (fun vs H Q E h => ?_) (fun cdv A outer s H vs Q E hr h => ?_)
  · obtain ⟨kn, _, _, w, a, b, t, u, rfl, _⟩ := h
    rfl
  · obtain ⟨kn, ex, nt, w, a, b, t, u, rfl, da, db, l7, h⟩ := h
    obtain ⟨dx, q, z1, z2⟩ := da.at_
    obtain ⟨dx', q', y1, y2⟩ := db.at_
    refine ⟨_, (pss_cons (ps_set (i := 3) sc__law_bound.nd rfl (by first | exact Or.inl rfl | exact Or.inr rfl) (pv 1))
       (pss_cons (ps_if (pt_cmpR op_eq (pv 0) pe_int (nomark _))
       (pss_one (ps_aug (i := 3) sc__law_bound.nd rfl (by first | exact Or.inl rfl | exact Or.inr rfl) (pv 2) (ip_own T.op_Days_and T.ip_Days_and (ok_Days___and__ T) (hr.mono (by decide)) T.bd_Days___and__ passL)))
       (pss_one (ps_if (pt_cmpR op_eq (pv 0) pe_int (nomark _))
       (pss_one (ps_aug (i := 3) sc__law_bound.nd rfl (by first | exact Or.inl rfl | exact Or.inr rfl) (pv 2) (ip_own T.op_Days_or T.ip_Days_or (ok_Days___or__ T) (hr.mono (by decide)) T.bd_Days___or__ passL)))
       (pss_one (ps_aug (i := 3) sc__law_bound.nd rfl (by first | exact Or.inl rfl | exact Or.inr rfl) (pv 2) (ip_own T.op_Days_sub T.ip_Days_sub (ok_Days___sub__ T) (hr.mono (by decide)) T.bd_Days___sub__ passL))))))
       (pss_one (ps_ret (pv 3))))), ?_⟩
    refine body_of (pure_start ex nt) ?_
    have go : ∀ {op : Operator} {f : Bool → Bool → Bool} {Q' : V → Hp → Nat → Prop} {n : Nat}, (∀ x y, f x y = fW w x y) → (∀ v k, (∀ H', AW.Good (pureC kn H) k n H' → Q v H') → Q' v k n) → W (pureC kn H) (rOwn K op T.c_Days (liftX (bJoin f T.c_Days T.c_TooMany)) E0 (.ref a) (.ref b)) kn n Q' := fun {op f Q' n} hf hq =>
      r_own (EA := fun _ _ _ _ => False) mo_join err_no z1 (T.own_Days.ty y1) .own ⟨a, b, t, u, rfl, da, db, fun _ r l i x k e n' d => hq _ _ fun H' g' => h r l (fun x => by rw [i, hf]) x k e n' d n H' g', fun z => by omega⟩
    walk_at "wi"
    rw [int_eq]
    refine ⟨fun hb => ?_, fun hb => ?_⟩
    · have hb := of_decide_eq_true hb
      walk_at "wi"
      refine go (fun x y => by unfold fW; rw [if_pos hb]) fun v k hv => ?_
      walk_at "wi"
      exact hv
    · have hb := of_decide_eq_false hb
      walk_at "wi"
      rw [int_eq]
      refine ⟨fun hc => ?_, fun hc => ?_⟩
      · have hc := of_decide_eq_true hc
        walk_at "wi"
        refine go (fun x y => by unfold fW; rw [if_neg hb, if_pos hc]) fun v k hv => ?_
        walk_at "wi"
        exact hv
      · have hc := of_decide_eq_false hc
        walk_at "wi"
        refine go (fun x y => by unfold fW; rw [if_neg hb, if_neg hc]) fun v k hv => ?_
        walk_at "wi"
        exact hv
def EAm (T : Tx K mg) (Q : V → Hp → Nat → Prop) : EAK := fun cls d kn n =>
  cls = .ref T.c_TooMany ∧ ∃ dd, d = some dd ∧ kn dd = some (.xd [("most", .int 7), ("what", .str "days")]) ∧ Q (.bl true) kn n
def TTm (T : Tx K mg) : (XK → Hp → VK → Prop) → Hp → VK → Prop := fun tl H Q => ∃ (c : Cw) (kn : Hp) (n : Nat) (QA : V → Hp → Nat → Prop), AW.Good c kn n H ∧ (∀ v kn' n' H', QA v kn' n' → AW.Good c kn' n' H' → Q v H') ∧
  ∀ E, ErrOk c (EAm T QA) E → W c (fun H' Q' => tl E H' Q') kn n fun v kn1 n1 => QA (.bl false) kn1 n1
theorem w_lamM (T : Tx K mg) {p a : Addr} {ns : List Int} {TT : List (Addr × Str)} {kn : Hp} {n : Nat} {σ : L2.St} {Q : V → Hp → Nat → Prop} {tt : XK → TE}
    (h : ∀ E, ErrOk (penC p a ns TT) (EAm T Q) E → W (penC p a ns TT) (tt E σ) kn n fun v kn1 n1 => Q (.bl false) kn1 n1) : W (penC p a ns TT) (tLam TT (TTm T) tt σ) kn n Q :=
  fun H g Q' q => ⟨g.inv.2, fun H1 e hT => ⟨penC p a ns TT, kn, n, Q, good_lam g e hT, q, h⟩⟩
/-- _law_many -/
theorem gives_many (T : Tx K mg) {X : Cx} {q : Str} {cdg : Value} (hP : X.prog = P) (hw : X.w = w) (hK : X.K = K) (hmg : X.mg = mg) (hrX : Room 8 X.A) : GivesTo X ["ask", "error"] "_law_many" (defScope s__law_many) T.f__law_many cdg (defBody s__law_many) "ask" q (TTm T) := by
  subst hP hw hK hmg
  intro f c' s H Q tl hask hc hTT
  obtain ⟨c, kn, n, QA, g, hQ, hb⟩ := hTT
  have hr := hrX.deeper (envOfC "_law_many" (defScope s__law_many) s.heap.objs.size T.f__law_many cdg)
  refine ⟨_, (pss_cons (ps_try_keepR (i := 1) rfl rfl rfl sc__law_many.nd rfl rfl ⟨(by rfl), (by decide), .inl T.g_TooMany⟩ (fun W pn xe tk po =>
       (pss_one (ps_expr (hask (fun cls d σ H => σ.length = 2 → W cls d σ H) _ _ (fun cls d H' => ∀ σ', σ'.length = 2 → W cls d σ' H') _ _ (takes_len tk) (fun _ _ σ' _ h hl => h σ' hl))))) (fun aX oX clsX dX pnX zX vX =>
       (pss_one (ps_ret (pe_ifExp (pt_cmpR (show OpR _ _ (rEqD X.K) from op_eqD hr.units) (pe_tup (pa_cons (pe_xf T.xf_TooMany T.nx_TooMany_what zX vX (pv 1)) (pa_cons (pe_xf T.xf_TooMany T.nx_TooMany_most zX vX (pv 1)) pa_nil))) (pe_tup (pa_cons pe_str (pa_cons pe_int pa_nil))) (nomark _)) pe_bl pe_non)))))
       (pss_one (ps_ret pe_bl))), ?_⟩
  refine ⟨rfl, hc, ?_⟩
  refine hb _ ?err _ g _ ?post
  case post =>
    rintro v kn1 n1 H2 hq g2
    dsimp only
    refine body_of (c := c) g2 ?_
    walk_at "wi"
    exact fun H' g' => hQ _ _ _ _ hq g'
  case err =>
    rintro cls d kn1 n1 H2 ⟨rfl, dd, rfl, hd, he⟩ g2
    intro σ' hσ
    have hσ' : ∃ x0 x1, σ' = [x0, x1] := by
      match σ', hσ with
      | [x0, x1], _ => exact ⟨x0, x1, rfl⟩
    obtain ⟨x0, x1, rfl⟩ := hσ'
    refine ⟨T.exm_TooMany, fun a ha => ?_⟩
    refine (?hW : W (pureC kn1 H2) _ kn1 0 fun v k m => v = .bl true ∧ Ext kn1 k) H2 (pure_start g2.ex g2.nt) _ fun v k m H' hv g' => ?_
    case hW =>
      walk_at "w"
      refine w_xf ?_
      walk_at "w"
      refine ⟨dd, _, _, rfl, hd, rfl, ?_⟩
      walk_at "w"
      refine w_xf ?_
      walk_at "w"
      refine ⟨dd, _, _, rfl, hd, rfl, ?_⟩
      walk_at "w"
      refine ⟨show 2 ≤ 1000 by decide, fun q1 h1 => ?_⟩
      walk_at "w"
      refine ⟨show 2 ≤ 1000 by decide, fun q2 h2 => ?_⟩
      refine r_eq_d (.tup (sqt (know h2 upd_same)) (.cons (.str _) (.cons (.int _) .nil))) (.tup (sqt upd_same) (.cons (.str _) (.cons (.int _) .nil))) (by decide +kernel) (by decide +kernel) ?_
      rw [show PyData.eqv (.tuple [.str "days", .int 7]) (.tuple [.str "days", .int 7]) = true by decide +kernel]
      walk_at "w"
      exact ⟨rfl, ext_tr (ext_new h1) (ext_new h2)⟩
    obtain ⟨rfl, e⟩ := hv
    exact hQ _ _ _ _ he (Good.lay g2 ha e g')
end

end NN

namespace NN
open PySem PySem.Spec PyProof.Rows L2 LamX AW ClX
open Tx1 Ln
def bl : Nat → List (List Bool)
  | 0 => [[]]
  | n + 1 => (bl n).flatMap fun t => [false :: t, true :: t]
theorem mem_bl : ∀ t : List Bool, t ∈ bl t.length
  | [] => by simp [bl]
  | b :: t => by
    simp only [List.length_cons, bl, List.mem_flatMap]
    exact ⟨t, mem_bl t, by cases b <;> simp⟩
def masks : List (List Bool) := (List.range 7).flatMap fun n => bl (n + 1)
theorem mem_masks {t : List Bool} (h1 : 1 ≤ t.length) (h2 : t.length ≤ 7) : t ∈ masks := by
  unfold masks
  rw [List.mem_flatMap]
  refine ⟨t.length - 1, List.mem_range.2 (by omega), ?_⟩
  rw [show t.length - 1 + 1 = t.length by omega]
  exact mem_bl t
theorem dp_strs {K : PySem.W.Frag} {H : Hp} : ∀ ns : List Str, DpAll K H (strV ns) (ns.map PyData.str)
  | [] => .nil
  | n :: r => .cons (.str n) (dp_strs r)
theorem lay_strs : ∀ ns : List Str, (∀ s ∈ ns, PyData.strOk s = true) → PyData.canLayAll0 (ns.map PyData.str) = true
  | [], _ => by simp [PyData.canLayAll0]
  | n :: r, h => by simp only [List.map_cons, PyData.canLayAll0, PyData.canLay0]; rw [h n List.mem_cons_self, lay_strs r (fun s hs => h s (List.mem_cons_of_mem _ hs))]; rfl
theorem deep_strs : ∀ ns : List Str, PyData.depthAll (ns.map PyData.str) = 0
  | [] => by simp [PyData.depthAll]
  | n :: r => by simp only [List.map_cons, PyData.depthAll, PyData.depth]; rw [deep_strs r]; rfl
theorem shaped_strs (ns : List Str) (h : ∀ s ∈ ns, PyData.strOk s = true) : SeqAt.shaped (.list (ns.map PyData.str)) = true := by
  unfold SeqAt.shaped
  rw [show PyData.canLay0 (.list (ns.map PyData.str)) = true by simp only [PyData.canLay0]; exact lay_strs ns h, show PyData.depth (.list (ns.map PyData.str)) = 1 by simp only [PyData.depth]; rw [deep_strs ns]]
  rfl
theorem eqv_strs : ∀ a b : List Str, PyData.eqvAll (a.map PyData.str) (b.map PyData.str) = decide (a = b)
  | [], [] => by simp [PyData.eqvAll]
  | [], _ :: _ => by simp [PyData.eqvAll]
  | _ :: _, [] => by simp [PyData.eqvAll]
  | x :: a, y :: b => by
    simp only [List.map_cons, PyData.eqvAll, PyData.eqv, eqv_strs a b]
    rw [Bool.eq_iff_iff]
    simp
theorem eqv_strL (a b : List Str) : PyData.eqv (.list (a.map PyData.str)) (.list (b.map PyData.str)) = decide (a = b) := by
  simp only [PyData.eqv]
  exact eqv_strs a b
theorem ok_all : (masks.all fun t => PyData.strOk (dT t)) = true := by decide +kernel
theorem ok_dT {t : List Bool} (h : Least t) : PyData.strOk (dT t) = true := List.all_eq_true.1 ok_all t (mem_masks h.pos h.le)
theorem r_neStrs {K : PySem.W.Frag} {c : Cw} {kn : Hp} {n : Nat} {Q : V → Hp → Nat → Prop} {a b : Addr} {ws : List Str} (h1 : kn a = some (.lst (strV ws))) (h2 : kn b = some (.lst (strV ws))) (ok : ∀ s ∈ ws, PyData.strOk s = true) (q : Q (.bl false) kn n) : W c (rNeD K (.ref a) (.ref b)) kn n Q := by
  refine r_ne_d (.lst (sql h1) (dp_strs ws)) (.lst (sql h2) (dp_strs ws)) (shaped_strs _ ok) (shaped_strs _ ok) ?_
  rw [eqv_strL, decide_eq_true rfl]
  exact q
theorem kput {kb k : Hp} {l : Addr} {o : HO} (h : kb l = none) (e : Ext kb k) : Ext kb (upd k l o) := fun y v hy => by
  rw [upd_ne (fun z => by rw [z, h] at hy; cases hy)]
  exact e y v hy
theorem mem_dvd {s : Nat} {ys : List Nat} (h1 : 1 ≤ s) : (formT s ys).length ∣ s := by
  rw [form_len]
  have := leastP_per (t := maskOf s ys) (by rw [mask_len]; omega)
  rw [mask_len] at this
  exact Nat.dvd_of_mod_eq_zero this.1
theorem inD_plain {s : Nat} {ys : List Nat} (h1 : 1 ≤ s) (d : Int) : inD (formT s ys) d = hasP s ys d := inD_form h1 d
def bJR : List V → Hp → AK → AXK → Prop := fun vs kn Q _ => ∃ q s ys q' s' ys', vs = [.ref q, .ref q'] ∧ PlainAt kn q s ys ∧ PlainAt kn q' s' ys' ∧ Nat.lcm s s' ≤ 7 ∧ ∀ kn', Ext kn kn' → Q (.bl true) kn'
theorem mo_JR : MonoX bJR := by
  rintro vs kn Q R E F h1 h2 ⟨q, s, ys, q', s', ys', a, b, c, d, h⟩
  exact ⟨q, s, ys, q', s', ys', a, b, c, d, fun kn' x => h1 _ _ (h kn' x)⟩
theorem lcm_form {s s' : Nat} {ys ys' : List Nat} (h1 : 1 ≤ s) (h2 : 1 ≤ s') (h : Nat.lcm s s' ≤ 7) : Nat.lcm (formT s ys).length (formT s' ys').length ≤ 7 := by
  refine Nat.le_trans (Nat.le_of_dvd (Nat.lcm_pos h1 h2) ?_) h
  exact Nat.lcm_dvd (Nat.dvd_trans (mem_dvd h1) (Nat.dvd_lcm_left _ _)) (Nat.dvd_trans (mem_dvd h2) (Nat.dvd_lcm_right _ _))
section
variable {c : Cw} {kn : Hp} {n : Nat} {σ : L2.St} {Q : V → Hp → Nat → Prop} {K : PySem.W.Frag} {mg : Str → Option Value}
/-- Days(plain[0], plain[1]) -/
theorem w_dayP {C B : Addr} {E : XK} {i : Nat} {q : Addr} {s : Nat} {ys : List Nat} (hv : σ[i]? = some (some (.ref q))) (pa : PlainAt kn q s ys) (k : ∀ a k', Ext kn k' → kn a = none → DayAt C k' a (formT s ys) → Q (.ref a) k' n) :
    W c (tMake C (liftX (bInit K C B)) [] E (tCons (tOp (rIxT K) (tVar i) (tC (.int 0))) (tCons (tOp (rIxT K) (tVar i) (tC (.int 1))) tNil)) σ) kn n Q := by
  obtain ⟨l, a1, a2⟩ := pa.at_
  refine w_days (EA := fun _ _ _ _ => False) err_no ?_
  refine w_cons (w_op (w_var hv (w_c (r_ixT a1 (by rfl) (w_cons (w_op (w_var hv (w_c (r_ixT a1 (by rfl) (w_nil ⟨_, _, rfl, make_good pa.pos pa.le pa.lt (by have := pa.len; omega) ⟨l, rfl, .inl a2⟩ fun x k' e n d => ?_⟩))))))))))
  exact k x k' e n d
/-- one op other, both own -/
theorem r_join (T : Tx K mg) {op : Operator} {f : Bool → Bool → Bool} {E : XK} {a b : Addr} {t u : List Bool} (da : DayAt T.c_Days kn a t) (db : DayAt T.c_Days kn b u) (l7 : Nat.lcm t.length u.length ≤ 7)
    (k : ∀ r x k', Least r → (∀ x, inD r x = f (inD t x) (inD u x)) → Ext kn k' → kn x = none → DayAt T.c_Days k' x r → Q (.ref x) k' n) : W c (rOwn K op T.c_Days (liftX (bJoin f T.c_Days T.c_TooMany)) E (.ref a) (.ref b)) kn n Q := by
  obtain ⟨dx, q, z1, z2⟩ := da.at_
  obtain ⟨dx', q', y1, y2⟩ := db.at_
  exact r_own (EA := fun _ _ _ _ => False) mo_join err_no z1 (T.own_Days.ty y1) .own ⟨a, b, t, u, rfl, da, db, fun _ r l i x k' e n' d => k r x k' l i e n' d, fun z => by omega⟩
theorem r_inv (T : Tx K mg) {E : XK} {a : Addr} {t : List Bool} (da : DayAt T.c_Days kn a t)
    (k : ∀ r x k', Least r → (∀ x, inD r x = !inD t x) → Ext kn k' → kn x = none → DayAt T.c_Days k' x r → Q (.ref x) k' n) : W c (rUnO T.c_Days (liftX (bInv T.c_Days)) E (.ref a)) kn n Q := by
  obtain ⟨dx, q, z1, z2⟩ := da.at_
  exact fun H g Q' qq => ⟨a, dx, _, rfl, g.ex _ _ z1, sp_call (EA := fun _ _ _ _ => False) mo_inv err_no ⟨a, t, rfl, da, fun r l i x k' e n d => k r x k' l i e n d⟩ H g Q' qq⟩
end
theorem day_put {C : Addr} {k : Hp} {l a : Addr} {t : List Bool} {xs : List V} {o : HO} (hl : k l = some (.lst xs)) (h : DayAt C k a t) : DayAt C (upd k l o) a t := by
  obtain ⟨⟨dx, q, a1, a2⟩, f⟩ := h
  refine ⟨⟨dx, q, ?_, ?_⟩, f⟩
  · rw [upd_ne (fun z => by rw [z, hl] at a1; cases a1)]; exact a1
  · rw [upd_ne (fun z => by rw [z, hl] at a2; cases a2)]; exact a2
theorem pick_w (x y : Bool) : (fW 0 x y = (x && y)) ∧ (fW 1 x y = (x || y)) ∧ fW 2 x y = andn x y := ⟨rfl, rfl, rfl⟩
section
variable {P : Program} {w : World} {K : PySem.W.Frag} {mg : Str → Option Value} {base : Heap}
theorem ok__law_joined_right (T : Tx K mg) (TT : List (Addr × Str)) : FnOk P w K mg base CX0 14 T.f__law_joined_right T.d__law_joined_right ["pen", "plain", "more"] (liftP (tabsT T) 2 bJR) := by
  refine T.F__law_joined_right.ok sc__law_joined_right (fun vs H Q E h => ?_) (fun cdv A outer s H vs Q E hr h => ?_)
  · obtain ⟨p, a, ns, n, kn, ws, rfl, _, _, q, s, ys, q', s', ys', rfl, _⟩ := h
    rfl
  · obtain ⟨p, a, ns, n, kn, ws, rfl, g, hn, q, s, ys, q', s', ys', rfl, pa, pb, l7, h⟩ := h
    have l7f := lcm_form (ys := ys) (ys' := ys') pa.pos pb.pos l7
    have ia := inD_plain (ys := ys) pa.pos
    have ib := inD_plain (ys := ys') pb.pos
    refine ⟨_, (pss_cons (ps_asg (pe_tup (pa_cons (pe_make T.mk_Days (ok_Days___init__ T) (hr.mono (by decide)) (by rfl) T.g_Days T.bd_Days___init__ .nil passL (pa_cons (pe_ix ix_tup (pv 1) pe_int (fun _ _ => rfl)) (pa_cons (pe_ix ix_tup (pv 1) pe_int (fun _ _ => rfl)) pa_nil))) (pa_cons (pe_make T.mk_Days (ok_Days___init__ T) (hr.mono (by decide)) (by rfl) T.g_Days T.bd_Days___init__ .nil passL (pa_cons (pe_ix ix_tup (pv 2) pe_int (fun _ _ => rfl)) (pa_cons (pe_ix ix_tup (pv 2) pe_int (fun _ _ => rfl)) pa_nil))) pa_nil))) (pg_tup (by rfl) (pgs_cons (pg_name (i := 3) sc__law_joined_right.nd rfl (by first | exact Or.inl rfl | exact Or.inr rfl)) (pgs_cons (pg_name (i := 4) sc__law_joined_right.nd rfl (by first | exact Or.inl rfl | exact Or.inr rfl)) pgs_nil))))
       (pss_cons (ps_par (i := 5) (j := 6) (by rfl) sc__law_joined_right.nd rfl rfl (by decide) rfl rfl (pa_cons (pe_lst (pa_cons (pe_callTy (c_strO T.sm_Days___str__ (ok_Days___str__ T) (hr.mono (by decide)) T.bd_Days___str__ pass0) (by rfl) T.b_str (by decide +kernel) (pa_cons (pv 3) pa_nil)) (pa_cons (pe_callTy (c_strO T.sm_Days___str__ (ok_Days___str__ T) (hr.mono (by decide)) T.bd_Days___str__ pass0) (by rfl) T.b_str (by decide +kernel) (pa_cons (pv 4) pa_nil)) pa_nil))) (pa_cons (pe_call (ok__law_spots T (tabsT T)) (hr.mono (by decide)) (by rfl) T.g__law_spots T.F__law_spots.kp T.bd__law_spots .nil pass0 (pa_cons (pv 0) pa_nil)) pa_nil)) (by rfl))
       (pss_cons (ps_set (i := 7) sc__law_joined_right.nd rfl (by first | exact Or.inl rfl | exact Or.inr rfl) (pe_lst (pa_cons (pe_op (op_own T.op_Days_and (ok_Days___and__ T) (hr.mono (by decide)) T.bd_Days___and__ passL) (pv 3) (pv 4)) (pa_cons (pe_op (op_own T.op_Days_or (ok_Days___or__ T) (hr.mono (by decide)) T.bd_Days___or__ passL) (pv 3) (pv 4)) (pa_cons (pe_op (op_own T.op_Days_sub (ok_Days___sub__ T) (hr.mono (by decide)) T.bd_Days___sub__ passL) (pv 3) (pv 4)) (pa_cons (pe_un (un_invO T.fi_Days___invert__ T.isf_Days___invert__ (ok_Days___invert__ T) (hr.mono (by decide)) T.bd_Days___invert__ pass0) (pv 3)) pa_nil))))))
       (pss_cons (ps_for PassesOwn.never rfl (pi_list (pv 6)) (pg_name (i := 8) sc__law_joined_right.nd rfl (by first | exact Or.inl rfl | exact Or.inr rfl))
       (pss_cons (ps_par (i := 9) (j := 10) (by rfl) sc__law_joined_right.nd rfl rfl (by decide) rfl rfl (pa_cons (pe_call (ok__law_has T) (hr.mono (by decide)) (by rfl) T.g__law_has T.F__law_has.kp T.bd__law_has .nil pass0 (pa_cons (pv 1) (pa_cons (pv 8) pa_nil))) (pa_cons (pe_call (ok__law_has T) (hr.mono (by decide)) (by rfl) T.g__law_has T.F__law_has.kp T.bd__law_has .nil pass0 (pa_cons (pv 2) (pa_cons (pv 8) pa_nil))) pa_nil)) (by rfl))
       (pss_one (ps_if (pt_cmpR (op_neD hr.units) (pe_lc (own := [("some", 11)]) (g := gName 11) (by rfl) sc__law_joined_right.nd (pi_list (pv 7)) (blkOk_by (own := [("some", 11)]) (N := ["pen", "plain", "more", "one", "other", "kept", "spots", "made", "d", "here", "there", "some", "way"]) (sc := defScope s__law_joined_right) (by decide +kernel)) (fun _ _ _ _ _ => pg_name (i := 11) sc__law_joined_right.nd rfl (Or.inl rfl)) (fun _ _ _ _ _ => pts_nil) (fun _ _ _ _ _ => (pe_cmpR (op_inO T.sm_Days___contains__ (ok_Days___contains__ T) (hr.mono (by decide)) T.bd_Days___contains__ pass0) (pv 8) (pv 11) (by rfl)))) (pe_lst (pa_cons (pe_and (pv 9) (pe_one (pv 10))) (pa_cons (pe_or (pv 9) (pe_one (pv 10))) (pa_cons (pe_and (pv 9) (pe_one (pe_not (pv 10)))) (pa_cons (pe_not (pv 9)) pa_nil))))) (nomark _))
       (pss_one (ps_ret pe_bl))
       pss_nil))))
       (pss_cons (ps_if (PW.pt (pw_or (pt_cmpR (op_neLO T.eq_Days (ok_Days___eq__ T) (hr.mono (by decide)) T.bd_Days___eq__ pass0) (pe_lc (own := [("way", 12)]) (g := gName 12) (by rfl) sc__law_joined_right.nd (pi_range1 (by rfl) T.b_range (pa_cons pe_int pa_nil)) (blkOk_by (own := [("way", 12)]) (N := ["pen", "plain", "more", "one", "other", "kept", "spots", "made", "d", "here", "there", "some", "way"]) (sc := defScope s__law_joined_right) (by decide +kernel)) (fun _ _ _ _ _ => pg_name (i := 12) sc__law_joined_right.nd rfl (Or.inl rfl)) (fun _ _ _ _ _ => pts_nil) (fun _ _ _ _ _ => (pe_call (ok__law_bound T) (hr.mono (by decide)) (by rfl) T.g__law_bound T.F__law_bound.kp T.bd__law_bound .nil pass0 (pa_cons (pv 12) (pa_cons (pv 3) (pa_cons (pv 4) pa_nil)))))) (pe_slice (show SlR _ (rSlL K) from sl_list) (pv 7) po_none (po_some pe_int)) (nomark _)) (pw_or1 (pt_cmpR (op_neD hr.units) (pe_lst (pa_cons (pe_callTy (c_strO T.sm_Days___str__ (ok_Days___str__ T) (hr.mono (by decide)) T.bd_Days___str__ pass0) (by rfl) T.b_str (by decide +kernel) (pa_cons (pv 3) pa_nil)) (pa_cons (pe_callTy (c_strO T.sm_Days___str__ (ok_Days___str__ T) (hr.mono (by decide)) T.bd_Days___str__ pass0) (by rfl) T.b_str (by decide +kernel) (pa_cons (pv 4) pa_nil)) pa_nil))) (pv 5) (nomark _)))))
       (pss_one (ps_ret pe_bl))
       pss_nil)
       (pss_one (ps_ret (pe_and (pe_cmpR (op_eqO T.eq_Days (ok_Days___eq__ T) (hr.mono (by decide)) T.bd_Days___eq__ pass0) (pe_un (un_invO T.fi_Days___invert__ T.isf_Days___invert__ (ok_Days___invert__ T) (hr.mono (by decide)) T.bd_Days___invert__ pass0) (pe_ix (show IxR _ (rIxL K) from ix_list) (pv 7) pe_int (fun _ _ => rfl))) (pv 3) (nomark _)) (pe_and (pe_cmpR (op_eqO T.eq_Days (ok_Days___eq__ T) (hr.mono (by decide)) T.bd_Days___eq__ pass0) (pe_op (op_own T.op_Days_and (ok_Days___and__ T) (hr.mono (by decide)) T.bd_Days___and__ passL) (pv 3) (pv 3)) (pv 3) (nomark _)) (pe_one (pe_cmpR (op_eqO T.eq_Days (ok_Days___eq__ T) (hr.mono (by decide)) T.bd_Days___eq__ pass0) (pe_op (op_own T.op_Days_sub (ok_Days___sub__ T) (hr.mono (by decide)) T.bd_Days___sub__ passL) (pv 3) (pv 3)) (pe_smeth0 (pe_glob (v := .ref T.c_Days) (by rfl) T.g_Days rfl) T.cr_Days T.sme_Days_none (oR_Days_none T) (hr.mono (by decide)) pass0) (nomark _)))))))))))), ?_⟩
    refine body_of g ?_
    walk_at "w"
    refine w_dayP rfl pa fun a1 k1 e1 n1 d1 => ?_
    walk_at "w"
    refine w_dayP rfl (PlainAt.ext e1 pb) fun a2 k2 e2 n2 d2 => ?_
    walk_at "w"
    refine ⟨show 2 ≤ 1000 by decide, fun q0 hq0 => ?_⟩
    refine g_tup upd_same rfl ?_
    walk_at "w"
    have d1 := DayAt.ext (ext_tr e2 (ext_new (o := .tup [.ref a1, .ref a2]) hq0)) d1
    have d2 := DayAt.ext (ext_new (o := .tup [.ref a1, .ref a2]) hq0) d2
    have e3 := ext_tr e1 (ext_tr e2 (ext_new (o := .tup [.ref a1, .ref a2]) hq0))
    generalize upd k2 q0 (.tup [.ref a1, .ref a2]) = k3 at d1 d2 e3 ⊢
    clear hq0 n1 n2 e1 e2
    generalize hF : formT s ys = t at d1 ia l7f ⊢
    generalize hG : formT s' ys' = u at d2 ib l7f ⊢
    clear hF hG
    refine r_strD d1 fun k4 e4 => ?_
    walk_at "w"
    refine r_strD (DayAt.ext e4 d2) fun k5 e5 => ?_
    walk_at "w"
    refine ⟨show 2 ≤ 1000 by decide, fun lk hlk => ?_⟩
    walk_at "w"
    have e6 : Ext k3 (upd k5 lk (.lst [.str (dT t), .str (dT u)])) := ext_tr e4 (ext_tr e5 (ext_new hlk))
    have k6k : (upd k5 lk (.lst [.str (dT t), .str (dT u)])) lk = some (.lst [.str (dT t), .str (dT u)]) := upd_same
    generalize upd k5 lk (.lst [.str (dT t), .str (dT u)]) = k6 at e6 k6k ⊢
    clear hlk e4 e5
    refine w_callP mo_spots err_no ?_
    walk_at "w"
    refine ⟨by omega, rfl, fun ls k7 ms e7 hls lms => ?_⟩
    walk_at "w"
    refine ⟨_, _, rfl, ?_⟩
    walk_at "w"
    have d1 := DayAt.ext (ext_tr e6 e7) d1
    have d2 := DayAt.ext (ext_tr e6 e7) d2
    have e8 := ext_tr e3 (ext_tr e6 e7)
    have k7k := e7 _ _ k6k
    clear e6 e7 k6k e3
    refine r_join T d1 d2 l7f fun r0 m0 k8 L0 i0 e9 n9 D0 => ?_
    walk_at "w"
    refine r_join T (DayAt.ext e9 d1) (DayAt.ext e9 d2) l7f fun r1 m1 k9 L1 i1 e10 n10 D1 => ?_
    have e10' := ext_tr e9 e10
    walk_at "w"
    refine r_join T (DayAt.ext e10' d1) (DayAt.ext e10' d2) l7f fun r2 m2 k10 L2 i2 e11 n11 D2 => ?_
    have e11' := ext_tr e10' e11
    walk_at "w"
    refine r_inv T (DayAt.ext e11' d1) fun r3 m3 k11 L3 i3 e12 n12 D3 => ?_
    have e12' := ext_tr e11' e12
    walk_at "w"
    refine ⟨show 4 ≤ 1000 by decide, fun lm hlm => ?_⟩
    have e13 : Ext k11 (upd k11 lm (.lst [.ref m0, .ref m1, .ref m2, .ref m3])) := ext_new hlm
    have klm : (upd k11 lm (.lst [.ref m0, .ref m1, .ref m2, .ref m3])) lm = some (.lst [.ref m0, .ref m1, .ref m2, .ref m3]) := upd_same
    generalize upd k11 lm (.lst [.ref m0, .ref m1, .ref m2, .ref m3]) = k12 at e13 klm ⊢
    have D0 := DayAt.ext (ext_tr e10 (ext_tr e11 (ext_tr e12 e13))) D0
    have D1 := DayAt.ext (ext_tr e11 (ext_tr e12 e13)) D1
    have D2 := DayAt.ext (ext_tr e12 e13) D2
    have D3 := DayAt.ext e13 D3
    have e14 := ext_tr e12' e13
    have d1 := DayAt.ext e14 d1
    have d2 := DayAt.ext e14 d2
    have kk := e14 _ _ k7k
    have kls := e14 _ _ hls
    have e15 := ext_tr e8 e14
    have pa := PlainAt.ext e15 pa
    have pb := PlainAt.ext e15 pb
    clear e9 e10 e10' e11 e11' e12 e12' e13 e14 n9 n10 n11 n12 hlm hls k7k e8
    walk_at "w"
    have objs : ∀ (i : Nat) (x : V), [V.ref m0, .ref m1, .ref m2, .ref m3][i]? = some x → ∃ m r, x = .ref m ∧ [r0, r1, r2, r3][i]? = some r ∧ DayAt T.c_Days k12 m r := by
      intro i x hx
      rcases i with _ | _ | _ | _ | i
      · cases hx; exact ⟨_, _, rfl, rfl, D0⟩
      · cases hx; exact ⟨_, _, rfl, rfl, D1⟩
      · cases hx; exact ⟨_, _, rfl, rfl, D2⟩
      · cases hx; exact ⟨_, _, rfl, rfl, D3⟩
      · cases hx
    refine s_join (fun σ' kn' n' => n' ≤ n + 2 ∧ Ext k12 kn' ∧ ∃ y8 y9 y10 y11 y12, σ' = [some (.ref p), some (.ref q), some (.ref q'), some (.ref a1), some (.ref a2), some (.ref lk), some (.ref ls), some (.ref lm), y8, y9, y10, y11, y12]) ?_ ?_
    · refine s_forJ (i_list ?_)
      walk_at "w"
      refine ⟨ls, _, rfl, kls, ?_⟩
      refine ⟨_, _, fun j σ' k m => m ≤ n + 2 ∧ Ext k12 k ∧ ∃ y8 y9 y10 y11 y12, σ' = [some (.ref p), some (.ref q), some (.ref q'), some (.ref a1), some (.ref a2), some (.ref lk), some (.ref ls), some (.ref lm), y8, y9, y10, y11, y12], gives_lst, ⟨by omega, ext_rf, _, _, _, _, _, rfl⟩, fun j σ' k m hh => hh.2.1 _ _ kls, ?_, ?_⟩
      · rintro j x σ' k m hx ⟨hm, ek, y8, y9, y10, y11, y12, rfl⟩
        rw [List.getElem?_map] at hx
        obtain ⟨d, _, rfl⟩ := Option.map_eq_some_iff.1 hx
        walk_at "w"
        refine w_call mo_hasP err_no ?_
        walk_at "w"
        refine ⟨q, s, ys, d, rfl, PlainAt.ext ek pa, ?_⟩
        walk_at "w"
        refine w_call mo_hasP err_no ?_
        walk_at "w"
        refine ⟨q', s', ys', d, rfl, PlainAt.ext ek pb, ?_⟩
        walk_at "w"
        refine ⟨_, _, rfl, ?_⟩
        walk_at "wi"
        refine w_lcV (i_list ?_)
        walk_at "w"
        refine ⟨lm, _, rfl, ek _ _ klm, [.ref m0, .ref m1, .ref m2, .ref m3], _, [.bl (inD r0 d), .bl (inD r1 d), .bl (inD r2 d), .bl (inD r3 d)], gives_lst, (show 4 ≤ 100000 by decide), rfl, fun k e => e _ _ (ek _ _ klm), fun i x y hx hy k' ek' => ?_, fun D hD => ?_⟩
        · obtain ⟨m4, r4, rfl, hr4, D4⟩ := objs i x hx
          have ey : y = .bl (inD r4 d) := by
            rcases i with _ | _ | _ | _ | i
            · cases hr4; cases hy; rfl
            · cases hr4; cases hy; rfl
            · cases hr4; cases hy; rfl
            · cases hr4; cases hy; rfl
            · cases hy
          subst ey
          refine g_name ⟨rfl, rfl, rfl, ?_⟩
          walk_at "w"
          refine r_hasD (DayAt.ext (ext_tr ek ek') D4) ?_
          rw [if_neg Bool.false_ne_true]
          exact ⟨rfl, rfl, rfl⟩
        · rw [i0, i1, i2, i3, ia, ib]
          have eD := ext_new (o := .lst [.bl (hasP s ys d && hasP s' ys' d), .bl (hasP s ys d || hasP s' ys' d), .bl (andn (hasP s ys d) (hasP s' ys' d)), .bl (!hasP s ys d)]) hD
          have kD : (upd k D (.lst [.bl (hasP s ys d && hasP s' ys' d), .bl (hasP s ys d || hasP s' ys' d), .bl (andn (hasP s ys d) (hasP s' ys' d)), .bl (!hasP s ys d)])) D = some (.lst (blV [hasP s ys d && hasP s' ys' d, hasP s ys d || hasP s' ys' d, andn (hasP s ys d) (hasP s' ys' d), !hasP s ys d])) := upd_same
          generalize upd k D _ = k20 at eD kD ⊢
          clear hD
          have fin : ∀ {kz : Hp}, Ext k kz → (m ≤ n + 2 ∧ Ext k12 kz ∧ ∃ z8 z9 z10 z11 z12, [some (.ref p), some (.ref q), some (.ref q'), some (.ref a1), some (.ref a2), some (.ref lk), some (.ref ls), some (.ref lm), some (.int d), some (.bl (hasP s ys d)), some (.bl (hasP s' ys' d)), y11, y12] = [some (V.ref p), some (.ref q), some (.ref q'), some (.ref a1), some (.ref a2), some (.ref lk), some (.ref ls), some (.ref lm), z8, z9, z10, z11, z12]) := fun e => ⟨hm, ext_tr ek e, _, _, _, _, _, rfl⟩
          have cmp : ∀ {l : Addr} {kz : Hp} (bs : List Bool), Ext k20 kz → kz l = some (.lst (blV bs)) → bs = [hasP s ys d && hasP s' ys' d, hasP s ys d || hasP s' ys' d, andn (hasP s ys d) (hasP s' ys' d), !hasP s ys d] → ∀ {R : V → Hp → Nat → Prop}, R (.bl false) kz m → W (penC p a ns (tabsT T)) (rNeD K (.ref D) (.ref l)) kz m R := fun {l kz} bs e hl hb {R} hR => by
            refine r_ne_d (.lst (sql (e _ _ kD)) (dp_bls _)) (.lst (sql hl) (dp_bls bs)) (shaped_bls _) (shaped_bls _) ?_
            rw [eqv_blL, hb, decide_eq_true rfl]
            exact hR
          generalize hasP s ys d = b1 at fin cmp ⊢
          generalize hasP s' ys' d = b2 at fin cmp ⊢
          cases b1 <;> cases b2 <;> (walk_at "w"; refine ⟨show 4 ≤ 1000 by decide, fun l9 h9 => ?_⟩; refine cmp [_, _, _, _] (ext_new h9) upd_same rfl ?_; walk_at "wi"; exact fin (ext_tr eD (ext_new h9)))
      · rintro σ' k m ⟨hm, ek, y8, y9, y10, y11, y12, rfl⟩
        exact ⟨hm, ek, _, _, _, _, _, rfl⟩
    · rintro σ' k m ⟨hm, ek, y8, y9, y10, y11, y12, rfl⟩
      walk_at "wi"
      have d1 := DayAt.ext ek d1
      have d2 := DayAt.ext ek d2
      have e15 := ext_tr e15 ek
      have K0 := DayAt.ext ek D0
      have K1 := DayAt.ext ek D1
      have K2 := DayAt.ext ek D2
      have K3 := DayAt.ext ek D3
      have klm := ek _ _ klm
      have kk := ek _ _ kk
      clear D0 D1 D2 D3 objs kls pa pb ek
      refine w_lcN (fun i v k => ∃ x r, v = .ref x ∧ DayAt T.c_Days k x r ∧ [r0, r1, r2][i]? = some r) (fun i v k k' e ⟨x, r, h1, h2, h3⟩ => ⟨x, r, h1, DayAt.ext e h2, h3⟩) (fun i v k D zs o hD ⟨x, r, h1, h2, h3⟩ => ⟨x, r, h1, day_put hD h2, h3⟩) (i_rng1 ?_)
      walk_at "w"
      refine ⟨by decide, by decide, ?_⟩
      refine ⟨_, (fun _ => True), gives_rng, by rw [List.length_map, List.length_range]; decide, fun _ _ => trivial, fun i x hx k' ek' => ?_, fun D k' ys5 ek' hD kD ly hy => ?_⟩
      · rw [List.getElem?_map] at hx
        obtain ⟨j, hj, rfl⟩ := Option.map_eq_some_iff.1 hx
        obtain ⟨hj1, hj2⟩ := List.getElem?_eq_some_iff.1 hj
        rw [List.getElem_range] at hj2
        subst hj2
        have hi3 : i < 3 := by rw [List.length_range] at hj1; exact hj1
        refine g_name ⟨rfl, rfl, rfl, ?_⟩
        walk_at "w"
        refine w_call mo_bound err_no ?_
        walk_at "w"
        refine ⟨_, a1, a2, t, u, rfl, DayAt.ext ek' d1, DayAt.ext ek' d2, l7f, fun r L hi x k9 e9 n9 D9 => ⟨rfl, e9, x, r, rfl, D9, ?_⟩⟩
        rcases i with _ | _ | _ | i
        · rw [show r = r0 from inD_uniq L L0 fun x => by rw [hi, i0]; rfl]; rfl
        · rw [show r = r1 from inD_uniq L L1 fun x => by rw [hi, i1]; rfl]; rfl
        · rw [show r = r2 from inD_uniq L L2 fun x => by rw [hi, i2]; rfl]; rfl
        · omega
      · rw [List.length_map, List.length_range] at ly
        obtain ⟨y0, y1, y2, rfl⟩ : ∃ y0 y1 y2, ys5 = [y0, y1, y2] := match ys5, ly with | [y0, y1, y2], _ => ⟨y0, y1, y2, rfl⟩
        obtain ⟨b0, _, rfl, B0, er⟩ := hy 0 _ rfl
        cases er
        obtain ⟨b1, _, rfl, B1, er⟩ := hy 1 _ rfl
        cases er
        obtain ⟨b2, _, rfl, B2, er⟩ := hy 2 _ rfl
        cases er
        clear hy ly hD
        walk_at "wi"
        refine r_slL (ek' _ _ klm) fun l9 h9 => ?_
        rw [show cutV [V.ref m0, .ref m1, .ref m2, .ref m3] none (some 3) = [.ref m0, .ref m1, .ref m2] from cut_hi _ 3]
        have e9 := ext_new (o := .lst [.ref m0, .ref m1, .ref m2]) h9
        have k9l : (upd k' l9 (.lst [.ref m0, .ref m1, .ref m2])) l9 = some (.lst [.ref m0, .ref m1, .ref m2]) := upd_same
        generalize upd k' l9 (.lst [.ref m0, .ref m1, .ref m2]) = k16 at e9 k9l ⊢
        have e16 := ext_tr ek' e9
        have K0 := DayAt.ext e16 K0
        have K1 := DayAt.ext e16 K1
        have K2 := DayAt.ext e16 K2
        have K3 := DayAt.ext e16 K3
        have B0 := DayAt.ext e9 B0
        have B1 := DayAt.ext e9 B1
        have B2 := DayAt.ext e9 B2
        have d1 := DayAt.ext e16 d1
        have d2 := DayAt.ext e16 d2
        have klm := e16 _ _ klm
        have kk := e16 _ _ kk
        have e15 := ext_tr e15 e16
        refine r_eqLO (prs := [(b0, m0), (b1, m1), (b2, m2)]) (fun _ => true) mo_eq nf_self (e9 _ _ kD) k9l (fun pq hpq => ?_) (fun _ _ _ => rfl) (fun pq hpq _ => ?_) ?_
        · have own : ∀ {x y : Addr} {r r' : List Bool}, DayAt T.c_Days k16 x r → DayAt T.c_Days k16 y r' → (∃ dx fs, k16 x = some (.ins T.c_Days dx fs)) ∧ TyX K k16 (.ref y) (.ref T.c_Days) := fun h1 h2 => by
            obtain ⟨dx, q1, z1, z2⟩ := h1.at_
            obtain ⟨dx', q2, y1, y2⟩ := h2.at_
            exact ⟨⟨dx, _, z1⟩, T.own_Days.ty y1⟩
          simp only [List.mem_cons, List.mem_nil_iff, or_false] at hpq
          rcases hpq with rfl | rfl | rfl
          · exact own B0 K0
          · exact own B1 K1
          · exact own B2 K2
        · have same : ∀ {x y : Addr} {r : List Bool}, DayAt T.c_Days k16 x r → DayAt T.c_Days k16 y r → bEq K T.c_Days [.ref x, .ref y] k16 (fun u k => u = .bl true ∧ k = k16) (fun _ _ _ => False) := fun {x y r} h1 h2 => ⟨x, .ref y, r, rfl, h1, .inl ⟨y, r, rfl, h2, by rw [decide_eq_true rfl], rfl⟩⟩
          simp only [List.mem_cons, List.mem_nil_iff, or_false] at hpq
          rcases hpq with rfl | rfl | rfl
          · exact same B0 K0
          · exact same B1 K1
          · exact same B2 K2
        rw [show (if true = true then !([(b0, m0), (b1, m1), (b2, m2)].all fun _ => true) else ([(b0, m0), (b1, m1), (b2, m2)].all fun _ => true)) = false from rfl]
        walk_at "wi"
        clear B0 B1 B2 e9 k9l kD ek' h9 e16
        refine r_strD d1 fun k17 e17 => ?_
        walk_at "wi"
        refine r_strD (DayAt.ext e17 d2) fun k18 e18 => ?_
        walk_at "wi"
        refine ⟨show 2 ≤ 1000 by decide, fun l19 h19 => ?_⟩
        have e19 := ext_tr e17 (ext_tr e18 (ext_new (o := .lst [.str (dT t), .str (dT u)]) h19))
        walk_at "wi"
        refine r_neStrs (ws := [dT t, dT u]) upd_same (e19 _ _ kk) (fun s hs => ?_) ?_
        · rcases List.mem_cons.1 hs with rfl | hs
          · exact ok_dT d1.least
          · rw [List.mem_singleton.1 hs]; exact ok_dT d2.least
        generalize upd k18 l19 (.lst [.str (dT t), .str (dT u)]) = k20 at e19 ⊢
        have K3 := DayAt.ext e19 K3
        have d1 := DayAt.ext e19 d1
        have klm := e19 _ _ klm
        have e15 := ext_tr e15 e19
        clear e17 e18 h19 e19 K0 K1 K2 kk d2
        walk_at "wi"
        refine r_inv T K3 fun r x k21 L21 i21 e21 n21 D21 => ?_
        walk_at "wi"
        refine r_eqDD T D21 (DayAt.ext e21 d1) ?_
        have er : r = t := inD_uniq L21 d1.least fun x => by rw [i21, i3, Bool.not_not]
        rw [if_neg Bool.false_ne_true, decide_eq_true er]
        walk_at "wi"
        have d1 := DayAt.ext e21 d1
        have e15 := ext_tr e15 e21
        clear D21 e21 n21 K3
        have lt7 : Nat.lcm t.length t.length ≤ 7 := by rw [Nat.lcm_self]; exact d1.least.le
        refine r_join T d1 d1 lt7 fun r2 x2 k22 L22 i22 e22 n22 D22 => ?_
        walk_at "wi"
        refine r_eqDD T D22 (DayAt.ext e22 d1) ?_
        have er : r2 = t := inD_uniq L22 d1.least fun x => by rw [i22, Bool.and_self]
        rw [if_neg Bool.false_ne_true, decide_eq_true er]
        walk_at "wi"
        have d1 := DayAt.ext e22 d1
        have e15 := ext_tr e15 e22
        refine r_join T d1 d1 lt7 fun r3 x3 k23 L23 i23 e23 n23 D23 => ?_
        walk_at "wi"
        refine w_smeth (EA := fun _ _ _ _ => False) mo_new err_no ?_
        walk_at "w"
        refine ⟨rfl, ?_⟩
        walk_at "w"
        refine ⟨rfl, fun s4 k24 e24 _ d24 => ?_⟩
        refine r_eqDD T (DayAt.ext e24 D23) d24 ?_
        have er : r3 = [false] := inD_uniq L23 d24.least fun x => by
          rw [i23]
          unfold andn
          rw [Bool.and_not_self]
          show false = ix [false] _
          generalize (x % _).toNat = j
          rcases j with _ | j <;> rfl
        rw [if_neg Bool.false_ne_true, decide_eq_true er]
        exact fin_at (by omega) (h _ (ext_tr e15 (ext_tr e23 e24)))
end

end NN

namespace NN
open PySem PySem.Spec PyProof.Rows L2 LamX AW ClX
open Tx1 Ln
theorem hasP_mod {s L : Nat} {ys : List Nat} (h : s ∣ L) (x : Int) : hasP s ys (x % (L : Int)) = hasP s ys x := by
  unfold hasP
  rw [Int.emod_emod_of_dvd x (Int.natCast_dvd_natCast.2 h)]
theorem empty_sub {s s' : Nat} {ys ys' : List Nat} (h1 : 1 ≤ s) (h2 : 1 ≤ s') (l1 : s ≤ 7) (l2 : s' ≤ 7) : (dayL (s * s') fun x => hasP s ys x && !hasP s' ys' x).isEmpty = subB (formT s ys) (formT s' ys') := by
  have hL : 1 ≤ s * s' := Nat.mul_pos h1 h2
  rw [Bool.eq_iff_iff, subB_iff (form_least h1 l1) (form_least h2 l2), List.isEmpty_iff]
  constructor
  · intro e x hx
    rw [inD_plain h1] at hx
    rw [inD_plain h2]
    cases z : hasP s' ys' x with
    | true => rfl
    | false =>
      exfalso
      have x0 := Int.emod_nonneg x (show ((s * s' : Nat) : Int) ≠ 0 by omega)
      have x1 := Int.emod_lt_of_pos x (show (0 : Int) < ((s * s' : Nat) : Int) by omega)
      have ex : (((x % ((s * s' : Nat) : Int)).toNat : Nat) : Int) = x % ((s * s' : Nat) : Int) := Int.toNat_of_nonneg x0
      have m : (x % ((s * s' : Nat) : Int)).toNat ∈ dayL (s * s') fun x => hasP s ys x && !hasP s' ys' x := by
        rw [mem_dayL, ex, hasP_mod (Nat.dvd_mul_right _ _), hasP_mod (Nat.dvd_mul_left _ _), hx, z]
        exact ⟨by omega, rfl⟩
      rw [e] at m
      cases m
  · intro h
    cases z : dayL (s * s') fun x => hasP s ys x && !hasP s' ys' x with
    | nil => rfl
    | cons n r =>
      exfalso
      have m : n ∈ dayL (s * s') fun x => hasP s ys x && !hasP s' ys' x := by rw [z]; exact .head _
      have m := (mem_dayL.1 m).2
      rw [Bool.and_eq_true] at m
      have := h (n : Int) (by rw [inD_plain h1]; exact m.1)
      rw [inD_plain h2] at this
      rw [this] at m
      exact absurd m.2 (by decide)
theorem eq_sub {t u : List Bool} (F : Least t) (G : Least u) : decide (t = u) = (subB t u && subB u t) := by
  rw [Bool.eq_iff_iff, decide_eq_true_eq, Bool.and_eq_true, subB_iff F G, subB_iff G F]
  constructor
  · rintro rfl
    exact ⟨fun _ z => z, fun _ z => z⟩
  · rintro ⟨h, k⟩
    exact inD_uniq F G fun x => Bool.eq_iff_iff.2 ⟨h x, k x⟩
theorem r_reprB3 {K : PySem.W.Frag} {c : Cw} {kn : Hp} {n : Nat} {Q : V → Hp → Nat → Prop} {a : Addr} {x y z : Bool} (h : kn a = some (.lst [.bl x, .bl y, .bl z])) (q : Q (.str (PyData.shown (.list [.bool x, .bool y, .bool z]))) kn n) : W c (rRepr K [.ref a]) kn n Q := by
  refine r_repr (.lst (sql h) (dp_bls [x, y, z])) ?_ ?_ ?_ ?_ q
  · cases x <;> cases y <;> cases z <;> decide +kernel
  · cases x <;> cases y <;> cases z <;> decide +kernel
  · cases x <;> cases y <;> cases z <;> decide +kernel
  · rw [sizeLine_eq]; cases x <;> cases y <;> cases z <;> decide +kernel
theorem r_reprB2 {K : PySem.W.Frag} {c : Cw} {kn : Hp} {n : Nat} {Q : V → Hp → Nat → Prop} {a : Addr} {x y : Bool} (h : kn a = some (.lst [.bl x, .bl y])) (q : Q (.str (PyData.shown (.list [.bool x, .bool y]))) kn n) : W c (rRepr K [.ref a]) kn n Q := by
  refine r_repr (.lst (sql h) (dp_bls [x, y])) ?_ ?_ ?_ ?_ q
  · cases x <;> cases y <;> decide +kernel
  · cases x <;> cases y <;> decide +kernel
  · cases x <;> cases y <;> decide +kernel
  · rw [sizeLine_eq]; cases x <;> cases y <;> decide +kernel
def bOrd : List V → Hp → AK → AXK → Prop := fun vs kn Q _ => ∃ q s ys q' s' ys', vs = [.ref q, .ref q'] ∧ PlainAt kn q s ys ∧ PlainAt kn q' s' ys' ∧ ∀ kn', Ext kn kn' → Q (.bl true) kn'
theorem mo_ord : MonoX bOrd := by
  rintro vs kn Q R E F h1 h2 ⟨q, s, ys, q', s', ys', a, b, c, h⟩
  exact ⟨q, s, ys, q', s', ys', a, b, c, fun kn' x => h1 _ _ (h kn' x)⟩
def bMov : List V → Hp → AK → AXK → Prop := fun vs kn Q _ => ∃ q s ys, vs = [.ref q] ∧ PlainAt kn q s ys ∧ ∀ kn', Ext kn kn' → Q (.bl true) kn'
theorem mo_mov : MonoX bMov := by
  rintro vs kn Q R E F h1 h2 ⟨q, s, ys, a, b, h⟩
  exact ⟨q, s, ys, a, b, fun kn' x => h1 _ _ (h kn' x)⟩
section
variable {P : Program} {w : World} {K : PySem.W.Frag} {mg : Str → Option Value} {base : Heap}
theorem ok__law_order_right (T : Tx K mg) : L2.FnG P w K mg base CX0 14 T.f__law_order_right T.d__law_order_right ["plain", "more"] (liftX bOrd) := by
  refine T.F__law_order_right.okG sc__law_order_right (fun vs H Q E h => ?_) (fun cdv A outer s H vs Q E hr hg h => ?_)
  · obtain ⟨kn, _, _, q, s, ys, q', s', ys', rfl, _⟩ := h
    rfl
  · obtain ⟨kn, ex, nt, q, s, ys, q', s', ys', rfl, pa, pb, h⟩ := h
    refine ⟨_, (pss_cons (ps_par (i := 2) (j := 3) (by rfl) sc__law_order_right.nd rfl rfl (by decide) rfl rfl (pa_cons (pe_make T.mk_Days (ok_Days___init__ T) (hr.mono (by decide)) (by rfl) T.g_Days T.bd_Days___init__ .nil passL (pa_cons (pe_ix ix_tup (pv 0) pe_int (fun _ _ => rfl)) (pa_cons (pe_ix ix_tup (pv 0) pe_int (fun _ _ => rfl)) pa_nil))) (pa_cons (pe_make T.mk_Days (ok_Days___init__ T) (hr.mono (by decide)) (by rfl) T.g_Days T.bd_Days___init__ .nil passL (pa_cons (pe_ix ix_tup (pv 1) pe_int (fun _ _ => rfl)) (pa_cons (pe_ix ix_tup (pv 1) pe_int (fun _ _ => rfl)) pa_nil))) pa_nil)) (by rfl))
       (pss_cons (ps_set (i := 4) sc__law_order_right.nd rfl (by first | exact Or.inl rfl | exact Or.inr rfl) (pe_cmpR (op_eqD hr.units) (pe_lc (own := [("d", 5)]) (g := gName 5) (by rfl) sc__law_order_right.nd (pi_range1 (by rfl) T.b_range (pa_cons (pe_op op_mul (pe_ix ix_tup (pv 0) pe_int (fun _ _ => rfl)) (pe_ix ix_tup (pv 1) pe_int (fun _ _ => rfl))) pa_nil)) (blkOk_by (own := [("d", 5)]) (N := ["plain", "more", "one", "other", "there", "d", "back"]) (sc := defScope s__law_order_right) (by decide +kernel)) (fun _ _ _ _ _ => pg_name (i := 5) sc__law_order_right.nd rfl (Or.inl rfl)) (fun _ _ _ _ _ => (pts_one (PW.pt (pw_and (pt_val (pe_call (ok__law_has T) (hr.mono (by decide)) (by rfl) T.g__law_has T.F__law_has.kp T.bd__law_has .nil pass0 (pa_cons (pv 0) (pa_cons (pv 5) pa_nil)))) (pw_and1 (pt_not (pt_val (pe_call (ok__law_has T) (hr.mono (by decide)) (by rfl) T.g__law_has T.F__law_has.kp T.bd__law_has .nil pass0 (pa_cons (pv 1) (pa_cons (pv 5) pa_nil)))))))))) (fun _ _ _ _ _ => (pv 5))) (pe_lst pa_nil) (nomark _)))
       (pss_cons (ps_set (i := 6) sc__law_order_right.nd rfl (by first | exact Or.inl rfl | exact Or.inr rfl) (pe_cmpR (op_eqD hr.units) (pe_lc (own := [("d", 5)]) (g := gName 5) (by rfl) sc__law_order_right.nd (pi_range1 (by rfl) T.b_range (pa_cons (pe_op op_mul (pe_ix ix_tup (pv 0) pe_int (fun _ _ => rfl)) (pe_ix ix_tup (pv 1) pe_int (fun _ _ => rfl))) pa_nil)) (blkOk_by (own := [("d", 5)]) (N := ["plain", "more", "one", "other", "there", "d", "back"]) (sc := defScope s__law_order_right) (by decide +kernel)) (fun _ _ _ _ _ => pg_name (i := 5) sc__law_order_right.nd rfl (Or.inl rfl)) (fun _ _ _ _ _ => (pts_one (PW.pt (pw_and (pt_val (pe_call (ok__law_has T) (hr.mono (by decide)) (by rfl) T.g__law_has T.F__law_has.kp T.bd__law_has .nil pass0 (pa_cons (pv 1) (pa_cons (pv 5) pa_nil)))) (pw_and1 (pt_not (pt_val (pe_call (ok__law_has T) (hr.mono (by decide)) (by rfl) T.g__law_has T.F__law_has.kp T.bd__law_has .nil pass0 (pa_cons (pv 0) (pa_cons (pv 5) pa_nil)))))))))) (fun _ _ _ _ _ => (pv 5))) (pe_lst pa_nil) (nomark _)))
       (pss_cons (ps_if (pt_cmpR op_ne (pe_callB (c_repr hg (room_u128 hr)) (by rfl) T.b_repr (by decide +kernel) (pa_cons (pe_lst (pa_cons (pe_cmpR (op_cmpO (fun _ _ => rfl) T.cm_Days_le (ok_Days___le__ T) (hr.mono (by decide)) T.bd_Days___le__ pass0) (pv 2) (pv 3) (nomark _)) (pa_cons (pe_cmpR (op_cmpO (fun _ _ => rfl) T.cm_Days_ge (ok_Days___ge__ T) (hr.mono (by decide)) T.bd_Days___ge__ pass0) (pv 2) (pv 3) (nomark _)) (pa_cons (pe_cmpR (op_eqO T.eq_Days (ok_Days___eq__ T) (hr.mono (by decide)) T.bd_Days___eq__ pass0) (pv 2) (pv 3) (nomark _)) pa_nil)))) pa_nil)) (pe_callB (c_repr hg (room_u128 hr)) (by rfl) T.b_repr (by decide +kernel) (pa_cons (pe_lst (pa_cons (pv 4) (pa_cons (pv 6) (pa_cons (pe_and (pv 4) (pe_one (pv 6))) pa_nil)))) pa_nil)) (nomark _))
       (pss_one (ps_ret pe_bl))
       pss_nil)
       (pss_one (ps_ret (pe_cmpR op_eq (pe_callB (c_repr hg (room_u128 hr)) (by rfl) T.b_repr (by decide +kernel) (pa_cons (pe_lst (pa_cons (pe_cmpR (op_cmpO (fun _ _ => rfl) T.cm_Days_lt (ok_Days___lt__ T) (hr.mono (by decide)) T.bd_Days___lt__ pass0) (pv 2) (pv 3) (nomark _)) (pa_cons (pe_cmpR (op_cmpO (fun _ _ => rfl) T.cm_Days_gt (ok_Days___gt__ T) (hr.mono (by decide)) T.bd_Days___gt__ pass0) (pv 2) (pv 3) (nomark _)) pa_nil))) pa_nil)) (pe_callB (c_repr hg (room_u128 hr)) (by rfl) T.b_repr (by decide +kernel) (pa_cons (pe_lst (pa_cons (pe_and (pv 4) (pe_one (pe_not (pv 6)))) (pa_cons (pe_and (pv 6) (pe_one (pe_not (pv 4)))) pa_nil))) pa_nil)) (nomark _)))))))), ?_⟩
    refine body_of (pure_start ex nt) ?_
    walk_at "w"
    refine w_dayP rfl pa fun a1 k1 e1 n1 d1 => ?_
    walk_at "w"
    refine w_dayP rfl (PlainAt.ext e1 pb) fun a2 k2 e2 n2 d2 => ?_
    walk_at "w"
    refine ⟨_, _, rfl, ?_⟩
    have e3 := ext_tr e1 e2
    have d1 := DayAt.ext e2 d1
    have pa3 := PlainAt.ext e3 pa
    have pb3 := PlainAt.ext e3 pb
    obtain ⟨l, z1, z2⟩ := pa3.at_
    obtain ⟨l', y1, y2⟩ := pb3.at_
    have s1 := pa.pos; have s7 := pa.le; have t1 := pb.pos; have t7 := pb.le
    have hL : s * s' ≤ 49 := Nat.mul_le_mul s7 t7
    walk_at "w"
    refine w_lcDays (L := s * s') (pr := fun x => hasP s ys x && !hasP s' ys' x) (fun R hR => ?_) (by omega) (fun _ => rfl) (fun _ => rfl) (fun i k R ek hR => ?_) fun D1 hD1 => ?_
    · walk_at "w"
      refine r_I (.inl ⟨by omega, by omega⟩) ?_
      rw [← Int.natCast_mul]
      exact hR
    · walk_at "w"
      refine w_call mo_hasP err_no ?_
      walk_at "w"
      refine ⟨q, s, ys, i, rfl, PlainAt.ext (ext_tr ext_rf ek) pa3, ?_⟩
      refine ⟨_, rfl, fun h1 => ?_, fun h1 => ?_⟩
      · walk_at "w"
        refine w_call mo_hasP err_no ?_
        walk_at "w"
        refine ⟨q', s', ys', i, rfl, PlainAt.ext (ext_tr ext_rf ek) pb3, ?_⟩
        walk_at "w"
        rw [h1] at hR
        exact hR
      · rw [h1] at hR
        exact hR
    walk_at "w"
    refine ⟨show 0 ≤ 1000 by decide, fun l0 hl0 => ?_⟩
    refine r_eq_d (.lst (sql (know hl0 upd_same)) (dp_nats _)) (.lst (sql upd_same) .nil) (shaped_natL _) (by decide +kernel) ?_
    rw [eqv_natL, empty_sub s1 t1 s7 t7]
    have e4 : Ext k2 (upd (upd k2 D1 (.lst (natV (dayL (s * s') fun x => hasP s ys x && !hasP s' ys' x)))) l0 (.lst [])) := ext_tr (ext_new hD1) (ext_new hl0)
    generalize upd (upd k2 D1 (.lst (natV (dayL (s * s') fun x => hasP s ys x && !hasP s' ys' x)))) l0 (.lst []) = k5 at e4 ⊢
    clear hD1 hl0
    have z1 := e4 _ _ z1
    have z2 := e4 _ _ z2
    have y1 := e4 _ _ y1
    have y2 := e4 _ _ y2
    walk_at "w"
    refine w_lcDays (L := s' * s) (pr := fun x => hasP s' ys' x && !hasP s ys x) (fun R hR => ?_) (by rw [Nat.mul_comm]; omega) (fun _ => rfl) (fun _ => rfl) (fun i k R ek hR => ?_) fun D2 hD2 => ?_
    · walk_at "w"
      refine r_I (.inl ⟨by omega, by omega⟩) ?_
      rw [← Int.natCast_mul, Nat.mul_comm]
      exact hR
    · walk_at "w"
      refine w_call mo_hasP err_no ?_
      walk_at "w"
      refine ⟨q', s', ys', i, rfl, PlainAt.ext (ext_tr e4 ek) pb3, ?_⟩
      refine ⟨_, rfl, fun h1 => ?_, fun h1 => ?_⟩
      · walk_at "w"
        refine w_call mo_hasP err_no ?_
        walk_at "w"
        refine ⟨q, s, ys, i, rfl, PlainAt.ext (ext_tr e4 ek) pa3, ?_⟩
        walk_at "w"
        rw [h1] at hR
        exact hR
      · rw [h1] at hR
        exact hR
    walk_at "w"
    refine ⟨show 0 ≤ 1000 by decide, fun l0 hl0 => ?_⟩
    refine r_eq_d (.lst (sql (know hl0 upd_same)) (dp_nats _)) (.lst (sql upd_same) .nil) (shaped_natL _) (by decide +kernel) ?_
    rw [eqv_natL, empty_sub t1 s1 t7 s7]
    have e6 : Ext k5 (upd (upd k5 D2 (.lst (natV (dayL (s' * s) fun x => hasP s' ys' x && !hasP s ys x)))) l0 (.lst [])) := ext_tr (ext_new hD2) (ext_new hl0)
    generalize upd (upd k5 D2 (.lst (natV (dayL (s' * s) fun x => hasP s' ys' x && !hasP s ys x)))) l0 (.lst []) = k7 at e6 ⊢
    clear hD2 hl0
    have eA := ext_tr e4 e6
    have d1 := DayAt.ext eA d1
    have d2 := DayAt.ext eA d2
    have e8 := ext_tr e3 eA
    clear e4 e6 eA z1 z2 y1 y2 pa3 pb3 e3
    have F := form_least (ys := ys) s1 s7
    have G := form_least (ys := ys') t1 t7
    have es := eq_sub F G
    generalize formT s ys = t at d1 F es ⊢
    generalize formT s' ys' = u at d2 G es ⊢
    walk_at "wi"
    refine r_leD T d1 d2 fun k9 e9 => ?_
    walk_at "wi"
    refine r_leD T (DayAt.ext e9 d1) (DayAt.ext e9 d2) fun k10 e10 => ?_
    walk_at "wi"
    have d1 := DayAt.ext (ext_tr e9 e10) d1
    have d2 := DayAt.ext (ext_tr e9 e10) d2
    have e8 := ext_tr e8 (ext_tr e9 e10)
    refine r_eqDD T d1 d2 ?_
    rw [if_neg Bool.false_ne_true, es]
    have es2 := eq_sub G F
    cases hb1 : subB t u <;> cases hb2 : subB u t <;> rw [hb1, hb2] at es es2 <;> simp only [Bool.and_self, Bool.and_false, Bool.false_and, Bool.true_and, Bool.and_true] at es es2
    all_goals (try rw [show (false && false) = false from rfl])
    all_goals (try rw [show (true && true) = true from rfl])
    all_goals (try rw [show (false && true) = false from rfl])
    all_goals (try rw [show (true && false) = false from rfl])
    all_goals
      walk_at "wi"
      refine ⟨show 3 ≤ 1000 by decide, fun l3 h3 => ?_⟩
      walk_at "wi"
      refine r_reprB3 upd_same ?_
      walk_at "wi"
      refine ⟨show 3 ≤ 1000 by decide, fun l4 h4 => ?_⟩
      walk_at "wi"
      refine r_reprB3 upd_same ?_
      walk_at "wi"
      refine r_leD T (DayAt.ext (ext_tr (ext_new h3) (ext_new h4)) d1) (DayAt.ext (ext_tr (ext_new h3) (ext_new h4)) d2) fun k13 e13 => ?_
      try dsimp only
      rw [hb1, es]
      first | rw [show (false && !false) = false from rfl] | rw [show (true && !false) = true from rfl] | rw [show (true && !true) = false from rfl]
      walk_at "wi"
      refine r_leD T (DayAt.ext (ext_tr (ext_tr (ext_new h3) (ext_new h4)) e13) d1) (DayAt.ext (ext_tr (ext_tr (ext_new h3) (ext_new h4)) e13) d2) fun k14 e14 => ?_
      try dsimp only
      rw [hb2, es2]
      first | rw [show (false && !false) = false from rfl] | rw [show (true && !false) = true from rfl] | rw [show (true && !true) = false from rfl]
      walk_at "wi"
      refine ⟨show 2 ≤ 1000 by decide, fun l5 h5 => ?_⟩
      walk_at "wi"
      refine r_reprB2 upd_same ?_
      walk_at "wi"
      refine ⟨show 2 ≤ 1000 by decide, fun l6 h6 => ?_⟩
      walk_at "wi"
      refine r_reprB2 upd_same ?_
      walk_at "wi"
      exact h _ (ext_tr (ext_tr e8 (ext_tr (ext_new h3) (ext_new h4))) (ext_tr e13 (ext_tr e14 (ext_tr (ext_new h5) (ext_new h6))))) 0
theorem ok__law_moved_right (T : Tx K mg) (TT : List (Addr × Str)) : FnOk P w K mg base CX0 14 T.f__law_moved_right T.d__law_moved_right ["pen", "plain"] (liftP (tabsT T) 4 bMov) := by
  refine T.F__law_moved_right.ok sc__law_moved_right (fun vs H Q E h => ?_) (fun cdv A outer s H vs Q E hr h => ?_)
  · obtain ⟨p, a, ns, n, kn, ws, rfl, _, _, q, s, ys, rfl, _⟩ := h
    rfl
  · obtain ⟨p, a, ns, n, kn, ws, rfl, g, hn, q, s, ys, rfl, pa, h⟩ := h
    have ia := inD_plain (ys := ys) pa.pos
    refine ⟨_, (pss_cons (ps_par (i := 2) (j := 3) (by rfl) sc__law_moved_right.nd rfl rfl (by decide) rfl rfl (pa_cons (pe_make T.mk_Days (ok_Days___init__ T) (hr.mono (by decide)) (by rfl) T.g_Days T.bd_Days___init__ .nil passL (pa_cons (pe_ix ix_tup (pv 1) pe_int (fun _ _ => rfl)) (pa_cons (pe_ix ix_tup (pv 1) pe_int (fun _ _ => rfl)) pa_nil))) (pa_cons (pe_call (ok__law_pick T (tabsT T)) (hr.mono (by decide)) (by rfl) T.g__law_pick T.F__law_pick.kp T.bd__law_pick .nil pass0 (pa_cons (pv 0) (pa_cons (pe_lst (pa_cons pe_int (pa_cons pe_int (pa_cons (pe_un un_neg pe_int) (pa_cons pe_int (pa_cons pe_int (pa_cons (pe_un un_neg pe_int) (pa_cons (pe_op op_add (pe_op op_pow pe_int pe_int) (pe_call (ok__law_draw T) (hr.mono (by decide)) (by rfl) T.g__law_draw T.F__law_draw.kp T.bd__law_draw .nil pass0 (pa_cons (pv 0) (pa_cons pe_int pa_nil)))) (pa_cons (pe_un un_neg (pe_op op_pow pe_int pe_int)) pa_nil))))))))) pa_nil))) pa_nil)) (by rfl))
       (pss_cons (ps_par (i := 4) (j := 5) (by rfl) sc__law_moved_right.nd rfl rfl (by decide) rfl rfl (pa_cons (pe_op (op_own T.op_Days_rshift (ok_Days___rshift__ T) (hr.mono (by decide)) T.bd_Days___rshift__ passL) (pv 2) (pv 3)) (pa_cons (pe_op (op_own T.op_Days_lshift (ok_Days___lshift__ T) (hr.mono (by decide)) T.bd_Days___lshift__ passL) (pv 2) (pv 3)) pa_nil)) (by rfl))
       (pss_cons (ps_for PassesOwn.never rfl (pi_list (pe_call (ok__law_spots T (tabsT T)) (hr.mono (by decide)) (by rfl) T.g__law_spots T.F__law_spots.kp T.bd__law_spots .nil pass0 (pa_cons (pv 0) pa_nil))) (pg_name (i := 6) sc__law_moved_right.nd rfl (by first | exact Or.inl rfl | exact Or.inr rfl))
       (pss_one (ps_if (PW.pt (pw_or (pt_cmpR op_ne (pe_cmpR (op_inO T.sm_Days___contains__ (ok_Days___contains__ T) (hr.mono (by decide)) T.bd_Days___contains__ pass0) (pv 6) (pv 4) (by rfl)) (pe_call (ok__law_has T) (hr.mono (by decide)) (by rfl) T.g__law_has T.F__law_has.kp T.bd__law_has .nil pass0 (pa_cons (pv 1) (pa_cons (pe_op op_sub (pv 6) (pv 3)) pa_nil))) (nomark _)) (pw_or1 (pt_cmpR op_ne (pe_cmpR (op_inO T.sm_Days___contains__ (ok_Days___contains__ T) (hr.mono (by decide)) T.bd_Days___contains__ pass0) (pv 6) (pv 5) (by rfl)) (pe_call (ok__law_has T) (hr.mono (by decide)) (by rfl) T.g__law_has T.F__law_has.kp T.bd__law_has .nil pass0 (pa_cons (pv 1) (pa_cons (pe_op op_add (pv 6) (pv 3)) pa_nil))) (nomark _)))))
       (pss_one (ps_ret pe_bl))
       pss_nil)))
       (pss_one (ps_ret (pe_and (pe_cmpR (op_eqO T.eq_Days (ok_Days___eq__ T) (hr.mono (by decide)) T.bd_Days___eq__ pass0) (pe_op (op_own T.op_Days_lshift (ok_Days___lshift__ T) (hr.mono (by decide)) T.bd_Days___lshift__ passL) (pv 4) (pv 3)) (pv 2) (nomark _)) (pe_one (pe_cmpR (op_eqO T.eq_Days (ok_Days___eq__ T) (hr.mono (by decide)) T.bd_Days___eq__ pass0) (pe_op (op_own T.op_Days_rshift (ok_Days___rshift__ T) (hr.mono (by decide)) T.bd_Days___rshift__ passL) (pv 5) (pv 3)) (pv 2) (nomark _))))))))), ?_⟩
    refine body_of g ?_
    walk_at "w"
    refine w_dayP rfl pa fun a1 k1 e1 n1 d1 => ?_
    walk_at "w"
    refine w_callP mo_pick err_no ?_
    walk_at "w"
    refine r_I ⟨by decide, by decide, by decide⟩ ?_
    walk_at "w"
    refine w_draw ?_
    walk_at "w"
    refine ⟨by omega, by decide, by decide, fun c1 c10 c11 => ?_⟩
    walk_at "w"
    refine r_I ⟨by decide, by decide, by decide⟩ ?_
    walk_at "w"
    refine ⟨show 8 ≤ 1000 by decide, fun l2 hl2 => ?_⟩
    walk_at "w"
    refine ⟨by omega, _, _, rfl, upd_same, show 0 < 8 by decide, show 8 ≤ 1000 by decide, fun v hv => ?_⟩
    obtain ⟨k, rfl⟩ : ∃ k : Int, v = .int k := by
      simp only [List.mem_cons, List.mem_nil_iff, or_false] at hv
      rcases hv with rfl | rfl | rfl | rfl | rfl | rfl | rfl | rfl <;> exact ⟨_, rfl⟩
    clear hv
    refine (fun (k2 : Hp) (e2 : Ext k1 k2) => ?_ : ∀ k2, Ext k1 k2 → W _ _ k2 _ _) _ (ext_new hl2)
    have d1 := DayAt.ext e2 d1
    have e2 := ext_tr e1 e2
    clear hl2 e1 n1
    walk_at "w"
    refine ⟨_, _, rfl, ?_⟩
    walk_at "w"
    have sh : ∀ {c : Cw} {sg : Int} {op : Operator} {E : XK} {kn : Hp} {m : Nat} {x : Addr} {t : List Bool} {Q : V → Hp → Nat → Prop}, OpT K op T.c_Days (.type "int") → DayAt T.c_Days kn x t → (∀ r y k', Least r → (∀ z, inD r z = inD t (z - sg * k)) → Ext kn k' → DayAt T.c_Days k' y r → Q (.ref y) k' m) → W c (rOwn K op T.c_Days (liftX (bSh T.c_Days sg)) E (.ref x) (.int k)) kn m Q := fun {c sg op E kn m x t Q} ot dx hq => by
      obtain ⟨ddx, q1, z1, z2⟩ := dx.at_
      exact r_own (EA := fun _ _ _ _ => False) mo_sh err_no z1 (.base (.int _)) ot ⟨x, t, k, rfl, dx, fun r L hi y k' e _ d => hq r y k' L hi e d⟩
    refine sh (ot_int_shr T.si_Days) d1 fun r1 m1 k3 L1 i1 e3 D1 => ?_
    walk_at "w"
    refine sh (ot_int_shl T.si_Days) (DayAt.ext e3 d1) fun r2 m2 k4 L2 i2 e4 D2 => ?_
    walk_at "w"
    refine ⟨_, _, rfl, ?_⟩
    have D1 := DayAt.ext e4 D1
    have d1 := DayAt.ext (ext_tr e3 e4) d1
    have e2 := ext_tr e2 (ext_tr e3 e4)
    have pa := PlainAt.ext e2 pa
    refine s_seq ?_
    refine s_join (fun σ' kn' n' => n' ≤ n + 4 ∧ Ext k4 kn' ∧ ∃ y6, σ' = [some (.ref p), some (.ref q), some (.ref a1), some (.int k), some (.ref m1), some (.ref m2), y6]) ?_ ?_
    · refine s_forJ (i_list ?_)
      walk_at "w"
      refine w_callP mo_spots err_no ?_
      walk_at "w"
      refine ⟨by omega, rfl, fun ls k7 ms e7 hls lms => ?_⟩
      refine ⟨ls, _, rfl, hls, ?_⟩
      refine ⟨_, _, fun j σ' k5 m => m ≤ n + 4 ∧ Ext k7 k5 ∧ ∃ y6, σ' = [some (.ref p), some (.ref q), some (.ref a1), some (.int k), some (.ref m1), some (.ref m2), y6], gives_lst, ⟨by omega, ext_rf, _, rfl⟩, fun j σ' k m hh => hh.2.1 _ _ hls, ?_, ?_⟩
      · rintro j x σ' k5 m hx ⟨hm, ek, y6, rfl⟩
        rw [List.getElem?_map] at hx
        obtain ⟨d, _, rfl⟩ := Option.map_eq_some_iff.1 hx
        walk_at "wi"
        refine r_hasD (DayAt.ext (ext_tr e7 ek) D1) ?_
        rw [if_neg Bool.false_ne_true, i1, ia, Int.one_mul]
        walk_at "wi"
        refine w_call mo_hasP err_no ?_
        walk_at "wi"
        refine ⟨q, s, ys, _, rfl, PlainAt.ext (ext_tr e7 ek) pa, ?_⟩
        walk_at "wi"
        refine r_hasD (DayAt.ext (ext_tr e7 ek) D2) ?_
        rw [if_neg Bool.false_ne_true, i2, ia, show d - -1 * k = d + k by omega]
        walk_at "wi"
        refine w_call mo_hasP err_no ?_
        walk_at "wi"
        refine ⟨q, s, ys, _, rfl, PlainAt.ext (ext_tr e7 ek) pa, ?_⟩
        walk_at "wi"
        exact ⟨by omega, ek, _, rfl⟩
      · rintro σ' k5 m ⟨hm, ek, y6, rfl⟩
        exact ⟨hm, ext_tr e7 ek, _, rfl⟩
    · rintro σ' k5 m ⟨hm, ek, y6, rfl⟩
      have d1 := DayAt.ext ek d1
      have D1 := DayAt.ext ek D1
      have D2 := DayAt.ext ek D2
      have e2 := ext_tr e2 ek
      walk_at "w"
      refine sh (ot_int_shl T.si_Days) D1 fun r3 m3 k6 L3 i3 e6 D3 => ?_
      walk_at "w"
      refine r_eqDD T D3 (DayAt.ext e6 d1) ?_
      have er : r3 = formT s ys := inD_uniq L3 d1.least fun x => by
        rw [i3, i1]
        exact congrArg (inD (formT s ys)) (by omega)
      rw [if_neg Bool.false_ne_true, decide_eq_true er]
      walk_at "w"
      refine sh (ot_int_shr T.si_Days) (DayAt.ext e6 D2) fun r4 m4 k8 L4 i4 e8 D4 => ?_
      walk_at "w"
      refine r_eqDD T D4 (DayAt.ext (ext_tr e6 e8) d1) ?_
      have er : r4 = formT s ys := inD_uniq L4 d1.least fun x => by
        rw [i4, i2]
        exact congrArg (inD (formT s ys)) (by omega)
      rw [if_neg Bool.false_ne_true, decide_eq_true er]
      exact fin_at (by omega) (h _ (ext_tr e2 (ext_tr e6 e8)))
end

end NN

namespace NN
open PySem PySem.Spec PyProof.Rows L2 LamX AW ClX
open Tx1 Ln
theorem tog_all : ∀ p : Nat, p < 8 → ∀ q : Nat, q < 8 → 1 ≤ p → 1 ≤ q → (((List.range 49).map (· + 1)).filter fun k => decide (k % p = 0) && decide (k % q = 0))[0]? = some (Nat.lcm p q) := by decide +kernel
def fTog (p q : Nat) : V → Bool
  | .int i => decide (i % (p : Int) = 0) && decide (i % (q : Int) = 0)
  | _ => false
theorem tog_filter {p q : Nat} : (((List.range 49).map fun (i : Nat) => V.int (1 + (i : Int))).filter (fTog p q)) = natV (((List.range 49).map (· + 1)).filter fun k => decide (k % p = 0) && decide (k % q = 0)) := by
  unfold natV
  rw [List.filter_map, List.filter_map, List.map_map]
  have e : (fTog p q ∘ fun (i : Nat) => V.int (1 + (i : Int))) = ((fun k => decide (k % p = 0) && decide (k % q = 0)) ∘ fun x => x + 1) := by
    funext i
    show (decide ((1 + (i : Int)) % (p : Int) = 0) && decide ((1 + (i : Int)) % (q : Int) = 0)) = (decide ((i + 1) % p = 0) && decide ((i + 1) % q = 0))
    have h : ∀ m : Nat, ((1 + (i : Int)) % (m : Int) = 0) ↔ ((i + 1) % m = 0) := fun m => by
      have : (1 + (i : Int)) % (m : Int) = (((i + 1) % m : Nat) : Int) := by
        rw [Int.natCast_emod]
        congr 1
        omega
      rw [this]
      omega
    rw [decide_eq_decide.2 (h p), decide_eq_decide.2 (h q)]
  rw [e]
  apply List.map_congr_left
  intro i _
  show V.int (1 + (i : Int)) = V.int ((i + 1 : Nat) : Int)
  congr 1
  omega
section
variable {P : Program} {w : World} {K : PySem.W.Frag} {mg : Str → Option Value} {base : Heap}
/-- one op other in a lambda that is heard -/
theorem w_many (T : Tx K mg) {p a : Addr} {ns : List Int} {TT : List (Addr × Str)} {kn : Hp} {n i j : Nat} {σ : L2.St} {Q : V → Hp → Nat → Prop} {op : Operator} {f : Bool → Bool → Bool} {x y : Addr} {t u : List Bool}
    (hx : σ[i]? = some (some (.ref x))) (hy : σ[j]? = some (some (.ref y))) (dx : DayAt T.c_Days kn x t) (dy : DayAt T.c_Days kn y u)
    (q : ∀ k', Ext kn k' → Q (.bl (decide (7 < Nat.lcm t.length u.length))) k' n) :
    W (penC p a ns TT) (tLam TT (TTm T) (fun EE => tOp (rOwn K op T.c_Days (liftX (bJoin f T.c_Days T.c_TooMany)) EE) (tVar i) (tVar j)) σ) kn n Q := by
  refine w_lamM T fun EE hE => ?_
  refine w_op (w_var hx (w_var hy ?_))
  obtain ⟨ddx, q1, z1, z2⟩ := dx.at_
  obtain ⟨ddy, q2, y1, y2⟩ := dy.at_
  refine r_own mo_join hE z1 (T.own_Days.ty y1) .own ⟨x, y, t, u, rfl, dx, dy, fun h7 r L hi b k' e n' d => ?_, fun h7 d k' e n' hd => ⟨rfl, d, rfl, hd, ?_⟩⟩
  · have := q k' e
    rw [decide_eq_false (by omega)] at this
    exact this
  · have := q k' e
    rw [decide_eq_true h7] at this
    exact this
theorem ok__law_refused_right (T : Tx K mg) (TB : TabB base mg T.cc__law_refused_right T.tp__law_refused_right) : L2.FnG P w K mg base CX0 24 T.f__law_refused_right T.d__law_refused_right ["pen"] (liftP (tabsT T) 4 bTrue) := by
  obtain ⟨oc, od, kV, doc, pm, an, cdH, ct, osl, hfd, lkH, hcdH⟩ := T.F__law_many.ex
  have bdH := T.bd__law_many
  rw [hfd] at bdH lkH
  refine T.F__law_refused_right.okGC sc__law_refused_right (fun vs H Q E h => ?_) (fun A outer s H vs Q E hr hg h => ?_)
  · obtain ⟨p, a, ns, n, kn, ws, rfl, _, _, rfl, _⟩ := h
    rfl
  · obtain ⟨p, a, ns, n, kn, ws, rfl, g, hn, rfl, h⟩ := h
    refine ⟨_, (pss_cons (ps_set (i := 1) sc__law_refused_right.nd rfl (by first | exact Or.inl rfl | exact Or.inr rfl) (pe_lst (pa_cons (pe_tup (pa_cons pe_int (pa_cons (pe_lst (pa_cons pe_int (pa_cons pe_int pa_nil))) pa_nil))) (pa_cons (pe_tup (pa_cons pe_int (pa_cons (pe_lst (pa_cons pe_int pa_nil)) pa_nil))) (pa_cons (pe_tup (pa_cons pe_int (pa_cons (pe_lst (pa_cons pe_int (pa_cons pe_int pa_nil))) pa_nil))) (pa_cons (pe_tup (pa_cons pe_int (pa_cons (pe_lst (pa_cons pe_int (pa_cons pe_int pa_nil))) pa_nil))) (pa_cons (pe_tup (pa_cons pe_int (pa_cons (pe_lst (pa_cons pe_int (pa_cons pe_int (pa_cons pe_int pa_nil)))) pa_nil))) (pa_cons (pe_tup (pa_cons pe_int (pa_cons (pe_lst (pa_cons pe_int pa_nil)) pa_nil))) (pa_cons (pe_tup (pa_cons pe_int (pa_cons (pe_lst (pa_cons pe_int (pa_cons pe_int (pa_cons pe_int (pa_cons pe_int (pa_cons pe_int pa_nil)))))) pa_nil))) pa_nil)))))))))
       (pss_cons (ps_set (i := 1) sc__law_refused_right.nd rfl (by first | exact Or.inl rfl | exact Or.inr rfl) (pe_op op_cat (pv 1) (pe_op op_repQ (pe_lst (pa_cons (pe_tup (pa_cons (pe_op op_add pe_int (pe_call (ok__law_draw T) (hr.mono (by decide)) (by rfl) T.g__law_draw T.F__law_draw.kp T.bd__law_draw .nil pass0 (pa_cons (pv 0) (pa_cons pe_int pa_nil)))) (pa_cons (pe_lst (pa_cons pe_int pa_nil)) pa_nil))) pa_nil)) pe_int)))
       (pss_cons (ps_par (i := 2) (j := 3) (by rfl) sc__law_refused_right.nd rfl rfl (by decide) rfl rfl (pa_cons (pe_call (ok__law_pick T (tabsT T)) (hr.mono (by decide)) (by rfl) T.g__law_pick T.F__law_pick.kp T.bd__law_pick .nil pass0 (pa_cons (pv 0) (pa_cons (pv 1) pa_nil))) (pa_cons (pe_call (ok__law_pick T (tabsT T)) (hr.mono (by decide)) (by rfl) T.g__law_pick T.F__law_pick.kp T.bd__law_pick .nil pass0 (pa_cons (pv 0) (pa_cons (pv 1) pa_nil))) pa_nil)) (by rfl))
       (pss_cons (ps_asg (pe_tup (pa_cons (pe_make T.mk_Days (ok_Days___init__ T) (hr.mono (by decide)) (by rfl) T.g_Days T.bd_Days___init__ .nil passL (pa_cons (pe_ix ix_tup (pv 2) pe_int (fun _ _ => rfl)) (pa_cons (pe_ix ix_tup (pv 2) pe_int (fun _ _ => rfl)) pa_nil))) (pa_cons (pe_make T.mk_Days (ok_Days___init__ T) (hr.mono (by decide)) (by rfl) T.g_Days T.bd_Days___init__ .nil passL (pa_cons (pe_ix ix_tup (pv 3) pe_int (fun _ _ => rfl)) (pa_cons (pe_ix ix_tup (pv 3) pe_int (fun _ _ => rfl)) pa_nil))) pa_nil))) (pg_tup (by rfl) (pgs_cons (pg_name (i := 4) sc__law_refused_right.nd rfl (by first | exact Or.inl rfl | exact Or.inr rfl)) (pgs_cons (pg_name (i := 5) sc__law_refused_right.nd rfl (by first | exact Or.inl rfl | exact Or.inr rfl)) pgs_nil))))
       (pss_cons (ps_set (i := 6) sc__law_refused_right.nd rfl (by first | exact Or.inl rfl | exact Or.inr rfl) (pe_ix (show IxR _ (rIxL K) from ix_list) (pe_lc (own := [("k", 7)]) (g := gName 7) (by rfl) sc__law_refused_right.nd (pi_range2 (by rfl) T.b_range (pa_cons pe_int (pa_cons pe_int pa_nil))) (blkOk_by (own := [("k", 7)]) (N := ["pen", "told", "here", "there", "one", "other", "together", "k"]) (sc := defScope s__law_refused_right) (by decide +kernel)) (fun _ _ _ _ _ => pg_name (i := 7) sc__law_refused_right.nd rfl (Or.inl rfl)) (fun _ _ _ _ _ => (pts_one (PW.pt (pw_and (pt_cmpR op_eq (pe_op op_mod (pe_callTy c_int (by rfl) T.b_int boot_int (pa_cons (pv 7) pa_nil)) (pe_prop (pv 4) T.cl_Days T.pp_Days_period (ok_Days_period T) (hr.mono (by decide)) T.bd_Days_period .nil pass0 (by rfl))) pe_int (nomark _)) (pw_and1 (pt_cmpR op_eq (pe_op op_mod (pe_callTy c_int (by rfl) T.b_int boot_int (pa_cons (pv 7) pa_nil)) (pe_prop (pv 5) T.cl_Days T.pp_Days_period (ok_Days_period T) (hr.mono (by decide)) T.bd_Days_period .nil pass0 (by rfl))) pe_int (nomark _))))))) (fun _ _ _ _ _ => (pv 7))) pe_int (fun _ _ => rfl)))
       (pss_cons (ps_set (i := 1) sc__law_refused_right.nd rfl (by first | exact Or.inl rfl | exact Or.inr rfl) (pe_lst (pa_cons (pe_lamcall (T := tabsT T) (TT := TTm T) (t := fun EE => tOp (rOwn K .BitAnd T.c_Days (liftX (bJoin and T.c_Days T.c_TooMany)) EE) (tVar 4) (tVar 5)) (k := 14) (by rfl) T.g__law_many T.F__law_many.kp lkH hcdH bdH sc__law_many rfl (Or.inl rfl) (gives_many T rfl rfl rfl rfl (hr.mono (by decide))) TB T.code__law_refused_right (by first | exact .head _ | exact .tail _ (.head _)) (tabs__law_refused_right T) (hr.mono (by decide)) (lamS_by (sc := defScope s__law_refused_right) (by decide +kernel)) rfl (fun _ _ _ _ _ => rfl) (fun AL outerL sL HL EL fL cL hr => (pe_op (op_own T.op_Days_and (ok_Days___and__ T) (hr.mono (by decide)) T.bd_Days___and__ (passes_call (takes_of rfl rfl rfl rfl) (fun _ _ _ _ h => h))) (pv 4) (pv 5)))) pa_nil)))
       (pss_cons (ps_expr (pe_bm PySem.F.plainAttrs_list PySem.F.slot_list_append PySem.F.type_list_append mt_append (pv 1) (pa_cons (pe_lamcall (T := tabsT T) (TT := TTm T) (t := fun EE => tOp (rOwn K .BitOr T.c_Days (liftX (bJoin or T.c_Days T.c_TooMany)) EE) (tVar 4) (tVar 5)) (k := 14) (by rfl) T.g__law_many T.F__law_many.kp lkH hcdH bdH sc__law_many rfl (Or.inl rfl) (gives_many T rfl rfl rfl rfl (hr.mono (by decide))) TB T.code__law_refused_right (by first | exact .head _ | exact .tail _ (.head _)) (tabs__law_refused_right T) (hr.mono (by decide)) (lamS_by (sc := defScope s__law_refused_right) (by decide +kernel)) rfl (fun _ _ _ _ _ => rfl) (fun AL outerL sL HL EL fL cL hr => (pe_op (op_own T.op_Days_or (ok_Days___or__ T) (hr.mono (by decide)) T.bd_Days___or__ (passes_call (takes_of rfl rfl rfl rfl) (fun _ _ _ _ h => h))) (pv 4) (pv 5)))) pa_nil)))
       (pss_cons (ps_expr (pe_bm PySem.F.plainAttrs_list PySem.F.slot_list_append PySem.F.type_list_append mt_append (pv 1) (pa_cons (pe_lamcall (T := tabsT T) (TT := TTm T) (t := fun EE => tOp (rOwn K .Sub T.c_Days (liftX (bJoin andn T.c_Days T.c_TooMany)) EE) (tVar 4) (tVar 5)) (k := 14) (by rfl) T.g__law_many T.F__law_many.kp lkH hcdH bdH sc__law_many rfl (Or.inl rfl) (gives_many T rfl rfl rfl rfl (hr.mono (by decide))) TB T.code__law_refused_right (by first | exact .head _ | exact .tail _ (.head _)) (tabs__law_refused_right T) (hr.mono (by decide)) (lamS_by (sc := defScope s__law_refused_right) (by decide +kernel)) rfl (fun _ _ _ _ _ => rfl) (fun AL outerL sL HL EL fL cL hr => (pe_op (op_own T.op_Days_sub (ok_Days___sub__ T) (hr.mono (by decide)) T.bd_Days___sub__ (passes_call (takes_of rfl rfl rfl rfl) (fun _ _ _ _ h => h))) (pv 4) (pv 5)))) pa_nil)))
       (pss_one (ps_ret (pe_cmpR op_eq (pe_callB (c_repr hg (room_u128 hr)) (by rfl) T.b_repr (by decide +kernel) (pa_cons (pv 1) pa_nil)) (pe_callB (c_repr hg (room_u128 hr)) (by rfl) T.b_repr (by decide +kernel) (pa_cons (pe_op op_repQ (pe_lst (pa_cons (pe_cmpR op_gt (pv 6) pe_int (nomark _)) pa_nil)) pe_int) pa_nil)) (nomark _)))))))))))), ?_⟩
    refine body_of g ?_
    walk_at "w"
    refine ⟨show 2 ≤ 1000 by decide, fun b1 h1 => ?_⟩
    walk_at "w"
    refine ⟨show 2 ≤ 1000 by decide, fun c1 g1 => ?_⟩
    have x1 : Ext kn (upd (upd kn b1 (.lst [.int 1, .int 3])) c1 (.tup [.int 4, .ref b1])) := ext_tr (ext_new h1) (ext_new g1)
    have p1 : PlainAt (upd (upd kn b1 (.lst [.int 1, .int 3])) c1 (.tup [.int 4, .ref b1])) c1 4 [1, 3] := ⟨⟨b1, upd_same, know g1 upd_same⟩, by decide, by decide, by decide, by decide⟩
    generalize upd (upd kn b1 (.lst [.int 1, .int 3])) c1 (.tup [.int 4, .ref b1]) = k1 at x1 p1 ⊢
    clear h1 g1
    walk_at "w"
    refine ⟨show 1 ≤ 1000 by decide, fun b2 h1 => ?_⟩
    walk_at "w"
    refine ⟨show 2 ≤ 1000 by decide, fun c2 g1 => ?_⟩
    have x2 : Ext k1 (upd (upd k1 b2 (.lst [.int 0])) c2 (.tup [.int 3, .ref b2])) := ext_tr (ext_new h1) (ext_new g1)
    have p2 : PlainAt (upd (upd k1 b2 (.lst [.int 0])) c2 (.tup [.int 3, .ref b2])) c2 3 [0] := ⟨⟨b2, upd_same, know g1 upd_same⟩, by decide, by decide, by decide, by decide⟩
    generalize upd (upd k1 b2 (.lst [.int 0])) c2 (.tup [.int 3, .ref b2]) = k2 at x2 p2 ⊢
    clear h1 g1
    walk_at "w"
    refine ⟨show 2 ≤ 1000 by decide, fun b3 h1 => ?_⟩
    walk_at "w"
    refine ⟨show 2 ≤ 1000 by decide, fun c3 g1 => ?_⟩
    have x3 : Ext k2 (upd (upd k2 b3 (.lst [.int 0, .int 3])) c3 (.tup [.int 6, .ref b3])) := ext_tr (ext_new h1) (ext_new g1)
    have p3 : PlainAt (upd (upd k2 b3 (.lst [.int 0, .int 3])) c3 (.tup [.int 6, .ref b3])) c3 6 [0, 3] := ⟨⟨b3, upd_same, know g1 upd_same⟩, by decide, by decide, by decide, by decide⟩
    generalize upd (upd k2 b3 (.lst [.int 0, .int 3])) c3 (.tup [.int 6, .ref b3]) = k3 at x3 p3 ⊢
    clear h1 g1
    walk_at "w"
    refine ⟨show 2 ≤ 1000 by decide, fun b4 h1 => ?_⟩
    walk_at "w"
    refine ⟨show 2 ≤ 1000 by decide, fun c4 g1 => ?_⟩
    have x4 : Ext k3 (upd (upd k3 b4 (.lst [.int 0, .int 2])) c4 (.tup [.int 4, .ref b4])) := ext_tr (ext_new h1) (ext_new g1)
    have p4 : PlainAt (upd (upd k3 b4 (.lst [.int 0, .int 2])) c4 (.tup [.int 4, .ref b4])) c4 4 [0, 2] := ⟨⟨b4, upd_same, know g1 upd_same⟩, by decide, by decide, by decide, by decide⟩
    generalize upd (upd k3 b4 (.lst [.int 0, .int 2])) c4 (.tup [.int 4, .ref b4]) = k4 at x4 p4 ⊢
    clear h1 g1
    walk_at "w"
    refine ⟨show 3 ≤ 1000 by decide, fun b5 h1 => ?_⟩
    walk_at "w"
    refine ⟨show 2 ≤ 1000 by decide, fun c5 g1 => ?_⟩
    have x5 : Ext k4 (upd (upd k4 b5 (.lst [.int 1, .int 3, .int 5])) c5 (.tup [.int 6, .ref b5])) := ext_tr (ext_new h1) (ext_new g1)
    have p5 : PlainAt (upd (upd k4 b5 (.lst [.int 1, .int 3, .int 5])) c5 (.tup [.int 6, .ref b5])) c5 6 [1, 3, 5] := ⟨⟨b5, upd_same, know g1 upd_same⟩, by decide, by decide, by decide, by decide⟩
    generalize upd (upd k4 b5 (.lst [.int 1, .int 3, .int 5])) c5 (.tup [.int 6, .ref b5]) = k5 at x5 p5 ⊢
    clear h1 g1
    walk_at "w"
    refine ⟨show 1 ≤ 1000 by decide, fun b6 h1 => ?_⟩
    walk_at "w"
    refine ⟨show 2 ≤ 1000 by decide, fun c6 g1 => ?_⟩
    have x6 : Ext k5 (upd (upd k5 b6 (.lst [.int 2])) c6 (.tup [.int 7, .ref b6])) := ext_tr (ext_new h1) (ext_new g1)
    have p6 : PlainAt (upd (upd k5 b6 (.lst [.int 2])) c6 (.tup [.int 7, .ref b6])) c6 7 [2] := ⟨⟨b6, upd_same, know g1 upd_same⟩, by decide, by decide, by decide, by decide⟩
    generalize upd (upd k5 b6 (.lst [.int 2])) c6 (.tup [.int 7, .ref b6]) = k6 at x6 p6 ⊢
    clear h1 g1
    walk_at "w"
    refine ⟨show 5 ≤ 1000 by decide, fun b7 h1 => ?_⟩
    walk_at "w"
    refine ⟨show 2 ≤ 1000 by decide, fun c7 g1 => ?_⟩
    have x7 : Ext k6 (upd (upd k6 b7 (.lst [.int 0, .int 1, .int 2, .int 3, .int 4])) c7 (.tup [.int 5, .ref b7])) := ext_tr (ext_new h1) (ext_new g1)
    have p7 : PlainAt (upd (upd k6 b7 (.lst [.int 0, .int 1, .int 2, .int 3, .int 4])) c7 (.tup [.int 5, .ref b7])) c7 5 [0, 1, 2, 3, 4] := ⟨⟨b7, upd_same, know g1 upd_same⟩, by decide, by decide, by decide, by decide⟩
    generalize upd (upd k6 b7 (.lst [.int 0, .int 1, .int 2, .int 3, .int 4])) c7 (.tup [.int 5, .ref b7]) = k7 at x7 p7 ⊢
    clear h1 g1
    walk_at "w"
    refine ⟨show 7 ≤ 1000 by decide, fun l8 hl8 => ?_⟩
    have x8 : Ext k7 (upd k7 l8 (.lst [.ref c1, .ref c2, .ref c3, .ref c4, .ref c5, .ref c6, .ref c7])) := ext_new hl8
    have hl : (upd k7 l8 (.lst [.ref c1, .ref c2, .ref c3, .ref c4, .ref c5, .ref c6, .ref c7])) l8 = some (.lst [.ref c1, .ref c2, .ref c3, .ref c4, .ref c5, .ref c6, .ref c7]) := upd_same
    generalize upd k7 l8 (.lst [.ref c1, .ref c2, .ref c3, .ref c4, .ref c5, .ref c6, .ref c7]) = k8 at x8 hl ⊢
    clear hl8
    walk_at "w"
    refine w_draw ?_
    walk_at "w"
    refine ⟨by omega, by decide, by decide, fun d0 d00 d01 => ?_⟩
    obtain ⟨d, hd⟩ : ∃ d : Nat, 1 + d0 = d := ⟨(1 + d0).toNat, by omega⟩
    walk_at "w"
    rw [hd]
    refine ⟨show 1 ≤ 1000 by decide, fun b9 h1 => ?_⟩
    walk_at "w"
    refine ⟨show 2 ≤ 1000 by decide, fun c9 g1 => ?_⟩
    have x9 : Ext k8 (upd (upd k8 b9 (.lst [.int 0])) c9 (.tup [.int d, .ref b9])) := ext_tr (ext_new h1) (ext_new g1)
    have p9 : PlainAt (upd (upd k8 b9 (.lst [.int 0])) c9 (.tup [.int d, .ref b9])) c9 d [0] := ⟨⟨b9, upd_same, know g1 upd_same⟩, by omega, by omega, fun y hy => by rw [List.mem_singleton.1 hy]; omega, by decide⟩
    generalize upd (upd k8 b9 (.lst [.int 0])) c9 (.tup [.int d, .ref b9]) = k9 at x9 p9 ⊢
    clear h1 g1
    walk_at "w"
    refine ⟨show 1 ≤ 1000 by decide, fun l9 hl9 => ?_⟩
    walk_at "w"
    refine r_repQ upd_same (by omega) (by omega) (show 1 * 7 ≤ 100000 by decide) fun l10 hl10 => ?_
    have hl10' := know (o := .lst (List.replicate (7 : Int).toNat [V.ref c9]).flatten) hl10 (know (o := .lst [.ref c9]) hl9 (x9 _ _ hl))
    refine r_cat hl10' upd_same (show 7 + 7 ≤ 1000 by decide) fun lt hlt => ?_
    have xT : Ext k9 (upd (upd (upd k9 l9 (.lst [.ref c9])) l10 (.lst (List.replicate (7 : Int).toNat [V.ref c9]).flatten)) lt (.lst ([.ref c1, .ref c2, .ref c3, .ref c4, .ref c5, .ref c6, .ref c7] ++ (List.replicate (7 : Int).toNat [V.ref c9]).flatten))) := ext_tr (ext_new hl9) (ext_tr (ext_new hl10) (ext_new hlt))
    have hT : (upd (upd (upd k9 l9 (.lst [.ref c9])) l10 (.lst (List.replicate (7 : Int).toNat [V.ref c9]).flatten)) lt (.lst ([.ref c1, .ref c2, .ref c3, .ref c4, .ref c5, .ref c6, .ref c7] ++ (List.replicate (7 : Int).toNat [V.ref c9]).flatten))) lt = some (.lst ([.ref c1, .ref c2, .ref c3, .ref c4, .ref c5, .ref c6, .ref c7] ++ (List.replicate (7 : Int).toNat [V.ref c9]).flatten)) := upd_same
    generalize upd (upd (upd k9 l9 (.lst [.ref c9])) l10 (.lst (List.replicate (7 : Int).toNat [V.ref c9]).flatten)) lt (.lst ([.ref c1, .ref c2, .ref c3, .ref c4, .ref c5, .ref c6, .ref c7] ++ (List.replicate (7 : Int).toNat [V.ref c9]).flatten)) = kT at xT hT ⊢
    have all : ∀ v ∈ ([.ref c1, .ref c2, .ref c3, .ref c4, .ref c5, .ref c6, .ref c7] ++ (List.replicate (7 : Int).toNat [V.ref c9]).flatten : List V), ∃ q s ys, v = .ref q ∧ PlainAt kT q s ys := by
      intro v hv
      rcases List.mem_append.1 hv with hv | hv
      · simp only [List.mem_cons, List.mem_nil_iff, or_false] at hv
        have y7 := ext_tr x8 (ext_tr x9 xT)
        have y6 := ext_tr x7 y7
        have y5 := ext_tr x6 y6
        have y4 := ext_tr x5 y5
        have y3 := ext_tr x4 y4
        have y2 := ext_tr x3 y3
        have y1 := ext_tr x2 y2
        rcases hv with rfl | rfl | rfl | rfl | rfl | rfl | rfl
        · exact ⟨_, _, _, rfl, PlainAt.ext y1 p1⟩
        · exact ⟨_, _, _, rfl, PlainAt.ext y2 p2⟩
        · exact ⟨_, _, _, rfl, PlainAt.ext y3 p3⟩
        · exact ⟨_, _, _, rfl, PlainAt.ext y4 p4⟩
        · exact ⟨_, _, _, rfl, PlainAt.ext y5 p5⟩
        · exact ⟨_, _, _, rfl, PlainAt.ext y6 p6⟩
        · exact ⟨_, _, _, rfl, PlainAt.ext y7 p7⟩
      · have : v = .ref c9 := by
          have e7 : (7 : Int).toNat = 7 := rfl
          rw [e7] at hv
          simp only [List.replicate, List.flatten_cons, List.flatten_nil, List.append_nil, List.cons_append, List.nil_append, List.mem_cons, List.mem_nil_iff, or_false, or_self] at hv
          exact hv
        rw [this]
        exact ⟨_, _, _, rfl, PlainAt.ext xT p9⟩
    have hlen : ([.ref c1, .ref c2, .ref c3, .ref c4, .ref c5, .ref c6, .ref c7] ++ (List.replicate (7 : Int).toNat [V.ref c9]).flatten : List V).length = 14 := rfl
    have xF : Ext kn kT := ext_tr x1 (ext_tr x2 (ext_tr x3 (ext_tr x4 (ext_tr x5 (ext_tr x6 (ext_tr x7 (ext_tr x8 (ext_tr x9 xT))))))))
    generalize ([.ref c1, .ref c2, .ref c3, .ref c4, .ref c5, .ref c6, .ref c7] ++ (List.replicate (7 : Int).toNat [V.ref c9]).flatten : List V) = vs at all hlen hT ⊢
    clear x1 x2 x3 x4 x5 x6 x7 x8 x9 xT p1 p2 p3 p4 p5 p6 p7 p9 hl hl9 hl10 hl10' hlt
    walk_at "w"
    refine w_callP mo_pick err_no ?_
    walk_at "w"
    refine ⟨by omega, lt, vs, rfl, hT, by omega, by omega, fun v1 hv1 => ?_⟩
    obtain ⟨q1, s1, ys1, rfl, P1⟩ := all v1 hv1
    walk_at "w"
    refine w_callP mo_pick err_no ?_
    walk_at "w"
    refine ⟨by omega, lt, vs, rfl, hT, by omega, by omega, fun v2 hv2 => ?_⟩
    obtain ⟨q2, s2, ys2, rfl, P2⟩ := all v2 hv2
    clear all hv1 hv2
    walk_at "w"
    refine ⟨_, _, rfl, ?_⟩
    walk_at "w"
    refine w_dayP rfl P1 fun a1 k1 e1 n1 d1 => ?_
    walk_at "w"
    refine w_dayP rfl (PlainAt.ext e1 P2) fun a2 k2 e2 n2 d2 => ?_
    walk_at "w"
    refine ⟨show 2 ≤ 1000 by decide, fun q0 hq0 => ?_⟩
    refine g_tup upd_same rfl ?_
    walk_at "w"
    have d1 := DayAt.ext (ext_tr e2 (ext_new (o := .tup [.ref a1, .ref a2]) hq0)) d1
    have d2 := DayAt.ext (ext_new (o := .tup [.ref a1, .ref a2]) hq0) d2
    have e3 := ext_tr xF (ext_tr e1 (ext_tr e2 (ext_new (o := .tup [.ref a1, .ref a2]) hq0)))
    generalize upd k2 q0 (.tup [.ref a1, .ref a2]) = k3 at d1 d2 e3 ⊢
    clear hq0 n1 n2 e1 e2 P1 P2 xF hT
    generalize formT s1 ys1 = t at d1 ⊢
    generalize formT s2 ys2 = u at d2 ⊢
    have tp := d1.least.pos; have tl := d1.least.le; have up := d2.least.pos; have ul := d2.least.le
    refine w_lcP (i_rng2 ?_)
    walk_at "w"
    refine ⟨1, 50, rfl, ⟨by decide, by decide, by decide, by decide⟩, ?_⟩
    refine ⟨_, (fun _ => True), fun v => v, fTog t.length u.length, gives_rng, by rw [List.length_map, List.length_range]; decide, fun _ _ => trivial, fun x hx k ek => ?_, fun D hD => ?_⟩
    · obtain ⟨i, hi, rfl⟩ := List.mem_map.1 hx
      walk_at "w"
      refine ⟨rfl, ?_⟩
      walk_at "w"
      refine w_per rfl (DayAt.ext ek d1) ?_
      refine r_I (by omega) ?_
      walk_at "w"
      rw [int_eq]
      have ef : fTog t.length u.length (.int (1 + (i : Int))) = (decide ((1 + (i : Int)) % (t.length : Int) = 0) && decide ((1 + (i : Int)) % (u.length : Int) = 0)) := rfl
      refine ⟨fun h1 => ?_, fun h1 => ?_⟩
      · walk_at "w"
        refine w_per rfl (DayAt.ext ek d2) ?_
        refine r_I (by omega) ?_
        walk_at "w"
        · rw [int_eq, ef, h1, Bool.true_and]
        · refine ⟨rfl, fun _ => ?_⟩
          exact w_var rfl ⟨rfl, rfl, rfl⟩
      · exact ⟨by rw [ef, h1, Bool.false_and], rfl, rfl, fun z => by rw [ef, h1, Bool.false_and] at z; cases z⟩
    · rw [List.map_id', show ((50 : Int) - 1).toNat = 49 from rfl, tog_filter] at *
      have tg := tog_all t.length (by omega) u.length (by omega) tp up
      walk_at "w"
      refine r_ixL (v := .int (Nat.lcm t.length u.length : Nat)) upd_same (atI_nat (j := 0) ?_) ?_
      · unfold natV
        rw [List.getElem?_map, tg]
        rfl
      clear tg
      have e4 : Ext k3 (upd k3 D (.lst (natV (((List.range 49).map (· + 1)).filter fun k => decide (k % t.length = 0) && decide (k % u.length = 0))))) := ext_new hD
      generalize upd k3 D (.lst (natV (((List.range 49).map (· + 1)).filter fun k => decide (k % t.length = 0) && decide (k % u.length = 0)))) = k4 at e4 ⊢
      clear hD
      have d1 := DayAt.ext e4 d1
      have d2 := DayAt.ext e4 d2
      have e5 := ext_tr e3 e4
      clear e4 e3
      walk_at "w"
      refine w_many T rfl rfl d1 d2 fun k5 e6 => ?_
      walk_at "w"
      refine ⟨show 1 ≤ 1000 by decide, fun l hl0 => ?_⟩
      have d1 := DayAt.ext e6 d1
      have d2 := DayAt.ext e6 d2
      have e5 := ext_tr e5 e6
      have eL : Ext k5 (upd k5 l (.lst [V.bl (decide (7 < Nat.lcm t.length u.length))])) := ext_new hl0
      have hl : (upd k5 l (.lst [V.bl (decide (7 < Nat.lcm t.length u.length))])) l = some (.lst [V.bl (decide (7 < Nat.lcm t.length u.length))]) := upd_same
      generalize upd k5 l (.lst [V.bl (decide (7 < Nat.lcm t.length u.length))]) = k6 at eL hl ⊢
      clear e6
      walk_at "w"
      refine w_append rfl hl ?_
      refine w_cons (w_many T rfl rfl (DayAt.ext eL d1) (DayAt.ext eL d2) fun k7 e7 => ?_)
      walk_at "w"
      refine ⟨_, [V.bl (decide (7 < Nat.lcm t.length u.length))], rfl, e7 _ _ hl, (show 1 ≤ 1000 by decide), ?_⟩
      have eL := kput hl0 (o := .lst ([V.bl (decide (7 < Nat.lcm t.length u.length))] ++ [.bl (decide (7 < Nat.lcm t.length u.length))])) (ext_tr eL e7)
      have hl : (upd k7 l (.lst ([V.bl (decide (7 < Nat.lcm t.length u.length))] ++ [.bl (decide (7 < Nat.lcm t.length u.length))]))) l = some (.lst [V.bl (decide (7 < Nat.lcm t.length u.length)), .bl (decide (7 < Nat.lcm t.length u.length))]) := upd_same
      generalize upd k7 l (.lst ([V.bl (decide (7 < Nat.lcm t.length u.length))] ++ [.bl (decide (7 < Nat.lcm t.length u.length))])) = kk2 at eL hl ⊢
      clear e7
      walk_at "w"
      refine w_append rfl hl ?_
      refine w_cons (w_many T rfl rfl (DayAt.ext eL d1) (DayAt.ext eL d2) fun k7 e7 => ?_)
      walk_at "w"
      refine ⟨_, [V.bl (decide (7 < Nat.lcm t.length u.length)), .bl (decide (7 < Nat.lcm t.length u.length))], rfl, e7 _ _ hl, (show 2 ≤ 1000 by decide), ?_⟩
      have eL := kput hl0 (o := .lst ([V.bl (decide (7 < Nat.lcm t.length u.length)), .bl (decide (7 < Nat.lcm t.length u.length))] ++ [.bl (decide (7 < Nat.lcm t.length u.length))])) (ext_tr eL e7)
      have hl : (upd k7 l (.lst ([V.bl (decide (7 < Nat.lcm t.length u.length)), .bl (decide (7 < Nat.lcm t.length u.length))] ++ [.bl (decide (7 < Nat.lcm t.length u.length))]))) l = some (.lst [V.bl (decide (7 < Nat.lcm t.length u.length)), .bl (decide (7 < Nat.lcm t.length u.length)), .bl (decide (7 < Nat.lcm t.length u.length))]) := upd_same
      generalize upd k7 l (.lst ([V.bl (decide (7 < Nat.lcm t.length u.length)), .bl (decide (7 < Nat.lcm t.length u.length))] ++ [.bl (decide (7 < Nat.lcm t.length u.length))])) = kk3 at eL hl ⊢
      clear e7
      walk_at "w"
      have xL := ext_tr e5 eL
      clear d1 d2 e5 eL
      generalize Nat.lcm t.length u.length = L at hl ⊢
      have ed : decide (7 < L) = decide (7 < (L : Int)) := decide_eq_decide.2 ⟨fun z => by omega, fun z => by omega⟩
      rw [ed] at hl
      refine r_reprB3 hl ?_
      walk_at "w"
      refine ⟨show 1 ≤ 1000 by decide, fun z1 hz1 => ?_⟩
      walk_at "w"
      refine r_repQ upd_same (by omega) (by omega) (show 1 * 3 ≤ 100000 by decide) fun z2 hz2 => ?_
      walk_at "w"
      refine r_reprB3 upd_same ?_
      walk_at "w"
      exact fin_at (by omega) (h _ (ext_tr xL (ext_tr (ext_new hz1) (ext_new hz2))))
end

end NN

namespace NN
open PySem PySem.Spec PyProof.Rows L2 LamX AW ClX
open Tx1 Ln
def spLaw {K : PySem.W.Frag} {mg : Str → Option Value} (T : Tx K mg) : Sp := fun vs H Q _ => ∃ (sc : Addr) (ns : List Int), vs = [.ref sc] ∧ SqL K H sc (ns.map V.int) ∧ Tabs (tabsT T) H ∧ ∀ H', Q (.bl true) H'
theorem gname_run {i : Nat} {v : V} {σ : L2.St} {H : Hp} {N : L2.St → Hp → Prop} (h : N (σ.set i (some v)) H) : gName i v σ H N := h
theorem tabs_new {T : List (Addr × Str)} {H : Hp} (h : ∀ p ∈ T, H p.1 = some (.tbl #[])) : Tabs T H := fun p hp => ⟨#[], h p hp, by simp [TriplesOk], fun pos cv hc => by simp [codeAmong] at hc⟩
section
variable {K : PySem.W.Frag} {mg : Str → Option Value}
theorem w_on (T : Tx K mg) {c : Cw} {kn : Hp} {n : Nat} {σ : L2.St} {Q : V → Hp → Nat → Prop} {E : XK} {tA : TA} {p : Nat} {ys : List Nat} (h1 : 1 ≤ p) (h2 : p ≤ 7) (hy : ∀ y ∈ ys, y < p) (hl : ys.length ≤ 100)
    (h : W c (tA σ) kn n fun vs kn1 n1 => vs = .int p :: natV ys ∧ kn1 = kn ∧ n1 = n) (q : ∀ s k, Ext kn k → DayAt T.c_Days k s (formT p ys) → Q (.ref s) k n) : W c (tSMeth T.c_Days (spStar 1 (bOn K T.c_Days T.c_BadDays)) E (tC (.ref T.c_Days)) tA σ) kn n Q := by
  refine w_smethS (EA := fun _ _ _ _ => False) mo_on err_no (w_c ⟨rfl, h.mono fun vs kn1 n1 hv => ?_⟩)
  obtain ⟨rfl, rfl, rfl⟩ := hv
  refine ⟨[.int p], natV ys, rfl, rfl, by rw [List.length_map]; omega, fun p5 hp5 => ?_⟩
  exact ⟨_, _, rfl, make_good h1 h2 hy (by omega) ⟨p5, rfl, .inr (.inl upd_same)⟩ fun s k e _ d => q s k (ext_tr (ext_new hp5) e) d⟩
end
def GrpAt (k : Hp) (l : Addr) : Prop := ∃ ns : List Nat, k l = some (.lst (natV ns)) ∧ 0 < ns.length ∧ ns.length ≤ 100 ∧ (∀ n ∈ ns, 1 ≤ n ∧ n ≤ 7) ∧ ∀ s ∈ ns, ∀ s' ∈ ns, Nat.lcm s s' ≤ 7
section
variable {P : Program} {w : World} {K : PySem.W.Frag} {mg : Str → Option Value} {base : Heap}
theorem ok_law (T : Tx K mg) (TBp : TabB base mg T.cc__law_refused_right T.tp__law_refused_right) : L2.FnG P w K mg base CX0 40 T.f_law T.d_law ["script"] (spLaw T) := by
  refine T.F_law.okG sc_law (fun vs H Q E h => ?_) (fun cdv A outer s H vs Q E hr hg h => ?_)
  · obtain ⟨sc, ns, rfl, _⟩ := h
    rfl
  · obtain ⟨sc, ns, rfl, hs, hT, h⟩ := h
    have cL := T.cl_Days
    refine ⟨_, (pss_cons (ps_set (i := 1) sc_law.nd rfl (by first | exact Or.inl rfl | exact Or.inr rfl) (pe_call (ok__law_pen T) (hr.mono (by decide)) (by rfl) T.g__law_pen T.F__law_pen.kp T.bd__law_pen .nil pass0 (pa_cons (pv 0) pa_nil)))
       (pss_cons (ps_for PassesOwn.never rfl (pi_range1 (by rfl) T.b_range (pa_cons pe_int pa_nil)) (pg_name (i := 2) sc_law.nd rfl (by first | exact Or.inl rfl | exact Or.inr rfl))
       (pss_cons (ps_set (i := 3) sc_law.nd rfl (by first | exact Or.inl rfl | exact Or.inr rfl) (pe_call (ok__law_pick T (tabsT T)) (hr.mono (by decide)) (by rfl) T.g__law_pick T.F__law_pick.kp T.bd__law_pick .nil pass0 (pa_cons (pv 1) (pa_cons (pe_lst (pa_cons (pe_lst (pa_cons pe_int (pa_cons pe_int (pa_cons pe_int (pa_cons pe_int pa_nil))))) (pa_cons (pe_lst (pa_cons pe_int (pa_cons pe_int (pa_cons pe_int pa_nil)))) (pa_cons (pe_lst (pa_cons pe_int (pa_cons pe_int pa_nil))) (pa_cons (pe_lst (pa_cons pe_int (pa_cons pe_int pa_nil))) pa_nil))))) pa_nil))))
       (pss_cons (ps_par (i := 4) (j := 5) (by rfl) sc_law.nd rfl rfl (by decide) rfl rfl (pa_cons (pe_call (ok__law_plain T (tabsT T)) (hr.mono (by decide)) (by rfl) T.g__law_plain T.F__law_plain.kp T.bd__law_plain .nil pass0 (pa_cons (pv 1) (pa_cons (pv 3) pa_nil))) (pa_cons (pe_call (ok__law_plain T (tabsT T)) (hr.mono (by decide)) (by rfl) T.g__law_plain T.F__law_plain.kp T.bd__law_plain .nil pass0 (pa_cons (pv 1) (pa_cons (pv 3) pa_nil))) pa_nil)) (by rfl))
       (pss_cons (ps_set (i := 6) sc_law.nd rfl (by first | exact Or.inl rfl | exact Or.inr rfl) (pe_call (ok__law_plain T (tabsT T)) (hr.mono (by decide)) (by rfl) T.g__law_plain T.F__law_plain.kp T.bd__law_plain .nil pass0 (pa_cons (pv 1) (pa_cons (pe_lst (pa_cons pe_int (pa_cons pe_int (pa_cons pe_int (pa_cons pe_int (pa_cons pe_int (pa_cons pe_int (pa_cons pe_int pa_nil)))))))) pa_nil))))
       (pss_cons (ps_if (PW.pt (pw_or (pt_not (pt_val (pe_call (ok__law_joined_right T (tabsT T)) (hr.mono (by decide)) (by rfl) T.g__law_joined_right T.F__law_joined_right.kp T.bd__law_joined_right .nil pass0 (pa_cons (pv 1) (pa_cons (pv 4) (pa_cons (pv 5) pa_nil)))))) (pw_or1 (pt_not (pt_val (pe_callG hg (ok__law_order_right T) (hr.mono (by decide)) (by rfl) T.g__law_order_right T.F__law_order_right.kp T.bd__law_order_right .nil pass0 (pa_cons (pv 4) (pa_cons (pv 5) pa_nil))))))))
       (pss_one (ps_ret pe_bl))
       pss_nil)
       (pss_one (ps_if (PW.pt (pw_or (pt_not (pt_val (pe_callG hg (ok__law_order_right T) (hr.mono (by decide)) (by rfl) T.g__law_order_right T.F__law_order_right.kp T.bd__law_order_right .nil pass0 (pa_cons (pv 4) (pa_cons (pv 6) pa_nil))))) (pw_or (pt_not (pt_val (pe_call (ok__law_moved_right T (tabsT T)) (hr.mono (by decide)) (by rfl) T.g__law_moved_right T.F__law_moved_right.kp T.bd__law_moved_right .nil pass0 (pa_cons (pv 1) (pa_cons (pv 4) pa_nil))))) (pw_or1 (pt_not (pt_val (pe_callG hg (ok__law_refused_right T TBp) (hr.mono (by decide)) (by rfl) T.g__law_refused_right T.F__law_refused_right.kp T.bd__law_refused_right .nil pass0 (pa_cons (pv 1) pa_nil))))))))
       (pss_one (ps_ret pe_bl))
       pss_nil)))))))
       (pss_one (ps_ret (pe_and (pe_cmpR (op_eqO T.eq_Days (ok_Days___eq__ T) (hr.mono (by decide)) T.bd_Days___eq__ pass0) (pe_op (op_own T.op_Days_rshift (ok_Days___rshift__ T) (hr.mono (by decide)) T.bd_Days___rshift__ passL) (pe_smeth (pe_glob (v := .ref T.c_Days) (by rfl) T.g_Days rfl) T.cr_Days T.sme_Days_on (oR_Days_on T) (hr.mono (by decide)) passL (pa_cons pe_int (pa_cons pe_int pa_nil))) pe_int) (pe_smeth (pe_glob (v := .ref T.c_Days) (by rfl) T.g_Days rfl) T.cr_Days T.sme_Days_on (oR_Days_on T) (hr.mono (by decide)) passL (pa_cons pe_int (pa_cons pe_int pa_nil))) (nomark _)) (pe_one (pe_not (pe_cmpR (op_cmpO (fun _ _ => rfl) T.cm_Days_le (ok_Days___le__ T) (hr.mono (by decide)) T.bd_Days___le__ pass0) (pe_smeth (pe_glob (v := .ref T.c_Days) (by rfl) T.g_Days rfl) T.cr_Days T.sme_Days_on (oR_Days_on T) (hr.mono (by decide)) passL (pa_cons pe_int (pa_cons pe_int pa_nil))) (pe_smeth (pe_glob (v := .ref T.c_Days) (by rfl) T.g_Days rfl) T.cr_Days T.sme_Days_on (oR_Days_on T) (hr.mono (by decide)) passL (pa_cons pe_int (pa_cons pe_int pa_nil))) (nomark _))))))))), ?_⟩
    refine ⟨_, rfl, sc, ns, rfl, hs, fun p a ns' H1 pa hp ha h1 h2 eH => ?_⟩
    have g1 : AW.Good (penC p a ns' (tabsT T)) (fun _ => none) 0 H1 := ⟨fun x o z => (by cases z), ⟨⟨⟨0, 0, h1, by omega, by omega, by omega⟩, h2, pa⟩, Tabs.keep (fun b o z _ => eH b o z) hT⟩, fun _ _ => rfl, fun x o z => (by cases z)⟩
    refine gname_run ?_
    dsimp only
    refine body_of g1 ?_
    refine s_seq ?_
    refine s_join (fun σ' kn' n' => n' ≤ 400 ∧ ∃ x0 x2 x3 x4 x5 x6, σ' = [x0, some (.ref p), x2, x3, x4, x5, x6]) ?_ ?_
    · refine s_forR1 (j := 5) (fun i σ' kn' n' => n' ≤ 40 * i ∧ ∃ x0 x2 x3 x4 x5 x6, σ' = [x0, some (.ref p), x2, x3, x4, x5, x6]) ?_ ?_ ?_
      · walk_at "w"
        refine ⟨rfl, by decide, by decide, by omega, ?_⟩
        exact ⟨_, _, _, _, _, _, rfl⟩
      · rintro i σ' kn n hi ⟨hn, x0, x2, x3, x4, x5, x6, rfl⟩
        have hi8 : i < 5 := hi
        walk_at "w"
        refine w_callP mo_pick err_no ?_
        walk_at "w"
        refine ⟨show 4 ≤ 1000 by decide, fun b1 h1 => ?_⟩
        walk_at "w"
        refine ⟨show 3 ≤ 1000 by decide, fun b2 h2 => ?_⟩
        walk_at "w"
        refine ⟨show 2 ≤ 1000 by decide, fun b3 h3 => ?_⟩
        walk_at "w"
        refine ⟨show 2 ≤ 1000 by decide, fun b4 h4 => ?_⟩
        walk_at "w"
        refine ⟨show 4 ≤ 1000 by decide, fun b5 h5 => ?_⟩
        walk_at "w"
        refine ⟨by omega, _, _, rfl, upd_same, show 0 < 4 by decide, show 4 ≤ 1000 by decide, fun v hv => ?_⟩
        have grp : ∃ l, v = .ref l ∧ GrpAt (upd (upd (upd (upd (upd kn b1 (.lst [.int 1, .int 2, .int 3, .int 6])) b2 (.lst [.int 1, .int 2, .int 4])) b3 (.lst [.int 1, .int 5])) b4 (.lst [.int 1, .int 7])) b5 (.lst [.ref b1, .ref b2, .ref b3, .ref b4])) l := by
          simp only [List.mem_cons, List.mem_nil_iff, or_false] at hv
          rcases hv with rfl | rfl | rfl | rfl
          · exact ⟨_, rfl, [1, 2, 3, 6], know h5 (know h4 (know h3 (know h2 upd_same))), by decide, by decide, by decide, by decide⟩
          · exact ⟨_, rfl, [1, 2, 4], know h5 (know h4 (know h3 upd_same)), by decide, by decide, by decide, by decide⟩
          · exact ⟨_, rfl, [1, 5], know h5 (know h4 upd_same), by decide, by decide, by decide, by decide⟩
          · exact ⟨_, rfl, [1, 7], know h5 upd_same, by decide, by decide, by decide, by decide⟩
        generalize upd (upd (upd (upd (upd kn b1 (.lst [.int 1, .int 2, .int 3, .int 6])) b2 (.lst [.int 1, .int 2, .int 4])) b3 (.lst [.int 1, .int 5])) b4 (.lst [.int 1, .int 7])) b5 (.lst [.ref b1, .ref b2, .ref b3, .ref b4]) = k1 at grp ⊢
        obtain ⟨l, rfl, ms, hl, m0, m1, mr, ml⟩ := grp
        clear hv h1 h2 h3 h4 h5
        walk_at "w"
        refine w_callP mo_plain err_no ?_
        walk_at "w"
        refine ⟨by omega, l, ms, rfl, hl, m0, m1, mr, fun q s ys k2 e2 pa1 hs1 => ?_⟩
        walk_at "w"
        refine w_callP mo_plain err_no ?_
        walk_at "w"
        refine ⟨by omega, l, ms, rfl, e2 _ _ hl, m0, m1, mr, fun q' s' ys' k3 e3 pa2 hs2 => ?_⟩
        walk_at "w"
        refine ⟨_, _, rfl, ?_⟩
        walk_at "w"
        refine w_callP mo_plain err_no ?_
        walk_at "w"
        refine ⟨show 7 ≤ 1000 by decide, fun b6 h6 => ?_⟩
        walk_at "w"
        refine ⟨by omega, b6, [1, 2, 3, 4, 5, 6, 7], rfl, upd_same, by decide, by decide, by decide, fun q3 s3 ys3 k4 e4 pa3 hs3 => ?_⟩
        have e5 := ext_tr (ext_new h6) e4
        have pa1 := PlainAt.ext (ext_tr e3 e5) pa1
        have pa2 := PlainAt.ext e5 pa2
        have ll := ml s hs1 s' hs2
        clear e2 e3 e4 e5 h6 hs1 hs2 hs3 hl m0 m1 mr ml
        walk_at "wi"
        refine w_callP mo_JR err_no ?_
        walk_at "wi"
        refine ⟨by omega, q, s, ys, q', s', ys', rfl, pa1, pa2, ll, fun k5 e5 => ?_⟩
        walk_at "wi"
        refine w_call mo_ord err_no ?_
        walk_at "wi"
        refine ⟨q, s, ys, q', s', ys', rfl, PlainAt.ext e5 pa1, PlainAt.ext e5 pa2, fun k6 e6 => ?_⟩
        walk_at "wi"
        refine w_call mo_ord err_no ?_
        walk_at "wi"
        refine ⟨q, s, ys, q3, s3, ys3, rfl, PlainAt.ext (ext_tr e5 e6) pa1, PlainAt.ext (ext_tr e5 e6) pa3, fun k7 e7 => ?_⟩
        walk_at "wi"
        refine w_callP mo_mov err_no ?_
        walk_at "wi"
        refine ⟨by omega, q, s, ys, rfl, PlainAt.ext (ext_tr e5 (ext_tr e6 e7)) pa1, fun k8 e8 => ?_⟩
        walk_at "wi"
        refine w_callP mo_true err_no ?_
        walk_at "wi"
        refine ⟨by omega, rfl, fun k9 e9 => ?_⟩
        walk_at "wi"
        exact ⟨by omega, _, _, _, _, _, _, rfl⟩
      · rintro σ' kn' n' ⟨hn, q⟩
        exact ⟨by omega, q⟩
    · rintro σ' kn n ⟨hn, x0, x2, x3, x4, x5, x6, rfl⟩
      walk_at "wi"
      refine w_on T (p := 7) (ys := [3]) (by decide) (by decide) (by decide) (by decide) ?_ fun s1 k1 e1 d1 => ?_
      · walk_at "w"
        all_goals first | exact ⟨rfl, rfl, rfl⟩ | exact ⟨rfl, rfl⟩ | rfl
      walk_at "wi"
      obtain ⟨ddx, q1, z1, z2⟩ := d1.at_
      refine r_own (EA := fun _ _ _ _ => False) mo_sh err_no z1 (.base (.int _)) (ot_int_shr T.si_Days) ⟨s1, _, 3, rfl, d1, fun r L hi x k2 e2 _ d2 => ?_⟩
      walk_at "wi"
      refine w_on T (p := 7) (ys := [6]) (by decide) (by decide) (by decide) (by decide) ?_ fun s2 k3 e3 d3 => ?_
      · walk_at "w"
        all_goals first | exact ⟨rfl, rfl, rfl⟩ | exact ⟨rfl, rfl⟩ | rfl
      refine r_eqDD T (DayAt.ext e3 d2) d3 ?_
      have er : r = formT 7 [6] := inD_uniq L d3.least fun x => by
        rw [hi, Int.one_mul, inD_form (by decide), inD_form (by decide)]
        refine decide_eq_decide.2 ?_
        simp only [List.mem_singleton]
        have := Int.emod_nonneg x (show (7 : Int) ≠ 0 by decide)
        have := Int.emod_nonneg (x - 3) (show (7 : Int) ≠ 0 by decide)
        omega
      rw [if_neg Bool.false_ne_true, decide_eq_true er]
      walk_at "wi"
      refine w_on T (p := 5) (ys := [0]) (by decide) (by decide) (by decide) (by decide) ?_ fun s4 k4 e4 d4 => ?_
      · walk_at "w"
        all_goals first | exact ⟨rfl, rfl, rfl⟩ | exact ⟨rfl, rfl⟩ | rfl
      walk_at "wi"
      refine w_on T (p := 7) (ys := [0]) (by decide) (by decide) (by decide) (by decide) ?_ fun s5 k5 e5 d5 => ?_
      · walk_at "w"
        all_goals first | exact ⟨rfl, rfl, rfl⟩ | exact ⟨rfl, rfl⟩ | rfl
      refine r_leD T (DayAt.ext e5 d4) d5 fun k6 e6 => ?_
      rw [show subB (formT 5 [0]) (formT 7 [0]) = false by decide +kernel]
      walk_at "wi"
      exact fun H' _ => h H'
end
/-- the law at its head -/
theorem law_at {l : PySem.W.OpenLaw} {w : World} {K : PySem.W.Frag} {mg : Str → Option Value} {h : Heap} {fa : Addr} (T : Tx K mg) (hfa : T.f_law = fa) (hc1 : PySem.W.CodeHd h T.cc__law_refused_right T.tp__law_refused_right)
    (hg1 : h.get? T.tp__law_refused_right = some { cls := .none, data := .fields #[] }) (hn1 : K.lookup T.tp__law_refused_right = none) : LawAtG l w K CX0 40 63 "script" mg fa h := by
  subst hfa
  refine ⟨T.d_law, [(T.cc__law_refused_right, T.tp__law_refused_right)], spLaw T, ?_, ?_, ?_, ?_, ?_, ?_⟩
  · intro p hp
    rcases List.mem_cons.mp hp with rfl | hp
    · exact hg1
    · cases hp
  · intro p hp
    rcases List.mem_cons.mp hp with rfl | hp
    · exact hn1
    · cases hp
  · intro p hp
    rcases List.mem_cons.mp hp with rfl | hp
    · exact hc1
    · cases hp
  · intro s u
    obtain ⟨oc, od, kV, doc, pm, an, cdv, ct, osl, hfd, _, _⟩ := T.F_law.ex
    rw [hfd]
    exact BindsTo.of_eq (by rfl)
  · intro H a nums hl hb ht hs
    refine ⟨a, nums, rfl, hs, tabs_new fun p hp => ?_, fun H' => rfl⟩
    rcases List.mem_cons.mp hp with rfl | hp
    · exact ht _ (.head _)
    · cases hp
  · intro base hK hNs ht
    exact ok_law T (ht _ (.head _))

end NN

namespace NN
open PySem PySem.Spec PyProof.Rows L2 LamX AW ClX
theorem all_mk {K : PySem.W.Frag} {h : Heap} {mg : Str → Option Value} {l : PySem.W.OpenLaw} {w : World} {fa : Addr} (hfa : mg "law" = some (.ref fa)) (X : K.In h) (G : h.Ns mainGlobals mg)
    {f_is_whole : Addr}
    {oc_is_whole : Value}
    {kV_is_whole : Value}
    {dc_is_whole : Value}
    {pm_is_whole : Value}
    {cd_is_whole : Value}
    {ct_is_whole : Value}
    {od_is_whole : Option Addr}
    {an_is_whole : Option Addr}
    {sl_is_whole : Array (Option Value)}
    {f_is_from : Addr}
    {oc_is_from : Value}
    {kV_is_from : Value}
    {dc_is_from : Value}
    {pm_is_from : Value}
    {cd_is_from : Value}
    {ct_is_from : Value}
    {od_is_from : Option Addr}
    {an_is_from : Option Addr}
    {sl_is_from : Array (Option Value)}
    {f_are_from : Addr}
    {oc_are_from : Value}
    {kV_are_from : Value}
    {dc_are_from : Value}
    {pm_are_from : Value}
    {cd_are_from : Value}
    {ct_are_from : Value}
    {od_are_from : Option Addr}
    {an_are_from : Option Addr}
    {sl_are_from : Array (Option Value)}
    {f_marked : Addr}
    {oc_marked : Value}
    {kV_marked : Value}
    {dc_marked : Value}
    {pm_marked : Value}
    {cd_marked : Value}
    {ct_marked : Value}
    {od_marked : Option Addr}
    {an_marked : Option Addr}
    {sl_marked : Array (Option Value)}
    {f_least_period : Addr}
    {oc_least_period : Value}
    {kV_least_period : Value}
    {dc_least_period : Value}
    {pm_least_period : Value}
    {cd_least_period : Value}
    {ct_least_period : Value}
    {od_least_period : Option Addr}
    {an_least_period : Option Addr}
    {sl_least_period : Array (Option Value)}
    {f_common_period : Addr}
    {oc_common_period : Value}
    {kV_common_period : Value}
    {dc_common_period : Value}
    {pm_common_period : Value}
    {cd_common_period : Value}
    {ct_common_period : Value}
    {od_common_period : Option Addr}
    {an_common_period : Option Addr}
    {sl_common_period : Array (Option Value)}
    {c_StayError : Addr}
    {c_BadDays : Addr}
    {nm_BadDays : Str}
    {q_BadDays : Str}
    {N_BadDays : Addr}
    {bs_BadDays : List Value}
    {bm_BadDays : List Value}
    {sn_BadDays : List Str}
    {sub_BadDays : List Value}
    {ab_BadDays : Bool}
    {col_BadDays : Option Bool}
    {dd_BadDays : Option Addr}
    {m0_BadDays : Option Value}
    {m1_BadDays : Option Value}
    {m2_BadDays : Option Value}
    {m3_BadDays : Option Value}
    {m5_BadDays : Option Value}
    {f_BadDays___init__ : Addr}
    {oc_BadDays___init__ : Value}
    {kV_BadDays___init__ : Value}
    {dc_BadDays___init__ : Value}
    {pm_BadDays___init__ : Value}
    {cd_BadDays___init__ : Value}
    {ct_BadDays___init__ : Value}
    {od_BadDays___init__ : Option Addr}
    {an_BadDays___init__ : Option Addr}
    {sl_BadDays___init__ : Array (Option Value)}
    {c_TooMany : Addr}
    {nm_TooMany : Str}
    {q_TooMany : Str}
    {N_TooMany : Addr}
    {bs_TooMany : List Value}
    {bm_TooMany : List Value}
    {sn_TooMany : List Str}
    {sub_TooMany : List Value}
    {ab_TooMany : Bool}
    {col_TooMany : Option Bool}
    {dd_TooMany : Option Addr}
    {m0_TooMany : Option Value}
    {m1_TooMany : Option Value}
    {m2_TooMany : Option Value}
    {m3_TooMany : Option Value}
    {m5_TooMany : Option Value}
    {f_TooMany___init__ : Addr}
    {oc_TooMany___init__ : Value}
    {kV_TooMany___init__ : Value}
    {dc_TooMany___init__ : Value}
    {pm_TooMany___init__ : Value}
    {cd_TooMany___init__ : Value}
    {ct_TooMany___init__ : Value}
    {od_TooMany___init__ : Option Addr}
    {an_TooMany___init__ : Option Addr}
    {sl_TooMany___init__ : Array (Option Value)}
    {c_Days : Addr}
    {f_Days___init__ : Addr}
    {oc_Days___init__ : Value}
    {kV_Days___init__ : Value}
    {dc_Days___init__ : Value}
    {pm_Days___init__ : Value}
    {cd_Days___init__ : Value}
    {ct_Days___init__ : Value}
    {od_Days___init__ : Option Addr}
    {an_Days___init__ : Option Addr}
    {sl_Days___init__ : Array (Option Value)}
    {f_Days___eq__ : Addr}
    {oc_Days___eq__ : Value}
    {kV_Days___eq__ : Value}
    {dc_Days___eq__ : Value}
    {pm_Days___eq__ : Value}
    {cd_Days___eq__ : Value}
    {ct_Days___eq__ : Value}
    {od_Days___eq__ : Option Addr}
    {an_Days___eq__ : Option Addr}
    {sl_Days___eq__ : Array (Option Value)}
    {f_Days___str__ : Addr}
    {oc_Days___str__ : Value}
    {kV_Days___str__ : Value}
    {dc_Days___str__ : Value}
    {pm_Days___str__ : Value}
    {cd_Days___str__ : Value}
    {ct_Days___str__ : Value}
    {od_Days___str__ : Option Addr}
    {an_Days___str__ : Option Addr}
    {sl_Days___str__ : Array (Option Value)}
    {f_Days___contains__ : Addr}
    {oc_Days___contains__ : Value}
    {kV_Days___contains__ : Value}
    {dc_Days___contains__ : Value}
    {pm_Days___contains__ : Value}
    {cd_Days___contains__ : Value}
    {ct_Days___contains__ : Value}
    {od_Days___contains__ : Option Addr}
    {an_Days___contains__ : Option Addr}
    {sl_Days___contains__ : Array (Option Value)}
    {f_Days___and__ : Addr}
    {oc_Days___and__ : Value}
    {kV_Days___and__ : Value}
    {dc_Days___and__ : Value}
    {pm_Days___and__ : Value}
    {cd_Days___and__ : Value}
    {ct_Days___and__ : Value}
    {od_Days___and__ : Option Addr}
    {an_Days___and__ : Option Addr}
    {sl_Days___and__ : Array (Option Value)}
    {f_Days___or__ : Addr}
    {oc_Days___or__ : Value}
    {kV_Days___or__ : Value}
    {dc_Days___or__ : Value}
    {pm_Days___or__ : Value}
    {cd_Days___or__ : Value}
    {ct_Days___or__ : Value}
    {od_Days___or__ : Option Addr}
    {an_Days___or__ : Option Addr}
    {sl_Days___or__ : Array (Option Value)}
    {f_Days___sub__ : Addr}
    {oc_Days___sub__ : Value}
    {kV_Days___sub__ : Value}
    {dc_Days___sub__ : Value}
    {pm_Days___sub__ : Value}
    {cd_Days___sub__ : Value}
    {ct_Days___sub__ : Value}
    {od_Days___sub__ : Option Addr}
    {an_Days___sub__ : Option Addr}
    {sl_Days___sub__ : Array (Option Value)}
    {f_Days___invert__ : Addr}
    {oc_Days___invert__ : Value}
    {kV_Days___invert__ : Value}
    {dc_Days___invert__ : Value}
    {pm_Days___invert__ : Value}
    {cd_Days___invert__ : Value}
    {ct_Days___invert__ : Value}
    {od_Days___invert__ : Option Addr}
    {an_Days___invert__ : Option Addr}
    {sl_Days___invert__ : Array (Option Value)}
    {f_Days___rshift__ : Addr}
    {oc_Days___rshift__ : Value}
    {kV_Days___rshift__ : Value}
    {dc_Days___rshift__ : Value}
    {pm_Days___rshift__ : Value}
    {cd_Days___rshift__ : Value}
    {ct_Days___rshift__ : Value}
    {od_Days___rshift__ : Option Addr}
    {an_Days___rshift__ : Option Addr}
    {sl_Days___rshift__ : Array (Option Value)}
    {f_Days___lshift__ : Addr}
    {oc_Days___lshift__ : Value}
    {kV_Days___lshift__ : Value}
    {dc_Days___lshift__ : Value}
    {pm_Days___lshift__ : Value}
    {cd_Days___lshift__ : Value}
    {ct_Days___lshift__ : Value}
    {od_Days___lshift__ : Option Addr}
    {an_Days___lshift__ : Option Addr}
    {sl_Days___lshift__ : Array (Option Value)}
    {f_Days___le__ : Addr}
    {oc_Days___le__ : Value}
    {kV_Days___le__ : Value}
    {dc_Days___le__ : Value}
    {pm_Days___le__ : Value}
    {cd_Days___le__ : Value}
    {ct_Days___le__ : Value}
    {od_Days___le__ : Option Addr}
    {an_Days___le__ : Option Addr}
    {sl_Days___le__ : Array (Option Value)}
    {f_Days___lt__ : Addr}
    {oc_Days___lt__ : Value}
    {kV_Days___lt__ : Value}
    {dc_Days___lt__ : Value}
    {pm_Days___lt__ : Value}
    {cd_Days___lt__ : Value}
    {ct_Days___lt__ : Value}
    {od_Days___lt__ : Option Addr}
    {an_Days___lt__ : Option Addr}
    {sl_Days___lt__ : Array (Option Value)}
    {f_Days___ge__ : Addr}
    {oc_Days___ge__ : Value}
    {kV_Days___ge__ : Value}
    {dc_Days___ge__ : Value}
    {pm_Days___ge__ : Value}
    {cd_Days___ge__ : Value}
    {ct_Days___ge__ : Value}
    {od_Days___ge__ : Option Addr}
    {an_Days___ge__ : Option Addr}
    {sl_Days___ge__ : Array (Option Value)}
    {f_Days___gt__ : Addr}
    {oc_Days___gt__ : Value}
    {kV_Days___gt__ : Value}
    {dc_Days___gt__ : Value}
    {pm_Days___gt__ : Value}
    {cd_Days___gt__ : Value}
    {ct_Days___gt__ : Value}
    {od_Days___gt__ : Option Addr}
    {an_Days___gt__ : Option Addr}
    {sl_Days___gt__ : Array (Option Value)}
    {cd_Days : ClassData}
    {f_Days_none : Addr}
    {p_Days_none : Addr}
    {rest_Days_none : List Value}
    {oc_Days_none : Value}
    {kV_Days_none : Value}
    {dc_Days_none : Value}
    {pm_Days_none : Value}
    {cd_Days_none : Value}
    {ct_Days_none : Value}
    {od_Days_none : Option Addr}
    {an_Days_none : Option Addr}
    {sl_Days_none : Array (Option Value)}
    {f_Days_on : Addr}
    {p_Days_on : Addr}
    {rest_Days_on : List Value}
    {oc_Days_on : Value}
    {kV_Days_on : Value}
    {dc_Days_on : Value}
    {pm_Days_on : Value}
    {cd_Days_on : Value}
    {ct_Days_on : Value}
    {od_Days_on : Option Addr}
    {an_Days_on : Option Addr}
    {sl_Days_on : Array (Option Value)}
    {f_Days_period : Addr}
    {p_Days_period : Addr}
    {rest_Days_period : List Value}
    {oc_Days_period : Value}
    {kV_Days_period : Value}
    {dc_Days_period : Value}
    {pm_Days_period : Value}
    {cd_Days_period : Value}
    {ct_Days_period : Value}
    {od_Days_period : Option Addr}
    {an_Days_period : Option Addr}
    {sl_Days_period : Array (Option Value)}
    {f__law_pen : Addr}
    {oc__law_pen : Value}
    {kV__law_pen : Value}
    {dc__law_pen : Value}
    {pm__law_pen : Value}
    {cd__law_pen : Value}
    {ct__law_pen : Value}
    {od__law_pen : Option Addr}
    {an__law_pen : Option Addr}
    {sl__law_pen : Array (Option Value)}
    {f__law_draw : Addr}
    {oc__law_draw : Value}
    {kV__law_draw : Value}
    {dc__law_draw : Value}
    {pm__law_draw : Value}
    {cd__law_draw : Value}
    {ct__law_draw : Value}
    {od__law_draw : Option Addr}
    {an__law_draw : Option Addr}
    {sl__law_draw : Array (Option Value)}
    {f__law_pick : Addr}
    {oc__law_pick : Value}
    {kV__law_pick : Value}
    {dc__law_pick : Value}
    {pm__law_pick : Value}
    {cd__law_pick : Value}
    {ct__law_pick : Value}
    {od__law_pick : Option Addr}
    {an__law_pick : Option Addr}
    {sl__law_pick : Array (Option Value)}
    {f__law_plain : Addr}
    {oc__law_plain : Value}
    {kV__law_plain : Value}
    {dc__law_plain : Value}
    {pm__law_plain : Value}
    {cd__law_plain : Value}
    {ct__law_plain : Value}
    {od__law_plain : Option Addr}
    {an__law_plain : Option Addr}
    {sl__law_plain : Array (Option Value)}
    {f__law_has : Addr}
    {oc__law_has : Value}
    {kV__law_has : Value}
    {dc__law_has : Value}
    {pm__law_has : Value}
    {cd__law_has : Value}
    {ct__law_has : Value}
    {od__law_has : Option Addr}
    {an__law_has : Option Addr}
    {sl__law_has : Array (Option Value)}
    {f__law_spots : Addr}
    {oc__law_spots : Value}
    {kV__law_spots : Value}
    {dc__law_spots : Value}
    {pm__law_spots : Value}
    {cd__law_spots : Value}
    {ct__law_spots : Value}
    {od__law_spots : Option Addr}
    {an__law_spots : Option Addr}
    {sl__law_spots : Array (Option Value)}
    {f__law_bound : Addr}
    {oc__law_bound : Value}
    {kV__law_bound : Value}
    {dc__law_bound : Value}
    {pm__law_bound : Value}
    {cd__law_bound : Value}
    {ct__law_bound : Value}
    {od__law_bound : Option Addr}
    {an__law_bound : Option Addr}
    {sl__law_bound : Array (Option Value)}
    {f__law_joined_right : Addr}
    {oc__law_joined_right : Value}
    {kV__law_joined_right : Value}
    {dc__law_joined_right : Value}
    {pm__law_joined_right : Value}
    {cd__law_joined_right : Value}
    {ct__law_joined_right : Value}
    {od__law_joined_right : Option Addr}
    {an__law_joined_right : Option Addr}
    {sl__law_joined_right : Array (Option Value)}
    {f__law_order_right : Addr}
    {oc__law_order_right : Value}
    {kV__law_order_right : Value}
    {dc__law_order_right : Value}
    {pm__law_order_right : Value}
    {cd__law_order_right : Value}
    {ct__law_order_right : Value}
    {od__law_order_right : Option Addr}
    {an__law_order_right : Option Addr}
    {sl__law_order_right : Array (Option Value)}
    {f__law_moved_right : Addr}
    {oc__law_moved_right : Value}
    {kV__law_moved_right : Value}
    {dc__law_moved_right : Value}
    {pm__law_moved_right : Value}
    {cd__law_moved_right : Value}
    {ct__law_moved_right : Value}
    {od__law_moved_right : Option Addr}
    {an__law_moved_right : Option Addr}
    {sl__law_moved_right : Array (Option Value)}
    {f__law_many : Addr}
    {oc__law_many : Value}
    {kV__law_many : Value}
    {dc__law_many : Value}
    {pm__law_many : Value}
    {cd__law_many : Value}
    {ct__law_many : Value}
    {od__law_many : Option Addr}
    {an__law_many : Option Addr}
    {sl__law_many : Array (Option Value)}
    {f__law_refused_right : Addr}
    {oc__law_refused_right : Value}
    {kV__law_refused_right : Value}
    {dc__law_refused_right : Value}
    {pm__law_refused_right : Value}
    {ct__law_refused_right : Value}
    {od__law_refused_right : Option Addr}
    {an__law_refused_right : Option Addr}
    {sl__law_refused_right : Array (Option Value)}
    {f_law : Addr}
    {oc_law : Value}
    {kV_law : Value}
    {dc_law : Value}
    {pm_law : Value}
    {cd_law : Value}
    {ct_law : Value}
    {od_law : Option Addr}
    {an_law : Option Addr}
    {sl_law : Array (Option Value)}
    {t_Days_MOST : Tok}
    {cc__law_refused_right : Addr}
    {tp__law_refused_right : Addr}
    {cob__law_refused_right : Obj}
    (a_is_whole : PySem.W.nsIn K mainGlobals "is_whole" = some (some (.ref f_is_whole)))
    (l_is_whole : K.lookup f_is_whole = some ⟨oc_is_whole, od_is_whole, .func (PySem.W.fnOf "is_whole" "is_whole" (defArgs s_is_whole) (defBody s_is_whole) (defScope s_is_whole) .none kV_is_whole dc_is_whole pm_is_whole an_is_whole cd_is_whole ct_is_whole), sl_is_whole⟩)
    (c_is_whole_ : PySem.W.codeIn K cd_is_whole "is_whole" = true)
    (k_is_whole : PySem.W.keepIn K (.ref f_is_whole) = true)
    (a_is_from : PySem.W.nsIn K mainGlobals "is_from" = some (some (.ref f_is_from)))
    (l_is_from : K.lookup f_is_from = some ⟨oc_is_from, od_is_from, .func (PySem.W.fnOf "is_from" "is_from" (defArgs s_is_from) (defBody s_is_from) (defScope s_is_from) .none kV_is_from dc_is_from pm_is_from an_is_from cd_is_from ct_is_from), sl_is_from⟩)
    (c_is_from_ : PySem.W.codeIn K cd_is_from "is_from" = true)
    (k_is_from : PySem.W.keepIn K (.ref f_is_from) = true)
    (a_are_from : PySem.W.nsIn K mainGlobals "are_from" = some (some (.ref f_are_from)))
    (l_are_from : K.lookup f_are_from = some ⟨oc_are_from, od_are_from, .func (PySem.W.fnOf "are_from" "are_from" (defArgs s_are_from) (defBody s_are_from) (defScope s_are_from) .none kV_are_from dc_are_from pm_are_from an_are_from cd_are_from ct_are_from), sl_are_from⟩)
    (c_are_from_ : PySem.W.codeIn K cd_are_from "are_from" = true)
    (k_are_from : PySem.W.keepIn K (.ref f_are_from) = true)
    (a_marked : PySem.W.nsIn K mainGlobals "marked" = some (some (.ref f_marked)))
    (l_marked : K.lookup f_marked = some ⟨oc_marked, od_marked, .func (PySem.W.fnOf "marked" "marked" (defArgs s_marked) (defBody s_marked) (defScope s_marked) .none kV_marked dc_marked pm_marked an_marked cd_marked ct_marked), sl_marked⟩)
    (c_marked_ : PySem.W.codeIn K cd_marked "marked" = true)
    (k_marked : PySem.W.keepIn K (.ref f_marked) = true)
    (a_least_period : PySem.W.nsIn K mainGlobals "least_period" = some (some (.ref f_least_period)))
    (l_least_period : K.lookup f_least_period = some ⟨oc_least_period, od_least_period, .func (PySem.W.fnOf "least_period" "least_period" (defArgs s_least_period) (defBody s_least_period) (defScope s_least_period) .none kV_least_period dc_least_period pm_least_period an_least_period cd_least_period ct_least_period), sl_least_period⟩)
    (c_least_period_ : PySem.W.codeIn K cd_least_period "least_period" = true)
    (k_least_period : PySem.W.keepIn K (.ref f_least_period) = true)
    (a_common_period : PySem.W.nsIn K mainGlobals "common_period" = some (some (.ref f_common_period)))
    (l_common_period : K.lookup f_common_period = some ⟨oc_common_period, od_common_period, .func (PySem.W.fnOf "common_period" "common_period" (defArgs s_common_period) (defBody s_common_period) (defScope s_common_period) .none kV_common_period dc_common_period pm_common_period an_common_period cd_common_period ct_common_period), sl_common_period⟩)
    (c_common_period_ : PySem.W.codeIn K cd_common_period "common_period" = true)
    (k_common_period : PySem.W.keepIn K (.ref f_common_period) = true)
    (a_StayError : PySem.W.nsIn K mainGlobals "StayError" = some (some (.ref c_StayError)))
    (a_BadDays : PySem.W.nsIn K mainGlobals "BadDays" = some (some (.ref c_BadDays)))
    (h_BadDays_l : K.lookup c_BadDays = some (excClassObj nm_BadDays q_BadDays c_BadDays N_BadDays bs_BadDays bm_BadDays true sn_BadDays sub_BadDays ab_BadDays col_BadDays dd_BadDays m0_BadDays m1_BadDays m2_BadDays m3_BadDays m5_BadDays "ValueError.__new__"))
    (h_BadDays_bm : PySem.HandSPX.refsVE bm_BadDays = true)
    (h_BadDays_sa : PySem.W.findIn K (.ref c_BadDays) "__setattr__" = some (some (.builtin "object.__setattr__")))
    (h_BadDays_ex : PySem.W.subIn K (.ref c_BadDays) (.type "BaseException") = some true)
    (h_BadDays_ty : PySem.W.typeIn K (.ref c_BadDays) = some (.type "type"))
    (h_BadDays_kp : PySem.W.keepIn K (.ref c_BadDays) = true)
    (h_BadDays_ga : PySem.W.findIn K (.ref c_BadDays) "__getattribute__" = some (some (.builtin "BaseException.__getattribute__")))
    (h_BadDays_gg : PySem.W.findIn K (.ref c_BadDays) "__getattr__" = some none)
    (h_BadDays_hd : PySem.W.hasDictIn K c_BadDays = true)
    (h_BadDays_cls : PySem.W.findIn K (.ref c_BadDays) "__class__" = some (some (.builtin "object.__class__")))
    (h_BadDays_mro : PySem.W.mroIn K c_BadDays (.type "object") = some true)
    (h_cget : PySem.W.specialIn K (.builtin "object.__class__") "__get__" = some (some (.builtin "getset_descriptor.__get__")))
    (h_ctak : PySem.W.takesIn K (.builtin "object.__class__") = some true)
    (h_nx_BadDays_part : PySem.W.findIn K (.ref c_BadDays) "part" = some none)
    (a_BadDays___init__ : PySem.W.findIn K (.ref c_BadDays) "__init__" = some (some (.ref f_BadDays___init__)))
    (i_BadDays___init__ : PySem.W.isFn K (.ref f_BadDays___init__) = true)
    (l_BadDays___init__ : K.lookup f_BadDays___init__ = some ⟨oc_BadDays___init__, od_BadDays___init__, .func (PySem.W.fnOf "__init__" "BadDays.__init__" (defArgs s_BadDays___init__) (defBody s_BadDays___init__) (defScope s_BadDays___init__) .none kV_BadDays___init__ dc_BadDays___init__ pm_BadDays___init__ an_BadDays___init__ cd_BadDays___init__ ct_BadDays___init__), sl_BadDays___init__⟩)
    (c_BadDays___init___ : PySem.W.codeIn K cd_BadDays___init__ "BadDays.__init__" = true)
    (k_BadDays___init__ : PySem.W.keepIn K (.ref f_BadDays___init__) = true)
    (t_BadDays___init__ : PySem.W.typeIn K (.ref f_BadDays___init__) = some (.type "function"))
    (a_TooMany : PySem.W.nsIn K mainGlobals "TooMany" = some (some (.ref c_TooMany)))
    (h_TooMany_l : K.lookup c_TooMany = some (excClassObj nm_TooMany q_TooMany c_TooMany N_TooMany bs_TooMany bm_TooMany true sn_TooMany sub_TooMany ab_TooMany col_TooMany dd_TooMany m0_TooMany m1_TooMany m2_TooMany m3_TooMany m5_TooMany "ValueError.__new__"))
    (h_TooMany_bm : PySem.HandSPX.refsVE bm_TooMany = true)
    (h_TooMany_sa : PySem.W.findIn K (.ref c_TooMany) "__setattr__" = some (some (.builtin "object.__setattr__")))
    (h_TooMany_ex : PySem.W.subIn K (.ref c_TooMany) (.type "BaseException") = some true)
    (h_TooMany_ty : PySem.W.typeIn K (.ref c_TooMany) = some (.type "type"))
    (h_TooMany_kp : PySem.W.keepIn K (.ref c_TooMany) = true)
    (h_TooMany_ga : PySem.W.findIn K (.ref c_TooMany) "__getattribute__" = some (some (.builtin "BaseException.__getattribute__")))
    (h_TooMany_gg : PySem.W.findIn K (.ref c_TooMany) "__getattr__" = some none)
    (h_TooMany_hd : PySem.W.hasDictIn K c_TooMany = true)
    (h_TooMany_cls : PySem.W.findIn K (.ref c_TooMany) "__class__" = some (some (.builtin "object.__class__")))
    (h_TooMany_mro : PySem.W.mroIn K c_TooMany (.type "object") = some true)
    (h_nx_TooMany_what : PySem.W.findIn K (.ref c_TooMany) "what" = some none)
    (h_nx_TooMany_most : PySem.W.findIn K (.ref c_TooMany) "most" = some none)
    (a_TooMany___init__ : PySem.W.findIn K (.ref c_TooMany) "__init__" = some (some (.ref f_TooMany___init__)))
    (i_TooMany___init__ : PySem.W.isFn K (.ref f_TooMany___init__) = true)
    (l_TooMany___init__ : K.lookup f_TooMany___init__ = some ⟨oc_TooMany___init__, od_TooMany___init__, .func (PySem.W.fnOf "__init__" "TooMany.__init__" (defArgs s_TooMany___init__) (defBody s_TooMany___init__) (defScope s_TooMany___init__) .none kV_TooMany___init__ dc_TooMany___init__ pm_TooMany___init__ an_TooMany___init__ cd_TooMany___init__ ct_TooMany___init__), sl_TooMany___init__⟩)
    (c_TooMany___init___ : PySem.W.codeIn K cd_TooMany___init__ "TooMany.__init__" = true)
    (k_TooMany___init__ : PySem.W.keepIn K (.ref f_TooMany___init__) = true)
    (t_TooMany___init__ : PySem.W.typeIn K (.ref f_TooMany___init__) = some (.type "function"))
    (a_Days : PySem.W.nsIn K mainGlobals "Days" = some (some (.ref c_Days)))
    (h_Days_pg : PySem.W.plainGet K c_Days Str.empty = true)
    (h_Days_hd : PySem.W.hasDictIn K c_Days = true)
    (h_Days_po : PySem.W.plainOver K c_Days = true)
    (h_Days_sa : PySem.W.findIn K (.ref c_Days) "__setattr__" = some (some (.builtin "object.__setattr__")))
    (h_Days_cls : PySem.W.findIn K (.ref c_Days) "__class__" = some (some (.builtin "object.__class__")))
    (h_Days_get : PySem.W.specialIn K (.builtin "object.__class__") "__get__" = some (some (.builtin "getset_descriptor.__get__")))
    (h_Days_tak : PySem.W.takesIn K (.builtin "object.__class__") = some true)
    (h_Days_mro : PySem.W.mroIn K c_Days (.type "object") = some true)
    (h_na_Days__period : PySem.W.findIn K (.ref c_Days) "_period" = some none)
    (h_na_Days__rests : PySem.W.findIn K (.ref c_Days) "_rests" = some none)
    (h_Days_mk : PySem.W.makesIn K c_Days = true)
    (h_Days_kp : PySem.W.keepIn K (.ref c_Days) = true)
    (a_Days___init__ : PySem.W.findIn K (.ref c_Days) "__init__" = some (some (.ref f_Days___init__)))
    (i_Days___init__ : PySem.W.isFn K (.ref f_Days___init__) = true)
    (l_Days___init__ : K.lookup f_Days___init__ = some ⟨oc_Days___init__, od_Days___init__, .func (PySem.W.fnOf "__init__" "Days.__init__" (defArgs s_Days___init__) (defBody s_Days___init__) (defScope s_Days___init__) .none kV_Days___init__ dc_Days___init__ pm_Days___init__ an_Days___init__ cd_Days___init__ ct_Days___init__), sl_Days___init__⟩)
    (c_Days___init___ : PySem.W.codeIn K cd_Days___init__ "Days.__init__" = true)
    (k_Days___init__ : PySem.W.keepIn K (.ref f_Days___init__) = true)
    (a_Days___eq__ : PySem.W.findIn K (.ref c_Days) "__eq__" = some (some (.ref f_Days___eq__)))
    (i_Days___eq__ : PySem.W.isFn K (.ref f_Days___eq__) = true)
    (l_Days___eq__ : K.lookup f_Days___eq__ = some ⟨oc_Days___eq__, od_Days___eq__, .func (PySem.W.fnOf "__eq__" "Days.__eq__" (defArgs s_Days___eq__) (defBody s_Days___eq__) (defScope s_Days___eq__) .none kV_Days___eq__ dc_Days___eq__ pm_Days___eq__ an_Days___eq__ cd_Days___eq__ ct_Days___eq__), sl_Days___eq__⟩)
    (c_Days___eq___ : PySem.W.codeIn K cd_Days___eq__ "Days.__eq__" = true)
    (k_Days___eq__ : PySem.W.keepIn K (.ref f_Days___eq__) = true)
    (a_Days___str__ : PySem.W.findIn K (.ref c_Days) "__str__" = some (some (.ref f_Days___str__)))
    (i_Days___str__ : PySem.W.isFn K (.ref f_Days___str__) = true)
    (l_Days___str__ : K.lookup f_Days___str__ = some ⟨oc_Days___str__, od_Days___str__, .func (PySem.W.fnOf "__str__" "Days.__str__" (defArgs s_Days___str__) (defBody s_Days___str__) (defScope s_Days___str__) .none kV_Days___str__ dc_Days___str__ pm_Days___str__ an_Days___str__ cd_Days___str__ ct_Days___str__), sl_Days___str__⟩)
    (c_Days___str___ : PySem.W.codeIn K cd_Days___str__ "Days.__str__" = true)
    (k_Days___str__ : PySem.W.keepIn K (.ref f_Days___str__) = true)
    (a_Days___contains__ : PySem.W.findIn K (.ref c_Days) "__contains__" = some (some (.ref f_Days___contains__)))
    (i_Days___contains__ : PySem.W.isFn K (.ref f_Days___contains__) = true)
    (l_Days___contains__ : K.lookup f_Days___contains__ = some ⟨oc_Days___contains__, od_Days___contains__, .func (PySem.W.fnOf "__contains__" "Days.__contains__" (defArgs s_Days___contains__) (defBody s_Days___contains__) (defScope s_Days___contains__) .none kV_Days___contains__ dc_Days___contains__ pm_Days___contains__ an_Days___contains__ cd_Days___contains__ ct_Days___contains__), sl_Days___contains__⟩)
    (c_Days___contains___ : PySem.W.codeIn K cd_Days___contains__ "Days.__contains__" = true)
    (k_Days___contains__ : PySem.W.keepIn K (.ref f_Days___contains__) = true)
    (a_Days___and__ : PySem.W.findIn K (.ref c_Days) "__and__" = some (some (.ref f_Days___and__)))
    (i_Days___and__ : PySem.W.isFn K (.ref f_Days___and__) = true)
    (l_Days___and__ : K.lookup f_Days___and__ = some ⟨oc_Days___and__, od_Days___and__, .func (PySem.W.fnOf "__and__" "Days.__and__" (defArgs s_Days___and__) (defBody s_Days___and__) (defScope s_Days___and__) .none kV_Days___and__ dc_Days___and__ pm_Days___and__ an_Days___and__ cd_Days___and__ ct_Days___and__), sl_Days___and__⟩)
    (c_Days___and___ : PySem.W.codeIn K cd_Days___and__ "Days.__and__" = true)
    (k_Days___and__ : PySem.W.keepIn K (.ref f_Days___and__) = true)
    (a_Days___or__ : PySem.W.findIn K (.ref c_Days) "__or__" = some (some (.ref f_Days___or__)))
    (i_Days___or__ : PySem.W.isFn K (.ref f_Days___or__) = true)
    (l_Days___or__ : K.lookup f_Days___or__ = some ⟨oc_Days___or__, od_Days___or__, .func (PySem.W.fnOf "__or__" "Days.__or__" (defArgs s_Days___or__) (defBody s_Days___or__) (defScope s_Days___or__) .none kV_Days___or__ dc_Days___or__ pm_Days___or__ an_Days___or__ cd_Days___or__ ct_Days___or__), sl_Days___or__⟩)
    (c_Days___or___ : PySem.W.codeIn K cd_Days___or__ "Days.__or__" = true)
    (k_Days___or__ : PySem.W.keepIn K (.ref f_Days___or__) = true)
    (a_Days___sub__ : PySem.W.findIn K (.ref c_Days) "__sub__" = some (some (.ref f_Days___sub__)))
    (i_Days___sub__ : PySem.W.isFn K (.ref f_Days___sub__) = true)
    (l_Days___sub__ : K.lookup f_Days___sub__ = some ⟨oc_Days___sub__, od_Days___sub__, .func (PySem.W.fnOf "__sub__" "Days.__sub__" (defArgs s_Days___sub__) (defBody s_Days___sub__) (defScope s_Days___sub__) .none kV_Days___sub__ dc_Days___sub__ pm_Days___sub__ an_Days___sub__ cd_Days___sub__ ct_Days___sub__), sl_Days___sub__⟩)
    (c_Days___sub___ : PySem.W.codeIn K cd_Days___sub__ "Days.__sub__" = true)
    (k_Days___sub__ : PySem.W.keepIn K (.ref f_Days___sub__) = true)
    (a_Days___invert__ : PySem.W.findIn K (.ref c_Days) "__invert__" = some (some (.ref f_Days___invert__)))
    (i_Days___invert__ : PySem.W.isFn K (.ref f_Days___invert__) = true)
    (l_Days___invert__ : K.lookup f_Days___invert__ = some ⟨oc_Days___invert__, od_Days___invert__, .func (PySem.W.fnOf "__invert__" "Days.__invert__" (defArgs s_Days___invert__) (defBody s_Days___invert__) (defScope s_Days___invert__) .none kV_Days___invert__ dc_Days___invert__ pm_Days___invert__ an_Days___invert__ cd_Days___invert__ ct_Days___invert__), sl_Days___invert__⟩)
    (c_Days___invert___ : PySem.W.codeIn K cd_Days___invert__ "Days.__invert__" = true)
    (k_Days___invert__ : PySem.W.keepIn K (.ref f_Days___invert__) = true)
    (a_Days___rshift__ : PySem.W.findIn K (.ref c_Days) "__rshift__" = some (some (.ref f_Days___rshift__)))
    (i_Days___rshift__ : PySem.W.isFn K (.ref f_Days___rshift__) = true)
    (l_Days___rshift__ : K.lookup f_Days___rshift__ = some ⟨oc_Days___rshift__, od_Days___rshift__, .func (PySem.W.fnOf "__rshift__" "Days.__rshift__" (defArgs s_Days___rshift__) (defBody s_Days___rshift__) (defScope s_Days___rshift__) .none kV_Days___rshift__ dc_Days___rshift__ pm_Days___rshift__ an_Days___rshift__ cd_Days___rshift__ ct_Days___rshift__), sl_Days___rshift__⟩)
    (c_Days___rshift___ : PySem.W.codeIn K cd_Days___rshift__ "Days.__rshift__" = true)
    (k_Days___rshift__ : PySem.W.keepIn K (.ref f_Days___rshift__) = true)
    (a_Days___lshift__ : PySem.W.findIn K (.ref c_Days) "__lshift__" = some (some (.ref f_Days___lshift__)))
    (i_Days___lshift__ : PySem.W.isFn K (.ref f_Days___lshift__) = true)
    (l_Days___lshift__ : K.lookup f_Days___lshift__ = some ⟨oc_Days___lshift__, od_Days___lshift__, .func (PySem.W.fnOf "__lshift__" "Days.__lshift__" (defArgs s_Days___lshift__) (defBody s_Days___lshift__) (defScope s_Days___lshift__) .none kV_Days___lshift__ dc_Days___lshift__ pm_Days___lshift__ an_Days___lshift__ cd_Days___lshift__ ct_Days___lshift__), sl_Days___lshift__⟩)
    (c_Days___lshift___ : PySem.W.codeIn K cd_Days___lshift__ "Days.__lshift__" = true)
    (k_Days___lshift__ : PySem.W.keepIn K (.ref f_Days___lshift__) = true)
    (a_Days___le__ : PySem.W.findIn K (.ref c_Days) "__le__" = some (some (.ref f_Days___le__)))
    (i_Days___le__ : PySem.W.isFn K (.ref f_Days___le__) = true)
    (l_Days___le__ : K.lookup f_Days___le__ = some ⟨oc_Days___le__, od_Days___le__, .func (PySem.W.fnOf "__le__" "Days.__le__" (defArgs s_Days___le__) (defBody s_Days___le__) (defScope s_Days___le__) .none kV_Days___le__ dc_Days___le__ pm_Days___le__ an_Days___le__ cd_Days___le__ ct_Days___le__), sl_Days___le__⟩)
    (c_Days___le___ : PySem.W.codeIn K cd_Days___le__ "Days.__le__" = true)
    (k_Days___le__ : PySem.W.keepIn K (.ref f_Days___le__) = true)
    (a_Days___lt__ : PySem.W.findIn K (.ref c_Days) "__lt__" = some (some (.ref f_Days___lt__)))
    (i_Days___lt__ : PySem.W.isFn K (.ref f_Days___lt__) = true)
    (l_Days___lt__ : K.lookup f_Days___lt__ = some ⟨oc_Days___lt__, od_Days___lt__, .func (PySem.W.fnOf "__lt__" "Days.__lt__" (defArgs s_Days___lt__) (defBody s_Days___lt__) (defScope s_Days___lt__) .none kV_Days___lt__ dc_Days___lt__ pm_Days___lt__ an_Days___lt__ cd_Days___lt__ ct_Days___lt__), sl_Days___lt__⟩)
    (c_Days___lt___ : PySem.W.codeIn K cd_Days___lt__ "Days.__lt__" = true)
    (k_Days___lt__ : PySem.W.keepIn K (.ref f_Days___lt__) = true)
    (a_Days___ge__ : PySem.W.findIn K (.ref c_Days) "__ge__" = some (some (.ref f_Days___ge__)))
    (i_Days___ge__ : PySem.W.isFn K (.ref f_Days___ge__) = true)
    (l_Days___ge__ : K.lookup f_Days___ge__ = some ⟨oc_Days___ge__, od_Days___ge__, .func (PySem.W.fnOf "__ge__" "Days.__ge__" (defArgs s_Days___ge__) (defBody s_Days___ge__) (defScope s_Days___ge__) .none kV_Days___ge__ dc_Days___ge__ pm_Days___ge__ an_Days___ge__ cd_Days___ge__ ct_Days___ge__), sl_Days___ge__⟩)
    (c_Days___ge___ : PySem.W.codeIn K cd_Days___ge__ "Days.__ge__" = true)
    (k_Days___ge__ : PySem.W.keepIn K (.ref f_Days___ge__) = true)
    (a_Days___gt__ : PySem.W.findIn K (.ref c_Days) "__gt__" = some (some (.ref f_Days___gt__)))
    (i_Days___gt__ : PySem.W.isFn K (.ref f_Days___gt__) = true)
    (l_Days___gt__ : K.lookup f_Days___gt__ = some ⟨oc_Days___gt__, od_Days___gt__, .func (PySem.W.fnOf "__gt__" "Days.__gt__" (defArgs s_Days___gt__) (defBody s_Days___gt__) (defScope s_Days___gt__) .none kV_Days___gt__ dc_Days___gt__ pm_Days___gt__ an_Days___gt__ cd_Days___gt__ ct_Days___gt__), sl_Days___gt__⟩)
    (c_Days___gt___ : PySem.W.codeIn K cd_Days___gt__ "Days.__gt__" = true)
    (k_Days___gt__ : PySem.W.keepIn K (.ref f_Days___gt__) = true)
    (h_Days_ne : PySem.W.findIn K (.ref c_Days) "__ne__" = some (some (.builtin "object.__ne__")))
    (h_Days_sf : PySem.W.selfFirst K c_Days = true)
    (h_Days_rand : PySem.W.findIn K (.ref c_Days) "__rand__" = some none)
    (h_Days_iand : PySem.W.findIn K (.ref c_Days) "__iand__" = some none)
    (h_Days_cd : PySem.W.clsIn K c_Days = some cd_Days)
    (h_Days_cm : cd_Days.mro = [.ref c_Days, .type "object"])
    (h_Days_ror : PySem.W.findIn K (.ref c_Days) "__ror__" = some none)
    (h_Days_ior : PySem.W.findIn K (.ref c_Days) "__ior__" = some none)
    (h_Days_rsub : PySem.W.findIn K (.ref c_Days) "__rsub__" = some none)
    (h_Days_isub : PySem.W.findIn K (.ref c_Days) "__isub__" = some none)
    (h_Days_rrshift : PySem.W.findIn K (.ref c_Days) "__rrshift__" = some none)
    (h_Days_rlshift : PySem.W.findIn K (.ref c_Days) "__rlshift__" = some none)
    (h_Days_rd : PySem.W.readsIn K c_Days (.type "type") = true)
    (h_Days_tg : PySem.W.specialIn K (.ref c_Days) "__getattribute__" = some (some (.builtin "type.__getattribute__")))
    (ca_Days_none : PySem.W.findCls K (.ref c_Days) (.type "type") "none" = some (.get (.builtin "staticmethod.__get__") (.ref p_Days_none) .none (.ref c_Days)))
    (cr_Days_none : PySem.W.recIn K p_Days_none "staticmethod" = some (.ref f_Days_none :: rest_Days_none))
    (l_Days_none : K.lookup f_Days_none = some ⟨oc_Days_none, od_Days_none, .func (PySem.W.fnOf "none" "Days.none" (defArgs s_Days_none) (defBody s_Days_none) (defScope s_Days_none) .none kV_Days_none dc_Days_none pm_Days_none an_Days_none cd_Days_none ct_Days_none), sl_Days_none⟩)
    (c_Days_none_ : PySem.W.codeIn K cd_Days_none "Days.none" = true)
    (k_Days_none : PySem.W.keepIn K (.ref f_Days_none) = true)
    (ca_Days_on : PySem.W.findCls K (.ref c_Days) (.type "type") "on" = some (.get (.builtin "staticmethod.__get__") (.ref p_Days_on) .none (.ref c_Days)))
    (cr_Days_on : PySem.W.recIn K p_Days_on "staticmethod" = some (.ref f_Days_on :: rest_Days_on))
    (l_Days_on : K.lookup f_Days_on = some ⟨oc_Days_on, od_Days_on, .func (PySem.W.fnOf "on" "Days.on" (defArgs s_Days_on) (defBody s_Days_on) (defScope s_Days_on) .none kV_Days_on dc_Days_on pm_Days_on an_Days_on cd_Days_on ct_Days_on), sl_Days_on⟩)
    (c_Days_on_ : PySem.W.codeIn K cd_Days_on "Days.on" = true)
    (k_Days_on : PySem.W.keepIn K (.ref f_Days_on) = true)
    (pa_Days_period : PySem.W.findIn K (.ref c_Days) "period" = some (some (.ref p_Days_period)))
    (pg_Days_period : PySem.W.specialIn K (.ref p_Days_period) "__get__" = some (some (.builtin "property.__get__")))
    (pt_Days_period : PySem.W.takesIn K (.ref p_Days_period) = some true)
    (pr_Days_period : PySem.W.recIn K p_Days_period "property" = some (.ref f_Days_period :: rest_Days_period))
    (l_Days_period : K.lookup f_Days_period = some ⟨oc_Days_period, od_Days_period, .func (PySem.W.fnOf "period" "Days.period" (defArgs s_Days_period) (defBody s_Days_period) (defScope s_Days_period) .none kV_Days_period dc_Days_period pm_Days_period an_Days_period cd_Days_period ct_Days_period), sl_Days_period⟩)
    (c_Days_period_ : PySem.W.codeIn K cd_Days_period "Days.period" = true)
    (k_Days_period : PySem.W.keepIn K (.ref f_Days_period) = true)
    (h_exm_TooMany : PySem.W.exmOne K (.ref c_TooMany) (.ref c_TooMany) = some true)
    (h_kit_Days : PySem.W.kitOne K (.ref c_Days) (.ref c_Days) = some true)
    (h_si_Days : PySem.W.subIn K (.type "int") (.ref c_Days) = some false)
    (a_lcm : PySem.W.nsIn K mainGlobals "lcm" = some (some (.builtin "math.lcm")))
    (a__law_pen : PySem.W.nsIn K mainGlobals "_law_pen" = some (some (.ref f__law_pen)))
    (l__law_pen : K.lookup f__law_pen = some ⟨oc__law_pen, od__law_pen, .func (PySem.W.fnOf "_law_pen" "_law_pen" (defArgs s__law_pen) (defBody s__law_pen) (defScope s__law_pen) .none kV__law_pen dc__law_pen pm__law_pen an__law_pen cd__law_pen ct__law_pen), sl__law_pen⟩)
    (c__law_pen_ : PySem.W.codeIn K cd__law_pen "_law_pen" = true)
    (k__law_pen : PySem.W.keepIn K (.ref f__law_pen) = true)
    (a__law_draw : PySem.W.nsIn K mainGlobals "_law_draw" = some (some (.ref f__law_draw)))
    (l__law_draw : K.lookup f__law_draw = some ⟨oc__law_draw, od__law_draw, .func (PySem.W.fnOf "_law_draw" "_law_draw" (defArgs s__law_draw) (defBody s__law_draw) (defScope s__law_draw) .none kV__law_draw dc__law_draw pm__law_draw an__law_draw cd__law_draw ct__law_draw), sl__law_draw⟩)
    (c__law_draw_ : PySem.W.codeIn K cd__law_draw "_law_draw" = true)
    (k__law_draw : PySem.W.keepIn K (.ref f__law_draw) = true)
    (a__law_pick : PySem.W.nsIn K mainGlobals "_law_pick" = some (some (.ref f__law_pick)))
    (l__law_pick : K.lookup f__law_pick = some ⟨oc__law_pick, od__law_pick, .func (PySem.W.fnOf "_law_pick" "_law_pick" (defArgs s__law_pick) (defBody s__law_pick) (defScope s__law_pick) .none kV__law_pick dc__law_pick pm__law_pick an__law_pick cd__law_pick ct__law_pick), sl__law_pick⟩)
    (c__law_pick_ : PySem.W.codeIn K cd__law_pick "_law_pick" = true)
    (k__law_pick : PySem.W.keepIn K (.ref f__law_pick) = true)
    (a__law_plain : PySem.W.nsIn K mainGlobals "_law_plain" = some (some (.ref f__law_plain)))
    (l__law_plain : K.lookup f__law_plain = some ⟨oc__law_plain, od__law_plain, .func (PySem.W.fnOf "_law_plain" "_law_plain" (defArgs s__law_plain) (defBody s__law_plain) (defScope s__law_plain) .none kV__law_plain dc__law_plain pm__law_plain an__law_plain cd__law_plain ct__law_plain), sl__law_plain⟩)
    (c__law_plain_ : PySem.W.codeIn K cd__law_plain "_law_plain" = true)
    (k__law_plain : PySem.W.keepIn K (.ref f__law_plain) = true)
    (a__law_has : PySem.W.nsIn K mainGlobals "_law_has" = some (some (.ref f__law_has)))
    (l__law_has : K.lookup f__law_has = some ⟨oc__law_has, od__law_has, .func (PySem.W.fnOf "_law_has" "_law_has" (defArgs s__law_has) (defBody s__law_has) (defScope s__law_has) .none kV__law_has dc__law_has pm__law_has an__law_has cd__law_has ct__law_has), sl__law_has⟩)
    (c__law_has_ : PySem.W.codeIn K cd__law_has "_law_has" = true)
    (k__law_has : PySem.W.keepIn K (.ref f__law_has) = true)
    (a__law_spots : PySem.W.nsIn K mainGlobals "_law_spots" = some (some (.ref f__law_spots)))
    (l__law_spots : K.lookup f__law_spots = some ⟨oc__law_spots, od__law_spots, .func (PySem.W.fnOf "_law_spots" "_law_spots" (defArgs s__law_spots) (defBody s__law_spots) (defScope s__law_spots) .none kV__law_spots dc__law_spots pm__law_spots an__law_spots cd__law_spots ct__law_spots), sl__law_spots⟩)
    (c__law_spots_ : PySem.W.codeIn K cd__law_spots "_law_spots" = true)
    (k__law_spots : PySem.W.keepIn K (.ref f__law_spots) = true)
    (a__law_bound : PySem.W.nsIn K mainGlobals "_law_bound" = some (some (.ref f__law_bound)))
    (l__law_bound : K.lookup f__law_bound = some ⟨oc__law_bound, od__law_bound, .func (PySem.W.fnOf "_law_bound" "_law_bound" (defArgs s__law_bound) (defBody s__law_bound) (defScope s__law_bound) .none kV__law_bound dc__law_bound pm__law_bound an__law_bound cd__law_bound ct__law_bound), sl__law_bound⟩)
    (c__law_bound_ : PySem.W.codeIn K cd__law_bound "_law_bound" = true)
    (k__law_bound : PySem.W.keepIn K (.ref f__law_bound) = true)
    (a__law_joined_right : PySem.W.nsIn K mainGlobals "_law_joined_right" = some (some (.ref f__law_joined_right)))
    (l__law_joined_right : K.lookup f__law_joined_right = some ⟨oc__law_joined_right, od__law_joined_right, .func (PySem.W.fnOf "_law_joined_right" "_law_joined_right" (defArgs s__law_joined_right) (defBody s__law_joined_right) (defScope s__law_joined_right) .none kV__law_joined_right dc__law_joined_right pm__law_joined_right an__law_joined_right cd__law_joined_right ct__law_joined_right), sl__law_joined_right⟩)
    (c__law_joined_right_ : PySem.W.codeIn K cd__law_joined_right "_law_joined_right" = true)
    (k__law_joined_right : PySem.W.keepIn K (.ref f__law_joined_right) = true)
    (a__law_order_right : PySem.W.nsIn K mainGlobals "_law_order_right" = some (some (.ref f__law_order_right)))
    (l__law_order_right : K.lookup f__law_order_right = some ⟨oc__law_order_right, od__law_order_right, .func (PySem.W.fnOf "_law_order_right" "_law_order_right" (defArgs s__law_order_right) (defBody s__law_order_right) (defScope s__law_order_right) .none kV__law_order_right dc__law_order_right pm__law_order_right an__law_order_right cd__law_order_right ct__law_order_right), sl__law_order_right⟩)
    (c__law_order_right_ : PySem.W.codeIn K cd__law_order_right "_law_order_right" = true)
    (k__law_order_right : PySem.W.keepIn K (.ref f__law_order_right) = true)
    (a__law_moved_right : PySem.W.nsIn K mainGlobals "_law_moved_right" = some (some (.ref f__law_moved_right)))
    (l__law_moved_right : K.lookup f__law_moved_right = some ⟨oc__law_moved_right, od__law_moved_right, .func (PySem.W.fnOf "_law_moved_right" "_law_moved_right" (defArgs s__law_moved_right) (defBody s__law_moved_right) (defScope s__law_moved_right) .none kV__law_moved_right dc__law_moved_right pm__law_moved_right an__law_moved_right cd__law_moved_right ct__law_moved_right), sl__law_moved_right⟩)
    (c__law_moved_right_ : PySem.W.codeIn K cd__law_moved_right "_law_moved_right" = true)
    (k__law_moved_right : PySem.W.keepIn K (.ref f__law_moved_right) = true)
    (a__law_many : PySem.W.nsIn K mainGlobals "_law_many" = some (some (.ref f__law_many)))
    (l__law_many : K.lookup f__law_many = some ⟨oc__law_many, od__law_many, .func (PySem.W.fnOf "_law_many" "_law_many" (defArgs s__law_many) (defBody s__law_many) (defScope s__law_many) .none kV__law_many dc__law_many pm__law_many an__law_many cd__law_many ct__law_many), sl__law_many⟩)
    (c__law_many_ : PySem.W.codeIn K cd__law_many "_law_many" = true)
    (k__law_many : PySem.W.keepIn K (.ref f__law_many) = true)
    (a__law_refused_right : PySem.W.nsIn K mainGlobals "_law_refused_right" = some (some (.ref f__law_refused_right)))
    (l__law_refused_right : K.lookup f__law_refused_right = some ⟨oc__law_refused_right, od__law_refused_right, .func (PySem.W.fnOf "_law_refused_right" "_law_refused_right" (defArgs s__law_refused_right) (defBody s__law_refused_right) (defScope s__law_refused_right) .none kV__law_refused_right dc__law_refused_right pm__law_refused_right an__law_refused_right (.ref cc__law_refused_right) ct__law_refused_right), sl__law_refused_right⟩)
    (c__law_refused_right_ : PySem.W.codeIn K (.ref cc__law_refused_right) "_law_refused_right" = true)
    (k__law_refused_right : PySem.W.keepIn K (.ref f__law_refused_right) = true)
    (a_law : PySem.W.nsIn K mainGlobals "law" = some (some (.ref f_law)))
    (l_law : K.lookup f_law = some ⟨oc_law, od_law, .func (PySem.W.fnOf "law" "law" (defArgs s_law) (defBody s_law) (defScope s_law) .none kV_law dc_law pm_law an_law cd_law ct_law), sl_law⟩)
    (c_law_ : PySem.W.codeIn K cd_law "law" = true)
    (k_law : PySem.W.keepIn K (.ref f_law) = true)
    (z_isinstance : PySem.W.nsIn K mainGlobals "isinstance" = some none)
    (z_int : PySem.W.nsIn K mainGlobals "int" = some none)
    (z_bool : PySem.W.nsIn K mainGlobals "bool" = some none)
    (z_len : PySem.W.nsIn K mainGlobals "len" = some none)
    (z_tuple : PySem.W.nsIn K mainGlobals "tuple" = some none)
    (z_range : PySem.W.nsIn K mainGlobals "range" = some none)
    (z_list : PySem.W.nsIn K mainGlobals "list" = some none)
    (z_abs : PySem.W.nsIn K mainGlobals "abs" = some none)
    (z_str : PySem.W.nsIn K mainGlobals "str" = some none)
    (z_all : PySem.W.nsIn K mainGlobals "all" = some none)
    (z_repr : PySem.W.nsIn K mainGlobals "repr" = some none)
    (h_Days_MOST : PySem.W.findCls K (.ref c_Days) (.type "type") "MOST" = some (.val (.int 7 t_Days_MOST)))
    (hc__law_refused_right : K.lookup cc__law_refused_right = some cob__law_refused_right)
    (ht__law_refused_right : codeTab cob__law_refused_right = some tp__law_refused_right)
    (hb__law_refused_right : codeB cob__law_refused_right cc__law_refused_right tp__law_refused_right = true)
    (hg__law_refused_right : h.get? tp__law_refused_right = some { cls := .none, data := .fields #[] })
    (hn__law_refused_right : K.lookup tp__law_refused_right = none)
    : LawAtG l w K CX0 40 63 "script" mg fa h := by
  have F_is_whole := fun_mk (st := s_is_whole) l_is_whole c_is_whole_ k_is_whole
  have F_is_from := fun_mk (st := s_is_from) l_is_from c_is_from_ k_is_from
  have F_are_from := fun_mk (st := s_are_from) l_are_from c_are_from_ k_are_from
  have F_marked := fun_mk (st := s_marked) l_marked c_marked_ k_marked
  have F_least_period := fun_mk (st := s_least_period) l_least_period c_least_period_ k_least_period
  have F_common_period := fun_mk (st := s_common_period) l_common_period c_common_period_ k_common_period
  have F_BadDays___init__ := fun_mk (st := s_BadDays___init__) l_BadDays___init__ c_BadDays___init___ k_BadDays___init__
  have F_TooMany___init__ := fun_mk (st := s_TooMany___init__) l_TooMany___init__ c_TooMany___init___ k_TooMany___init__
  have F_Days___init__ := fun_mk (st := s_Days___init__) l_Days___init__ c_Days___init___ k_Days___init__
  have F_Days___eq__ := fun_mk (st := s_Days___eq__) l_Days___eq__ c_Days___eq___ k_Days___eq__
  have F_Days___str__ := fun_mk (st := s_Days___str__) l_Days___str__ c_Days___str___ k_Days___str__
  have F_Days___contains__ := fun_mk (st := s_Days___contains__) l_Days___contains__ c_Days___contains___ k_Days___contains__
  have F_Days___and__ := fun_mk (st := s_Days___and__) l_Days___and__ c_Days___and___ k_Days___and__
  have F_Days___or__ := fun_mk (st := s_Days___or__) l_Days___or__ c_Days___or___ k_Days___or__
  have F_Days___sub__ := fun_mk (st := s_Days___sub__) l_Days___sub__ c_Days___sub___ k_Days___sub__
  have F_Days___invert__ := fun_mk (st := s_Days___invert__) l_Days___invert__ c_Days___invert___ k_Days___invert__
  have F_Days___rshift__ := fun_mk (st := s_Days___rshift__) l_Days___rshift__ c_Days___rshift___ k_Days___rshift__
  have F_Days___lshift__ := fun_mk (st := s_Days___lshift__) l_Days___lshift__ c_Days___lshift___ k_Days___lshift__
  have F_Days___le__ := fun_mk (st := s_Days___le__) l_Days___le__ c_Days___le___ k_Days___le__
  have F_Days___lt__ := fun_mk (st := s_Days___lt__) l_Days___lt__ c_Days___lt___ k_Days___lt__
  have F_Days___ge__ := fun_mk (st := s_Days___ge__) l_Days___ge__ c_Days___ge___ k_Days___ge__
  have F_Days___gt__ := fun_mk (st := s_Days___gt__) l_Days___gt__ c_Days___gt___ k_Days___gt__
  have F_Days_none := fun_mk (st := s_Days_none) l_Days_none c_Days_none_ k_Days_none
  have F_Days_on := fun_mk (st := s_Days_on) l_Days_on c_Days_on_ k_Days_on
  have F_Days_period := fun_mk (st := s_Days_period) l_Days_period c_Days_period_ k_Days_period
  have F__law_pen := fun_mk (st := s__law_pen) l__law_pen c__law_pen_ k__law_pen
  have F__law_draw := fun_mk (st := s__law_draw) l__law_draw c__law_draw_ k__law_draw
  have F__law_pick := fun_mk (st := s__law_pick) l__law_pick c__law_pick_ k__law_pick
  have F__law_plain := fun_mk (st := s__law_plain) l__law_plain c__law_plain_ k__law_plain
  have F__law_has := fun_mk (st := s__law_has) l__law_has c__law_has_ k__law_has
  have F__law_spots := fun_mk (st := s__law_spots) l__law_spots c__law_spots_ k__law_spots
  have F__law_bound := fun_mk (st := s__law_bound) l__law_bound c__law_bound_ k__law_bound
  have F__law_joined_right := fun_mk (st := s__law_joined_right) l__law_joined_right c__law_joined_right_ k__law_joined_right
  have F__law_order_right := fun_mk (st := s__law_order_right) l__law_order_right c__law_order_right_ k__law_order_right
  have F__law_moved_right := fun_mk (st := s__law_moved_right) l__law_moved_right c__law_moved_right_ k__law_moved_right
  have F__law_many := fun_mk (st := s__law_many) l__law_many c__law_many_ k__law_many
  have F__law_refused_right := fun_mk (st := s__law_refused_right) l__law_refused_right c__law_refused_right_ k__law_refused_right
  have F_law := fun_mk (st := s_law) l_law c_law_ k_law
  have e0 := PySem.W.codeHd_of_K X (codeB_in hc__law_refused_right hb__law_refused_right)
  have ef : f_law = fa := Value.ref.inj (Option.some.inj ((PySem.W.mg_of X G a_law).symm.trans hfa))
  exact law_at (T := {
    f_is_whole := f_is_whole
    d_is_whole := PySem.W.fnOf "is_whole" "is_whole" (defArgs s_is_whole) (defBody s_is_whole) (defScope s_is_whole) .none kV_is_whole dc_is_whole pm_is_whole an_is_whole cd_is_whole ct_is_whole
    f_is_from := f_is_from
    d_is_from := PySem.W.fnOf "is_from" "is_from" (defArgs s_is_from) (defBody s_is_from) (defScope s_is_from) .none kV_is_from dc_is_from pm_is_from an_is_from cd_is_from ct_is_from
    f_are_from := f_are_from
    d_are_from := PySem.W.fnOf "are_from" "are_from" (defArgs s_are_from) (defBody s_are_from) (defScope s_are_from) .none kV_are_from dc_are_from pm_are_from an_are_from cd_are_from ct_are_from
    f_marked := f_marked
    d_marked := PySem.W.fnOf "marked" "marked" (defArgs s_marked) (defBody s_marked) (defScope s_marked) .none kV_marked dc_marked pm_marked an_marked cd_marked ct_marked
    f_least_period := f_least_period
    d_least_period := PySem.W.fnOf "least_period" "least_period" (defArgs s_least_period) (defBody s_least_period) (defScope s_least_period) .none kV_least_period dc_least_period pm_least_period an_least_period cd_least_period ct_least_period
    f_common_period := f_common_period
    d_common_period := PySem.W.fnOf "common_period" "common_period" (defArgs s_common_period) (defBody s_common_period) (defScope s_common_period) .none kV_common_period dc_common_period pm_common_period an_common_period cd_common_period ct_common_period
    c_StayError := c_StayError
    c_BadDays := c_BadDays
    f_BadDays___init__ := f_BadDays___init__
    d_BadDays___init__ := PySem.W.fnOf "__init__" "BadDays.__init__" (defArgs s_BadDays___init__) (defBody s_BadDays___init__) (defScope s_BadDays___init__) .none kV_BadDays___init__ dc_BadDays___init__ pm_BadDays___init__ an_BadDays___init__ cd_BadDays___init__ ct_BadDays___init__
    c_TooMany := c_TooMany
    f_TooMany___init__ := f_TooMany___init__
    d_TooMany___init__ := PySem.W.fnOf "__init__" "TooMany.__init__" (defArgs s_TooMany___init__) (defBody s_TooMany___init__) (defScope s_TooMany___init__) .none kV_TooMany___init__ dc_TooMany___init__ pm_TooMany___init__ an_TooMany___init__ cd_TooMany___init__ ct_TooMany___init__
    c_Days := c_Days
    f_Days___init__ := f_Days___init__
    d_Days___init__ := PySem.W.fnOf "__init__" "Days.__init__" (defArgs s_Days___init__) (defBody s_Days___init__) (defScope s_Days___init__) .none kV_Days___init__ dc_Days___init__ pm_Days___init__ an_Days___init__ cd_Days___init__ ct_Days___init__
    f_Days___eq__ := f_Days___eq__
    d_Days___eq__ := PySem.W.fnOf "__eq__" "Days.__eq__" (defArgs s_Days___eq__) (defBody s_Days___eq__) (defScope s_Days___eq__) .none kV_Days___eq__ dc_Days___eq__ pm_Days___eq__ an_Days___eq__ cd_Days___eq__ ct_Days___eq__
    f_Days___str__ := f_Days___str__
    d_Days___str__ := PySem.W.fnOf "__str__" "Days.__str__" (defArgs s_Days___str__) (defBody s_Days___str__) (defScope s_Days___str__) .none kV_Days___str__ dc_Days___str__ pm_Days___str__ an_Days___str__ cd_Days___str__ ct_Days___str__
    f_Days___contains__ := f_Days___contains__
    d_Days___contains__ := PySem.W.fnOf "__contains__" "Days.__contains__" (defArgs s_Days___contains__) (defBody s_Days___contains__) (defScope s_Days___contains__) .none kV_Days___contains__ dc_Days___contains__ pm_Days___contains__ an_Days___contains__ cd_Days___contains__ ct_Days___contains__
    f_Days___and__ := f_Days___and__
    d_Days___and__ := PySem.W.fnOf "__and__" "Days.__and__" (defArgs s_Days___and__) (defBody s_Days___and__) (defScope s_Days___and__) .none kV_Days___and__ dc_Days___and__ pm_Days___and__ an_Days___and__ cd_Days___and__ ct_Days___and__
    f_Days___or__ := f_Days___or__
    d_Days___or__ := PySem.W.fnOf "__or__" "Days.__or__" (defArgs s_Days___or__) (defBody s_Days___or__) (defScope s_Days___or__) .none kV_Days___or__ dc_Days___or__ pm_Days___or__ an_Days___or__ cd_Days___or__ ct_Days___or__
    f_Days___sub__ := f_Days___sub__
    d_Days___sub__ := PySem.W.fnOf "__sub__" "Days.__sub__" (defArgs s_Days___sub__) (defBody s_Days___sub__) (defScope s_Days___sub__) .none kV_Days___sub__ dc_Days___sub__ pm_Days___sub__ an_Days___sub__ cd_Days___sub__ ct_Days___sub__
    f_Days___invert__ := f_Days___invert__
    d_Days___invert__ := PySem.W.fnOf "__invert__" "Days.__invert__" (defArgs s_Days___invert__) (defBody s_Days___invert__) (defScope s_Days___invert__) .none kV_Days___invert__ dc_Days___invert__ pm_Days___invert__ an_Days___invert__ cd_Days___invert__ ct_Days___invert__
    f_Days___rshift__ := f_Days___rshift__
    d_Days___rshift__ := PySem.W.fnOf "__rshift__" "Days.__rshift__" (defArgs s_Days___rshift__) (defBody s_Days___rshift__) (defScope s_Days___rshift__) .none kV_Days___rshift__ dc_Days___rshift__ pm_Days___rshift__ an_Days___rshift__ cd_Days___rshift__ ct_Days___rshift__
    f_Days___lshift__ := f_Days___lshift__
    d_Days___lshift__ := PySem.W.fnOf "__lshift__" "Days.__lshift__" (defArgs s_Days___lshift__) (defBody s_Days___lshift__) (defScope s_Days___lshift__) .none kV_Days___lshift__ dc_Days___lshift__ pm_Days___lshift__ an_Days___lshift__ cd_Days___lshift__ ct_Days___lshift__
    f_Days___le__ := f_Days___le__
    d_Days___le__ := PySem.W.fnOf "__le__" "Days.__le__" (defArgs s_Days___le__) (defBody s_Days___le__) (defScope s_Days___le__) .none kV_Days___le__ dc_Days___le__ pm_Days___le__ an_Days___le__ cd_Days___le__ ct_Days___le__
    f_Days___lt__ := f_Days___lt__
    d_Days___lt__ := PySem.W.fnOf "__lt__" "Days.__lt__" (defArgs s_Days___lt__) (defBody s_Days___lt__) (defScope s_Days___lt__) .none kV_Days___lt__ dc_Days___lt__ pm_Days___lt__ an_Days___lt__ cd_Days___lt__ ct_Days___lt__
    f_Days___ge__ := f_Days___ge__
    d_Days___ge__ := PySem.W.fnOf "__ge__" "Days.__ge__" (defArgs s_Days___ge__) (defBody s_Days___ge__) (defScope s_Days___ge__) .none kV_Days___ge__ dc_Days___ge__ pm_Days___ge__ an_Days___ge__ cd_Days___ge__ ct_Days___ge__
    f_Days___gt__ := f_Days___gt__
    d_Days___gt__ := PySem.W.fnOf "__gt__" "Days.__gt__" (defArgs s_Days___gt__) (defBody s_Days___gt__) (defScope s_Days___gt__) .none kV_Days___gt__ dc_Days___gt__ pm_Days___gt__ an_Days___gt__ cd_Days___gt__ ct_Days___gt__
    f_Days_none := f_Days_none
    p_Days_none := p_Days_none
    d_Days_none := PySem.W.fnOf "none" "Days.none" (defArgs s_Days_none) (defBody s_Days_none) (defScope s_Days_none) .none kV_Days_none dc_Days_none pm_Days_none an_Days_none cd_Days_none ct_Days_none
    f_Days_on := f_Days_on
    p_Days_on := p_Days_on
    d_Days_on := PySem.W.fnOf "on" "Days.on" (defArgs s_Days_on) (defBody s_Days_on) (defScope s_Days_on) .none kV_Days_on dc_Days_on pm_Days_on an_Days_on cd_Days_on ct_Days_on
    f_Days_period := f_Days_period
    p_Days_period := p_Days_period
    d_Days_period := PySem.W.fnOf "period" "Days.period" (defArgs s_Days_period) (defBody s_Days_period) (defScope s_Days_period) .none kV_Days_period dc_Days_period pm_Days_period an_Days_period cd_Days_period ct_Days_period
    f__law_pen := f__law_pen
    d__law_pen := PySem.W.fnOf "_law_pen" "_law_pen" (defArgs s__law_pen) (defBody s__law_pen) (defScope s__law_pen) .none kV__law_pen dc__law_pen pm__law_pen an__law_pen cd__law_pen ct__law_pen
    f__law_draw := f__law_draw
    d__law_draw := PySem.W.fnOf "_law_draw" "_law_draw" (defArgs s__law_draw) (defBody s__law_draw) (defScope s__law_draw) .none kV__law_draw dc__law_draw pm__law_draw an__law_draw cd__law_draw ct__law_draw
    f__law_pick := f__law_pick
    d__law_pick := PySem.W.fnOf "_law_pick" "_law_pick" (defArgs s__law_pick) (defBody s__law_pick) (defScope s__law_pick) .none kV__law_pick dc__law_pick pm__law_pick an__law_pick cd__law_pick ct__law_pick
    f__law_plain := f__law_plain
    d__law_plain := PySem.W.fnOf "_law_plain" "_law_plain" (defArgs s__law_plain) (defBody s__law_plain) (defScope s__law_plain) .none kV__law_plain dc__law_plain pm__law_plain an__law_plain cd__law_plain ct__law_plain
    f__law_has := f__law_has
    d__law_has := PySem.W.fnOf "_law_has" "_law_has" (defArgs s__law_has) (defBody s__law_has) (defScope s__law_has) .none kV__law_has dc__law_has pm__law_has an__law_has cd__law_has ct__law_has
    f__law_spots := f__law_spots
    d__law_spots := PySem.W.fnOf "_law_spots" "_law_spots" (defArgs s__law_spots) (defBody s__law_spots) (defScope s__law_spots) .none kV__law_spots dc__law_spots pm__law_spots an__law_spots cd__law_spots ct__law_spots
    f__law_bound := f__law_bound
    d__law_bound := PySem.W.fnOf "_law_bound" "_law_bound" (defArgs s__law_bound) (defBody s__law_bound) (defScope s__law_bound) .none kV__law_bound dc__law_bound pm__law_bound an__law_bound cd__law_bound ct__law_bound
    f__law_joined_right := f__law_joined_right
    d__law_joined_right := PySem.W.fnOf "_law_joined_right" "_law_joined_right" (defArgs s__law_joined_right) (defBody s__law_joined_right) (defScope s__law_joined_right) .none kV__law_joined_right dc__law_joined_right pm__law_joined_right an__law_joined_right cd__law_joined_right ct__law_joined_right
    f__law_order_right := f__law_order_right
    d__law_order_right := PySem.W.fnOf "_law_order_right" "_law_order_right" (defArgs s__law_order_right) (defBody s__law_order_right) (defScope s__law_order_right) .none kV__law_order_right dc__law_order_right pm__law_order_right an__law_order_right cd__law_order_right ct__law_order_right
    f__law_moved_right := f__law_moved_right
    d__law_moved_right := PySem.W.fnOf "_law_moved_right" "_law_moved_right" (defArgs s__law_moved_right) (defBody s__law_moved_right) (defScope s__law_moved_right) .none kV__law_moved_right dc__law_moved_right pm__law_moved_right an__law_moved_right cd__law_moved_right ct__law_moved_right
    f__law_many := f__law_many
    d__law_many := PySem.W.fnOf "_law_many" "_law_many" (defArgs s__law_many) (defBody s__law_many) (defScope s__law_many) .none kV__law_many dc__law_many pm__law_many an__law_many cd__law_many ct__law_many
    f__law_refused_right := f__law_refused_right
    d__law_refused_right := PySem.W.fnOf "_law_refused_right" "_law_refused_right" (defArgs s__law_refused_right) (defBody s__law_refused_right) (defScope s__law_refused_right) .none kV__law_refused_right dc__law_refused_right pm__law_refused_right an__law_refused_right (.ref cc__law_refused_right) ct__law_refused_right
    f_law := f_law
    d_law := PySem.W.fnOf "law" "law" (defArgs s_law) (defBody s_law) (defScope s_law) .none kV_law dc_law pm_law an_law cd_law ct_law
    cc__law_refused_right := cc__law_refused_right
    tp__law_refused_right := tp__law_refused_right
    g_is_whole := PySem.W.mg_of X G a_is_whole
    F_is_whole := F_is_whole
    bd_is_whole := F_is_whole.binds (ps := ["value"]) fun _ _ _ _ _ _ us hl => match us, hl with | [_], _ => rfl
    g_is_from := PySem.W.mg_of X G a_is_from
    F_is_from := F_is_from
    bd_is_from := F_is_from.binds (ps := ["value", "least", "most"]) fun _ _ _ _ _ _ us hl => match us, hl with | [_, _, _], _ => rfl
    g_are_from := PySem.W.mg_of X G a_are_from
    F_are_from := F_are_from
    bd_are_from := F_are_from.binds (ps := ["values", "least", "most"]) fun _ _ _ _ _ _ us hl => match us, hl with | [_, _, _], _ => rfl
    g_marked := PySem.W.mg_of X G a_marked
    F_marked := F_marked
    bd_marked := F_marked.binds (ps := ["size", "numbers"]) fun _ _ _ _ _ _ us hl => match us, hl with | [_, _], _ => rfl
    g_least_period := PySem.W.mg_of X G a_least_period
    F_least_period := F_least_period
    bd_least_period := F_least_period.binds (ps := ["turn"]) fun _ _ _ _ _ _ us hl => match us, hl with | [_], _ => rfl
    g_common_period := PySem.W.mg_of X G a_common_period
    F_common_period := F_common_period
    bd_common_period := F_common_period.binds (ps := ["one", "other"]) fun _ _ _ _ _ _ us hl => match us, hl with | [_, _], _ => rfl
    g_StayError := PySem.W.mg_of X G a_StayError
    g_BadDays := PySem.W.mg_of X G a_BadDays
    x_BadDays := ⟨⟨nm_BadDays, q_BadDays, N_BadDays, bs_BadDays, bm_BadDays, sn_BadDays, sub_BadDays, ab_BadDays, col_BadDays, dd_BadDays, m0_BadDays, m1_BadDays, m2_BadDays, m3_BadDays, m5_BadDays, h_BadDays_l, h_BadDays_bm⟩, h_BadDays_sa, h_BadDays_ex, h_BadDays_ty, h_BadDays_kp⟩
    xf_BadDays := ⟨h_BadDays_ga, h_BadDays_gg, h_BadDays_ex, h_BadDays_hd⟩
    xc_BadDays := ⟨h_BadDays_ga, h_BadDays_gg, h_BadDays_ex, h_BadDays_hd, h_BadDays_cls, h_cget, h_ctak, h_BadDays_mro⟩
    nx_BadDays_part := h_nx_BadDays_part
    fi_BadDays___init__ := a_BadDays___init__
    isf_BadDays___init__ := i_BadDays___init__
    F_BadDays___init__ := F_BadDays___init__
    bd_BadDays___init__ := F_BadDays___init__.binds (ps := ["self", "part"]) fun _ _ _ _ _ _ us hl => match us, hl with | [_, _], _ => rfl
    ti_BadDays := t_BadDays___init__
    g_TooMany := PySem.W.mg_of X G a_TooMany
    x_TooMany := ⟨⟨nm_TooMany, q_TooMany, N_TooMany, bs_TooMany, bm_TooMany, sn_TooMany, sub_TooMany, ab_TooMany, col_TooMany, dd_TooMany, m0_TooMany, m1_TooMany, m2_TooMany, m3_TooMany, m5_TooMany, h_TooMany_l, h_TooMany_bm⟩, h_TooMany_sa, h_TooMany_ex, h_TooMany_ty, h_TooMany_kp⟩
    xf_TooMany := ⟨h_TooMany_ga, h_TooMany_gg, h_TooMany_ex, h_TooMany_hd⟩
    xc_TooMany := ⟨h_TooMany_ga, h_TooMany_gg, h_TooMany_ex, h_TooMany_hd, h_TooMany_cls, h_cget, h_ctak, h_TooMany_mro⟩
    nx_TooMany_what := h_nx_TooMany_what
    nx_TooMany_most := h_nx_TooMany_most
    fi_TooMany___init__ := a_TooMany___init__
    isf_TooMany___init__ := i_TooMany___init__
    F_TooMany___init__ := F_TooMany___init__
    bd_TooMany___init__ := F_TooMany___init__.binds (ps := ["self", "what", "most"]) fun _ _ _ _ _ _ us hl => match us, hl with | [_, _, _], _ => rfl
    ti_TooMany := t_TooMany___init__
    g_Days := PySem.W.mg_of X G a_Days
    cl_Days := ⟨h_Days_pg, h_Days_hd, h_Days_po, h_Days_sa⟩
    own_Days := ⟨⟨h_Days_pg, h_Days_hd, h_Days_po, h_Days_sa⟩, h_Days_cls, h_Days_get, h_Days_tak, h_Days_mro⟩
    na_Days__period := h_na_Days__period
    na_Days__rests := h_na_Days__rests
    fi_Days___init__ := a_Days___init__
    isf_Days___init__ := i_Days___init__
    F_Days___init__ := F_Days___init__
    bd_Days___init__ := F_Days___init__.binds (ps := ["self", "period", "rests"]) fun _ _ _ _ _ _ us hl => match us, hl with | [_, _, _], _ => rfl
    fi_Days___eq__ := a_Days___eq__
    isf_Days___eq__ := i_Days___eq__
    F_Days___eq__ := F_Days___eq__
    bd_Days___eq__ := F_Days___eq__.binds (ps := ["self", "other"]) fun _ _ _ _ _ _ us hl => match us, hl with | [_, _], _ => rfl
    fi_Days___str__ := a_Days___str__
    isf_Days___str__ := i_Days___str__
    F_Days___str__ := F_Days___str__
    bd_Days___str__ := F_Days___str__.binds (ps := ["self"]) fun _ _ _ _ _ _ us hl => match us, hl with | [_], _ => rfl
    fi_Days___contains__ := a_Days___contains__
    isf_Days___contains__ := i_Days___contains__
    F_Days___contains__ := F_Days___contains__
    bd_Days___contains__ := F_Days___contains__.binds (ps := ["self", "x"]) fun _ _ _ _ _ _ us hl => match us, hl with | [_, _], _ => rfl
    fi_Days___and__ := a_Days___and__
    isf_Days___and__ := i_Days___and__
    F_Days___and__ := F_Days___and__
    bd_Days___and__ := F_Days___and__.binds (ps := ["self", "other"]) fun _ _ _ _ _ _ us hl => match us, hl with | [_, _], _ => rfl
    fi_Days___or__ := a_Days___or__
    isf_Days___or__ := i_Days___or__
    F_Days___or__ := F_Days___or__
    bd_Days___or__ := F_Days___or__.binds (ps := ["self", "other"]) fun _ _ _ _ _ _ us hl => match us, hl with | [_, _], _ => rfl
    fi_Days___sub__ := a_Days___sub__
    isf_Days___sub__ := i_Days___sub__
    F_Days___sub__ := F_Days___sub__
    bd_Days___sub__ := F_Days___sub__.binds (ps := ["self", "other"]) fun _ _ _ _ _ _ us hl => match us, hl with | [_, _], _ => rfl
    fi_Days___invert__ := a_Days___invert__
    isf_Days___invert__ := i_Days___invert__
    F_Days___invert__ := F_Days___invert__
    bd_Days___invert__ := F_Days___invert__.binds (ps := ["self"]) fun _ _ _ _ _ _ us hl => match us, hl with | [_], _ => rfl
    fi_Days___rshift__ := a_Days___rshift__
    isf_Days___rshift__ := i_Days___rshift__
    F_Days___rshift__ := F_Days___rshift__
    bd_Days___rshift__ := F_Days___rshift__.binds (ps := ["self", "other"]) fun _ _ _ _ _ _ us hl => match us, hl with | [_, _], _ => rfl
    fi_Days___lshift__ := a_Days___lshift__
    isf_Days___lshift__ := i_Days___lshift__
    F_Days___lshift__ := F_Days___lshift__
    bd_Days___lshift__ := F_Days___lshift__.binds (ps := ["self", "other"]) fun _ _ _ _ _ _ us hl => match us, hl with | [_, _], _ => rfl
    fi_Days___le__ := a_Days___le__
    isf_Days___le__ := i_Days___le__
    F_Days___le__ := F_Days___le__
    bd_Days___le__ := F_Days___le__.binds (ps := ["self", "other"]) fun _ _ _ _ _ _ us hl => match us, hl with | [_, _], _ => rfl
    fi_Days___lt__ := a_Days___lt__
    isf_Days___lt__ := i_Days___lt__
    F_Days___lt__ := F_Days___lt__
    bd_Days___lt__ := F_Days___lt__.binds (ps := ["self", "other"]) fun _ _ _ _ _ _ us hl => match us, hl with | [_, _], _ => rfl
    fi_Days___ge__ := a_Days___ge__
    isf_Days___ge__ := i_Days___ge__
    F_Days___ge__ := F_Days___ge__
    bd_Days___ge__ := F_Days___ge__.binds (ps := ["self", "other"]) fun _ _ _ _ _ _ us hl => match us, hl with | [_, _], _ => rfl
    fi_Days___gt__ := a_Days___gt__
    isf_Days___gt__ := i_Days___gt__
    F_Days___gt__ := F_Days___gt__
    bd_Days___gt__ := F_Days___gt__.binds (ps := ["self", "other"]) fun _ _ _ _ _ _ us hl => match us, hl with | [_, _], _ => rfl
    cr_Days := ⟨h_Days_rd, h_Days_tg⟩
    F_Days_none := F_Days_none
    bd_Days_none := F_Days_none.binds (ps := []) fun _ _ _ _ _ _ us hl => match us, hl with | [], _ => rfl
    sme_Days_none := ⟨ca_Days_none, ⟨_, cr_Days_none⟩, k_Days_none⟩
    F_Days_on := F_Days_on
    sme_Days_on := ⟨ca_Days_on, ⟨_, cr_Days_on⟩, k_Days_on⟩
    F_Days_period := F_Days_period
    bd_Days_period := F_Days_period.binds (ps := ["self"]) fun _ _ _ _ _ _ us hl => match us, hl with | [_], _ => rfl
    pp_Days_period := ⟨pa_Days_period, pg_Days_period, pt_Days_period, ⟨_, pr_Days_period⟩⟩
    exm_TooMany := h_exm_TooMany
    kit_Days := h_kit_Days
    si_Days := h_si_Days
    g_lcm := PySem.W.mg_of X G a_lcm
    g__law_pen := PySem.W.mg_of X G a__law_pen
    F__law_pen := F__law_pen
    bd__law_pen := F__law_pen.binds (ps := ["script"]) fun _ _ _ _ _ _ us hl => match us, hl with | [_], _ => rfl
    g__law_draw := PySem.W.mg_of X G a__law_draw
    F__law_draw := F__law_draw
    bd__law_draw := F__law_draw.binds (ps := ["pen", "many"]) fun _ _ _ _ _ _ us hl => match us, hl with | [_, _], _ => rfl
    g__law_pick := PySem.W.mg_of X G a__law_pick
    F__law_pick := F__law_pick
    bd__law_pick := F__law_pick.binds (ps := ["pen", "some"]) fun _ _ _ _ _ _ us hl => match us, hl with | [_, _], _ => rfl
    g__law_plain := PySem.W.mg_of X G a__law_plain
    F__law_plain := F__law_plain
    bd__law_plain := F__law_plain.binds (ps := ["pen", "some"]) fun _ _ _ _ _ _ us hl => match us, hl with | [_, _], _ => rfl
    g__law_has := PySem.W.mg_of X G a__law_has
    F__law_has := F__law_has
    bd__law_has := F__law_has.binds (ps := ["plain", "d"]) fun _ _ _ _ _ _ us hl => match us, hl with | [_, _], _ => rfl
    g__law_spots := PySem.W.mg_of X G a__law_spots
    F__law_spots := F__law_spots
    bd__law_spots := F__law_spots.binds (ps := ["pen"]) fun _ _ _ _ _ _ us hl => match us, hl with | [_], _ => rfl
    g__law_bound := PySem.W.mg_of X G a__law_bound
    F__law_bound := F__law_bound
    bd__law_bound := F__law_bound.binds (ps := ["way", "one", "other"]) fun _ _ _ _ _ _ us hl => match us, hl with | [_, _, _], _ => rfl
    g__law_joined_right := PySem.W.mg_of X G a__law_joined_right
    F__law_joined_right := F__law_joined_right
    bd__law_joined_right := F__law_joined_right.binds (ps := ["pen", "plain", "more"]) fun _ _ _ _ _ _ us hl => match us, hl with | [_, _, _], _ => rfl
    g__law_order_right := PySem.W.mg_of X G a__law_order_right
    F__law_order_right := F__law_order_right
    bd__law_order_right := F__law_order_right.binds (ps := ["plain", "more"]) fun _ _ _ _ _ _ us hl => match us, hl with | [_, _], _ => rfl
    g__law_moved_right := PySem.W.mg_of X G a__law_moved_right
    F__law_moved_right := F__law_moved_right
    bd__law_moved_right := F__law_moved_right.binds (ps := ["pen", "plain"]) fun _ _ _ _ _ _ us hl => match us, hl with | [_, _], _ => rfl
    g__law_many := PySem.W.mg_of X G a__law_many
    F__law_many := F__law_many
    bd__law_many := F__law_many.binds (ps := ["ask"]) fun _ _ _ _ _ _ us hl => match us, hl with | [_], _ => rfl
    g__law_refused_right := PySem.W.mg_of X G a__law_refused_right
    F__law_refused_right := F__law_refused_right
    bd__law_refused_right := F__law_refused_right.binds (ps := ["pen"]) fun _ _ _ _ _ _ us hl => match us, hl with | [_], _ => rfl
    g_law := PySem.W.mg_of X G a_law
    F_law := F_law
    bd_law := F_law.binds (ps := ["script"]) fun _ _ _ _ _ _ us hl => match us, hl with | [_], _ => rfl
    b_isinstance := PySem.W.mg_none_of X G z_isinstance
    b_int := PySem.W.mg_none_of X G z_int
    b_bool := PySem.W.mg_none_of X G z_bool
    b_len := PySem.W.mg_none_of X G z_len
    b_tuple := PySem.W.mg_none_of X G z_tuple
    b_range := PySem.W.mg_none_of X G z_range
    b_list := PySem.W.mg_none_of X G z_list
    b_abs := PySem.W.mg_none_of X G z_abs
    b_str := PySem.W.mg_none_of X G z_str
    b_all := PySem.W.mg_none_of X G z_all
    b_repr := PySem.W.mg_none_of X G z_repr
    cv_Days_MOST := ⟨_, h_Days_MOST, ⟨_, rfl⟩⟩
    code__law_refused_right := rfl
    mk_Days := ⟨h_Days_mk, a_Days___init__, i_Days___init__, h_Days_kp⟩
    eq_Days := ⟨a_Days___eq__, i_Days___eq__, h_Days_ne, h_Days_mro⟩
    sm_Days___str__ := ⟨a_Days___str__, i_Days___str__⟩
    sm_Days___contains__ := ⟨a_Days___contains__, i_Days___contains__⟩
    op_Days_and := ⟨h_Days_sf, a_Days___and__, i_Days___and__, h_Days_rand⟩
    ip_Days_and := ⟨⟨cd_Days, h_Days_cd, h_Days_cm⟩, h_Days_iand, by rw [typeLookup_type, builtinLookup_eq_fast]; kernel_rfl⟩
    op_Days_or := ⟨h_Days_sf, a_Days___or__, i_Days___or__, h_Days_ror⟩
    ip_Days_or := ⟨⟨cd_Days, h_Days_cd, h_Days_cm⟩, h_Days_ior, by rw [typeLookup_type, builtinLookup_eq_fast]; kernel_rfl⟩
    op_Days_sub := ⟨h_Days_sf, a_Days___sub__, i_Days___sub__, h_Days_rsub⟩
    ip_Days_sub := ⟨⟨cd_Days, h_Days_cd, h_Days_cm⟩, h_Days_isub, by rw [typeLookup_type, builtinLookup_eq_fast]; kernel_rfl⟩
    op_Days_rshift := ⟨h_Days_sf, a_Days___rshift__, i_Days___rshift__, h_Days_rrshift⟩
    op_Days_lshift := ⟨h_Days_sf, a_Days___lshift__, i_Days___lshift__, h_Days_rlshift⟩
    cm_Days_lt := ⟨a_Days___lt__, i_Days___lt__⟩
    cm_Days_le := ⟨a_Days___le__, i_Days___le__⟩
    cm_Days_gt := ⟨a_Days___gt__, i_Days___gt__⟩
    cm_Days_ge := ⟨a_Days___ge__, i_Days___ge__⟩ }) ef e0 hg__law_refused_right hn__law_refused_right
end NN

open PySem PySem.W PyProof.Rows in
set_option maxHeartbeats 0 in
theorem PySem.Challenge.cw_nodeadnight_k12_days_joined_and_moved_holds : PySem.Challenge.rw_nodeadnight_k12_days_joined_and_moved.Holds := by
  w_on; o_law; k_head; (case hw => w_witness2)
  k_fill
  refine LamX.walk_ofG (l := PySem.Challenge.rw_nodeadnight_k12_days_joined_and_moved) (n := 63) (k := 40) (CX := fun _ => L2.CX0) (x := "script") rfl (by decide) rfl ⟨rfl, by decide, by decide⟩ (fun w h Y => by first | exact PySem.W.km_in_of Y | exact PySem.W.kIn_of Y) ?F ?hCX
  case hCX => exact fun _ _ _ _ _ z => z
  case F =>
    intro w mg fa h Y KX G hmg
    refine' NN.all_mk (hfa := hmg) KX G ?a_is_whole ?l_is_whole ?c_is_whole_ ?k_is_whole ?a_is_from ?l_is_from ?c_is_from_ ?k_is_from ?a_are_from ?l_are_from ?c_are_from_ ?k_are_from ?a_marked ?l_marked ?c_marked_ ?k_marked ?a_least_period ?l_least_period ?c_least_period_ ?k_least_period ?a_common_period ?l_common_period ?c_common_period_ ?k_common_period ?a_StayError ?a_BadDays ?h_BadDays_l ?h_BadDays_bm ?h_BadDays_sa ?h_BadDays_ex ?h_BadDays_ty ?h_BadDays_kp ?h_BadDays_ga ?h_BadDays_gg ?h_BadDays_hd ?h_BadDays_cls ?h_BadDays_mro ?h_cget ?h_ctak ?h_nx_BadDays_part ?a_BadDays___init__ ?i_BadDays___init__ ?l_BadDays___init__ ?c_BadDays___init___ ?k_BadDays___init__ ?t_BadDays___init__ ?a_TooMany ?h_TooMany_l ?h_TooMany_bm ?h_TooMany_sa ?h_TooMany_ex ?h_TooMany_ty ?h_TooMany_kp ?h_TooMany_ga ?h_TooMany_gg ?h_TooMany_hd ?h_TooMany_cls ?h_TooMany_mro ?h_nx_TooMany_what ?h_nx_TooMany_most ?a_TooMany___init__ ?i_TooMany___init__ ?l_TooMany___init__ ?c_TooMany___init___ ?k_TooMany___init__ ?t_TooMany___init__ ?a_Days ?h_Days_pg ?h_Days_hd ?h_Days_po ?h_Days_sa ?h_Days_cls ?h_Days_get ?h_Days_tak ?h_Days_mro ?h_na_Days__period ?h_na_Days__rests ?h_Days_mk ?h_Days_kp ?a_Days___init__ ?i_Days___init__ ?l_Days___init__ ?c_Days___init___ ?k_Days___init__ ?a_Days___eq__ ?i_Days___eq__ ?l_Days___eq__ ?c_Days___eq___ ?k_Days___eq__ ?a_Days___str__ ?i_Days___str__ ?l_Days___str__ ?c_Days___str___ ?k_Days___str__ ?a_Days___contains__ ?i_Days___contains__ ?l_Days___contains__ ?c_Days___contains___ ?k_Days___contains__ ?a_Days___and__ ?i_Days___and__ ?l_Days___and__ ?c_Days___and___ ?k_Days___and__ ?a_Days___or__ ?i_Days___or__ ?l_Days___or__ ?c_Days___or___ ?k_Days___or__ ?a_Days___sub__ ?i_Days___sub__ ?l_Days___sub__ ?c_Days___sub___ ?k_Days___sub__ ?a_Days___invert__ ?i_Days___invert__ ?l_Days___invert__ ?c_Days___invert___ ?k_Days___invert__ ?a_Days___rshift__ ?i_Days___rshift__ ?l_Days___rshift__ ?c_Days___rshift___ ?k_Days___rshift__ ?a_Days___lshift__ ?i_Days___lshift__ ?l_Days___lshift__ ?c_Days___lshift___ ?k_Days___lshift__ ?a_Days___le__ ?i_Days___le__ ?l_Days___le__ ?c_Days___le___ ?k_Days___le__ ?a_Days___lt__ ?i_Days___lt__ ?l_Days___lt__ ?c_Days___lt___ ?k_Days___lt__ ?a_Days___ge__ ?i_Days___ge__ ?l_Days___ge__ ?c_Days___ge___ ?k_Days___ge__ ?a_Days___gt__ ?i_Days___gt__ ?l_Days___gt__ ?c_Days___gt___ ?k_Days___gt__ ?h_Days_ne ?h_Days_sf ?h_Days_rand ?h_Days_iand ?h_Days_cd ?h_Days_cm ?h_Days_ror ?h_Days_ior ?h_Days_rsub ?h_Days_isub ?h_Days_rrshift ?h_Days_rlshift ?h_Days_rd ?h_Days_tg ?ca_Days_none ?cr_Days_none ?l_Days_none ?c_Days_none_ ?k_Days_none ?ca_Days_on ?cr_Days_on ?l_Days_on ?c_Days_on_ ?k_Days_on ?pa_Days_period ?pg_Days_period ?pt_Days_period ?pr_Days_period ?l_Days_period ?c_Days_period_ ?k_Days_period ?h_exm_TooMany ?h_kit_Days ?h_si_Days ?a_lcm ?a__law_pen ?l__law_pen ?c__law_pen_ ?k__law_pen ?a__law_draw ?l__law_draw ?c__law_draw_ ?k__law_draw ?a__law_pick ?l__law_pick ?c__law_pick_ ?k__law_pick ?a__law_plain ?l__law_plain ?c__law_plain_ ?k__law_plain ?a__law_has ?l__law_has ?c__law_has_ ?k__law_has ?a__law_spots ?l__law_spots ?c__law_spots_ ?k__law_spots ?a__law_bound ?l__law_bound ?c__law_bound_ ?k__law_bound ?a__law_joined_right ?l__law_joined_right ?c__law_joined_right_ ?k__law_joined_right ?a__law_order_right ?l__law_order_right ?c__law_order_right_ ?k__law_order_right ?a__law_moved_right ?l__law_moved_right ?c__law_moved_right_ ?k__law_moved_right ?a__law_many ?l__law_many ?c__law_many_ ?k__law_many ?a__law_refused_right ?l__law_refused_right ?c__law_refused_right_ ?k__law_refused_right ?a_law ?l_law ?c_law_ ?k_law ?z_isinstance ?z_int ?z_bool ?z_len ?z_tuple ?z_range ?z_list ?z_abs ?z_str ?z_all ?z_repr ?h_Days_MOST ?hc__law_refused_right ?ht__law_refused_right ?hb__law_refused_right ?hg__law_refused_right ?hn__law_refused_right
    (case a_is_whole => k_is)
    (case l_is_whole => k_is)
    (case c_is_whole_ => k_is)
    (case k_is_whole => k_is)
    (case a_is_from => k_is)
    (case l_is_from => k_is)
    (case c_is_from_ => k_is)
    (case k_is_from => k_is)
    (case a_are_from => k_is)
    (case l_are_from => k_is)
    (case c_are_from_ => k_is)
    (case k_are_from => k_is)
    (case a_marked => k_is)
    (case l_marked => k_is)
    (case c_marked_ => k_is)
    (case k_marked => k_is)
    (case a_least_period => k_is)
    (case l_least_period => k_is)
    (case c_least_period_ => k_is)
    (case k_least_period => k_is)
    (case a_common_period => k_is)
    (case l_common_period => k_is)
    (case c_common_period_ => k_is)
    (case k_common_period => k_is)
    (case a_StayError => k_is)
    (case a_BadDays => k_is)
    (case h_BadDays_l => k_is)
    (case h_BadDays_bm => first | rfl | decide +kernel)
    (case h_BadDays_sa => k_is)
    (case h_BadDays_ex => k_is)
    (case h_BadDays_ty => k_is)
    (case h_BadDays_kp => k_is)
    (case h_BadDays_ga => k_is)
    (case h_BadDays_gg => k_is)
    (case h_BadDays_hd => k_is)
    (case h_BadDays_cls => k_is)
    (case h_BadDays_mro => k_is)
    (case h_cget => k_is)
    (case h_ctak => k_is)
    (case h_nx_BadDays_part => k_is)
    (case a_BadDays___init__ => k_is)
    (case i_BadDays___init__ => k_is)
    (case l_BadDays___init__ => k_is)
    (case c_BadDays___init___ => k_is)
    (case k_BadDays___init__ => k_is)
    (case t_BadDays___init__ => k_is)
    (case a_TooMany => k_is)
    (case h_TooMany_l => k_is)
    (case h_TooMany_bm => first | rfl | decide +kernel)
    (case h_TooMany_sa => k_is)
    (case h_TooMany_ex => k_is)
    (case h_TooMany_ty => k_is)
    (case h_TooMany_kp => k_is)
    (case h_TooMany_ga => k_is)
    (case h_TooMany_gg => k_is)
    (case h_TooMany_hd => k_is)
    (case h_TooMany_cls => k_is)
    (case h_TooMany_mro => k_is)
    (case h_nx_TooMany_what => k_is)
    (case h_nx_TooMany_most => k_is)
    (case a_TooMany___init__ => k_is)
    (case i_TooMany___init__ => k_is)
    (case l_TooMany___init__ => k_is)
    (case c_TooMany___init___ => k_is)
    (case k_TooMany___init__ => k_is)
    (case t_TooMany___init__ => k_is)
    (case a_Days => k_is)
    (case h_Days_pg => k_is)
    (case h_Days_hd => k_is)
    (case h_Days_po => k_is)
    (case h_Days_sa => k_is)
    (case h_Days_cls => k_is)
    (case h_Days_get => k_is)
    (case h_Days_tak => k_is)
    (case h_Days_mro => k_is)
    (case h_na_Days__period => k_is)
    (case h_na_Days__rests => k_is)
    (case h_Days_mk => k_is)
    (case h_Days_kp => k_is)
    (case a_Days___init__ => k_is)
    (case i_Days___init__ => k_is)
    (case l_Days___init__ => k_is)
    (case c_Days___init___ => k_is)
    (case k_Days___init__ => k_is)
    (case a_Days___eq__ => k_is)
    (case i_Days___eq__ => k_is)
    (case l_Days___eq__ => k_is)
    (case c_Days___eq___ => k_is)
    (case k_Days___eq__ => k_is)
    (case a_Days___str__ => k_is)
    (case i_Days___str__ => k_is)
    (case l_Days___str__ => k_is)
    (case c_Days___str___ => k_is)
    (case k_Days___str__ => k_is)
    (case a_Days___contains__ => k_is)
    (case i_Days___contains__ => k_is)
    (case l_Days___contains__ => k_is)
    (case c_Days___contains___ => k_is)
    (case k_Days___contains__ => k_is)
    (case a_Days___and__ => k_is)
    (case i_Days___and__ => k_is)
    (case l_Days___and__ => k_is)
    (case c_Days___and___ => k_is)
    (case k_Days___and__ => k_is)
    (case a_Days___or__ => k_is)
    (case i_Days___or__ => k_is)
    (case l_Days___or__ => k_is)
    (case c_Days___or___ => k_is)
    (case k_Days___or__ => k_is)
    (case a_Days___sub__ => k_is)
    (case i_Days___sub__ => k_is)
    (case l_Days___sub__ => k_is)
    (case c_Days___sub___ => k_is)
    (case k_Days___sub__ => k_is)
    (case a_Days___invert__ => k_is)
    (case i_Days___invert__ => k_is)
    (case l_Days___invert__ => k_is)
    (case c_Days___invert___ => k_is)
    (case k_Days___invert__ => k_is)
    (case a_Days___rshift__ => k_is)
    (case i_Days___rshift__ => k_is)
    (case l_Days___rshift__ => k_is)
    (case c_Days___rshift___ => k_is)
    (case k_Days___rshift__ => k_is)
    (case a_Days___lshift__ => k_is)
    (case i_Days___lshift__ => k_is)
    (case l_Days___lshift__ => k_is)
    (case c_Days___lshift___ => k_is)
    (case k_Days___lshift__ => k_is)
    (case a_Days___le__ => k_is)
    (case i_Days___le__ => k_is)
    (case l_Days___le__ => k_is)
    (case c_Days___le___ => k_is)
    (case k_Days___le__ => k_is)
    (case a_Days___lt__ => k_is)
    (case i_Days___lt__ => k_is)
    (case l_Days___lt__ => k_is)
    (case c_Days___lt___ => k_is)
    (case k_Days___lt__ => k_is)
    (case a_Days___ge__ => k_is)
    (case i_Days___ge__ => k_is)
    (case l_Days___ge__ => k_is)
    (case c_Days___ge___ => k_is)
    (case k_Days___ge__ => k_is)
    (case a_Days___gt__ => k_is)
    (case i_Days___gt__ => k_is)
    (case l_Days___gt__ => k_is)
    (case c_Days___gt___ => k_is)
    (case k_Days___gt__ => k_is)
    (case h_Days_ne => k_is)
    (case h_Days_sf => k_is)
    (case h_Days_rand => k_is)
    (case h_Days_iand => k_is)
    (case h_Days_cd => k_is)
    (case h_Days_cm => first | rfl | k_is)
    (case h_Days_ror => k_is)
    (case h_Days_ior => k_is)
    (case h_Days_rsub => k_is)
    (case h_Days_isub => k_is)
    (case h_Days_rrshift => k_is)
    (case h_Days_rlshift => k_is)
    (case h_Days_rd => k_is)
    (case h_Days_tg => k_is)
    (case ca_Days_none => k_is)
    (case cr_Days_none => k_is)
    (case l_Days_none => k_is)
    (case c_Days_none_ => k_is)
    (case k_Days_none => k_is)
    (case ca_Days_on => k_is)
    (case cr_Days_on => k_is)
    (case l_Days_on => k_is)
    (case c_Days_on_ => k_is)
    (case k_Days_on => k_is)
    (case pa_Days_period => k_is)
    (case pg_Days_period => k_is)
    (case pt_Days_period => k_is)
    (case pr_Days_period => k_is)
    (case l_Days_period => k_is)
    (case c_Days_period_ => k_is)
    (case k_Days_period => k_is)
    (case h_exm_TooMany => kts_exm)
    (case h_kit_Days => kit_is)
    (case h_si_Days => k_is)
    (case a_lcm => k_is)
    (case a__law_pen => k_is)
    (case l__law_pen => k_is)
    (case c__law_pen_ => k_is)
    (case k__law_pen => k_is)
    (case a__law_draw => k_is)
    (case l__law_draw => k_is)
    (case c__law_draw_ => k_is)
    (case k__law_draw => k_is)
    (case a__law_pick => k_is)
    (case l__law_pick => k_is)
    (case c__law_pick_ => k_is)
    (case k__law_pick => k_is)
    (case a__law_plain => k_is)
    (case l__law_plain => k_is)
    (case c__law_plain_ => k_is)
    (case k__law_plain => k_is)
    (case a__law_has => k_is)
    (case l__law_has => k_is)
    (case c__law_has_ => k_is)
    (case k__law_has => k_is)
    (case a__law_spots => k_is)
    (case l__law_spots => k_is)
    (case c__law_spots_ => k_is)
    (case k__law_spots => k_is)
    (case a__law_bound => k_is)
    (case l__law_bound => k_is)
    (case c__law_bound_ => k_is)
    (case k__law_bound => k_is)
    (case a__law_joined_right => k_is)
    (case l__law_joined_right => k_is)
    (case c__law_joined_right_ => k_is)
    (case k__law_joined_right => k_is)
    (case a__law_order_right => k_is)
    (case l__law_order_right => k_is)
    (case c__law_order_right_ => k_is)
    (case k__law_order_right => k_is)
    (case a__law_moved_right => k_is)
    (case l__law_moved_right => k_is)
    (case c__law_moved_right_ => k_is)
    (case k__law_moved_right => k_is)
    (case a__law_many => k_is)
    (case l__law_many => k_is)
    (case c__law_many_ => k_is)
    (case k__law_many => k_is)
    (case a__law_refused_right => k_is)
    (case l__law_refused_right => k_is)
    (case c__law_refused_right_ => k_is)
    (case k__law_refused_right => k_is)
    (case a_law => k_is)
    (case l_law => k_is)
    (case c_law_ => k_is)
    (case k_law => k_is)
    (case z_isinstance => k_is)
    (case z_int => k_is)
    (case z_bool => k_is)
    (case z_len => k_is)
    (case z_tuple => k_is)
    (case z_range => k_is)
    (case z_list => k_is)
    (case z_abs => k_is)
    (case z_str => k_is)
    (case z_all => k_is)
    (case z_repr => k_is)
    (case h_Days_MOST => k_is)
    (case hc__law_refused_right => k_is)
    (case ht__law_refused_right => rfl)
    (case hb__law_refused_right => first | rfl | decide +kernel)
    (case hg__law_refused_right => exact PySem.W.km_tabs_of Y _ (by decide))
    (case hn__law_refused_right => exact NN.none_of Y (by decide))
#print axioms PySem.Challenge.cw_nodeadnight_k12_days_joined_and_moved_holds
