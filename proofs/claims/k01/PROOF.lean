import PyProof.Rows.All
import Wide.All
import OpenK.AllK
import Wide.FinOn
import HandS.ForMost
import HandS.EndTab
import HandS.OwnEq
import HandS.IsInst
import HandS.Exc
import HandS.ExcInit
import HandS.ExcIs
import HandS.ExcField
import HandS.Conv
import HandS.FStr
import KE.KCallOwn
import HandS.ClsMeth
import HandS.Lambda
import HandS.WordsExc
import PyProof.NeKinds
import KE.KIsNot
import PyProof.MeetsIn
import PyProof.EqAt
import PyProof.MeetsSeq
import HandS.Property
import KE.KOwnIter
import KE.KDictIter
import PyProof.WalksMore
import HandS.IterVal
import HandS.Comp
import HandS.Star
import HandS.Style
import HandS.Text
import HandS.Wide
import HandS.ExcInitHot
import HandS.SuiteRaise
import HandS.RaiseFrom
import HandS.StrMore
import HandS.MakeKw
import HandS.MakeKwOnly
import KE.KExcMake
import PyProof.Rows.ReprOcc
import PyProof.Rows.StrDigitsNeg
import KE.IntTextText
import KE.IntTextLaws
import HandS.Codes
import HandS.ReplaceList
import HandS.NoneIn
import HandS.More
import HandS.Defaults
import HandS.Small
import HandS.Dict
import HandS.RaiseMore
import HandS.Strs
import KE.RegKIsAll
import KE.RegKTryMore
import PySem.Challenge.RW_nodeadnight_k01_errors_and_their_fields
set_option Elab.async false
set_option linter.all false
set_option maxRecDepth 100000
set_option maxHeartbeats 4000000
/-! An abstract layer: a state is what is known (kn) and a count (n); the rest of the heap (a pen, tables of code objects, what a caller had) is kept by an invariant. -/
namespace AW
open PySem PySem.Spec PyProof.Rows L2

def isMut : HO → Bool
  | .lst _ => true | .dK _ => true | .dT _ => true | .set _ _ => true | .ins _ _ _ => true
  | _ => false
def isTbl : HO → Bool
  | .tbl _ => true
  | _ => false
/-- all that kn does not know, and all that never changes, is kept -/
def Kept (kn H H' : Hp) : Prop := ∀ x o, H x = some o → (kn x = none ∨ isMut o = false) → H' x = some o

structure Cw where
  inv : Nat → Hp → Prop
  res : Addr → Prop
  live : ∀ n H x, inv n H → res x → H x ≠ none
  step : ∀ n kn H H', inv n H → (∀ x, res x → kn x = none) → Kept kn H H' → inv n H'
  up : ∀ n m H, inv n H → n ≤ m → inv m H

structure Good (c : Cw) (kn : Hp) (n : Nat) (H : Hp) : Prop where
  ex : Ext kn H
  inv : c.inv n H
  res : ∀ x, c.res x → kn x = none
  nt : ∀ x o, kn x = some o → isTbl o = false

section
variable {c : Cw} {kn kn' H H' : Hp} {n m : Nat} {q : Addr} {o : HO}
theorem Good.free (g : Good c kn n H) (h : H q = none) : kn q = none := by
  cases e : kn q with
  | none => rfl
  | some u => rw [g.ex q u e] at h; cases h
theorem Good.up (g : Good c kn n H) (h : n ≤ m) : Good c kn m H := ⟨g.ex, c.up n m H g.inv h, g.res, g.nt⟩
theorem Kept.refl : Kept kn H H := fun _ _ h _ => h
/-- a new object -/
theorem nt_upd (h : ∀ x o, kn x = some o → isTbl o = false) (ht : isTbl o = false) : ∀ x u, upd kn q o x = some u → isTbl u = false := fun x u e => by
  by_cases hx : x = q
  · rw [hx, upd_same] at e; cases e; exact ht
  · rw [upd_ne hx] at e; exact h x u e
theorem Good.new (g : Good c kn n H) (h : H q = none) (ht : isTbl o = false := by rfl) : Good c (upd kn q o) n (upd H q o) := by
  refine ⟨fun x u e => ?_, c.step n kn H _ g.inv g.res (fun x u e _ => ?_), fun x r => ?_, nt_upd g.nt ht⟩
  · by_cases hx : x = q
    · rw [hx, upd_same] at e
      rw [hx, upd_same]
      exact e
    · rw [upd_ne hx] at e
      rw [upd_ne hx]
      exact g.ex x u e
  · rw [upd_ne (ne_of_none e h)]
    exact e
  · rw [upd_ne (fun z => c.live n H x g.inv r (by rw [z]; exact h))]
    exact g.res x r
/-- a known object is changed -/
theorem Good.put {u : HO} (g : Good c kn n H) (h : kn q = some u) (hm : isMut u = true) (ht : isTbl o = false := by rfl) : Good c (upd kn q o) n (upd H q o) := by
  refine ⟨fun x v e => ?_, c.step n kn H _ g.inv g.res (fun x v e k => ?_), fun x r => ?_, nt_upd g.nt ht⟩
  · by_cases hx : x = q
    · rw [hx, upd_same] at e
      rw [hx, upd_same]
      exact e
    · rw [upd_ne hx] at e
      rw [upd_ne hx]
      exact g.ex x v e
  · have hx : x ≠ q := fun z => by
      subst z
      have e2 := g.ex x u h
      rw [e] at e2
      cases e2
      rcases k with k | k
      · rw [h] at k; cases k
      · rw [hm] at k; cases k
    rw [upd_ne hx]
    exact e
  · rw [upd_ne (fun z => by subst z; have := g.res x r; rw [h] at this; cases this)]
    exact g.res x r
/-- the rest is only made longer -/
theorem Good.ext (g : Good c kn n H) (e : Ext H H') : Good c kn n H' :=
  ⟨fun x o h => e x o (g.ex x o h), c.step n kn H _ g.inv g.res fun x o h _ => e x o h, g.res, g.nt⟩
theorem know {a : Addr} {u : HO} (h : kn q = none) (e : kn a = some u) : upd kn q o a = some u := by
  rw [upd_ne (ne_of_none e h)]
  exact e
theorem free_upd {a : Addr} (h : kn q = none) (e : upd kn a o q = none) : True := trivial
theorem Ext.know {a : Addr} {u : HO} (x : Ext kn kn') (e : kn a = some u) : kn' a = some u := x a u e
end

/-- the abstract wish -/
def W {α : Type} (c : Cw) (t : Hp → (α → Hp → Prop) → Prop) (kn : Hp) (n : Nat) (Q : α → Hp → Nat → Prop) : Prop :=
  ∀ H, Good c kn n H → ∀ Q' : α → Hp → Prop, (∀ v kn' n' H', Q v kn' n' → Good c kn' n' H' → Q' v H') → t H Q'
structure AE where
  nx : L2.St → Hp → Nat → Prop
  rt : V → Hp → Nat → Prop
  bk : L2.St → Hp → Nat → Prop := fun _ _ _ => False
  ct : L2.St → Hp → Nat → Prop := fun _ _ _ => False
/-- an end is served by another -/
structure Fits (c : Cw) (D : AE) (D' : Ends) : Prop where
  nx : ∀ σ kn n H, D.nx σ kn n → Good c kn n H → D'.nx σ H
  rt : ∀ v kn n H, D.rt v kn n → Good c kn n H → D'.rt v H
  bk : ∀ σ kn n H, D.bk σ kn n → Good c kn n H → D'.bk σ H
  ct : ∀ σ kn n H, D.ct σ kn n → Good c kn n H → D'.ct σ H
def WS (c : Cw) (ts : TS) (D : AE) (σ : L2.St) (kn : Hp) (n : Nat) : Prop := ∀ H, Good c kn n H → ∀ D' : Ends, Fits c D D' → ts D' σ H

section
variable {c : Cw} {kn : Hp} {n : Nat} {σ : L2.St} {K : PySem.W.Frag}
theorem W.mono {α : Type} {t : Hp → (α → Hp → Prop) → Prop} {Q R : α → Hp → Nat → Prop} (h : W c t kn n Q) (k : ∀ v kn' n', Q v kn' n' → R v kn' n') : W c t kn n R :=
  fun H g Q' q => h H g Q' fun v kn' n' H' e => q v kn' n' H' (k v kn' n' e)

/-! ### expressions -/
variable {Q : V → Hp → Nat → Prop} {QB : Bool → Hp → Nat → Prop} {QA : List V → Hp → Nat → Prop} {QO : Option Int → Hp → Nat → Prop}
theorem w_var {i : Nat} {v : V} (h : σ[i]? = some (some v)) (q : Q v kn n) : W c (tVar i σ) kn n Q := fun H g _ k => ⟨v, h, k v kn n H q g⟩
theorem w_c {v : V} (q : Q v kn n) : W c (tC v σ) kn n Q := fun H g _ k => k v kn n H q g
theorem w_op {r : R2} {ta tb : TE} (h : W c (ta σ) kn n fun x kn1 n1 => W c (tb σ) kn1 n1 fun y kn2 n2 => W c (r x y) kn2 n2 Q) : W c (tOp r ta tb σ) kn n Q :=
  fun H g Q' q => h H g _ fun x kn1 n1 H1 h1 g1 => h1 H1 g1 _ fun y kn2 n2 H2 h2 g2 => h2 H2 g2 Q' q
theorem w_un {r : V → Hp → VK → Prop} {ta : TE} (h : W c (ta σ) kn n fun x kn1 n1 => W c (r x) kn1 n1 Q) : W c (tUn r ta σ) kn n Q :=
  fun H g Q' q => h H g _ fun x kn1 n1 H1 h1 g1 => h1 H1 g1 Q' q
theorem r_I0 {f : Int → Int → V} {i j : Int} (q : Q (f i j) kn n) : W c (rI0 f (.int i) (.int j)) kn n Q := fun H g _ k => ⟨i, j, rfl, rfl, k _ kn n H q g⟩
theorem r_I {C : Int → Int → Prop} {f : Int → Int → V} {i j : Int} (hc : C i j) (q : Q (f i j) kn n) : W c (rI C f (.int i) (.int j)) kn n Q := fun H g _ k => ⟨i, j, rfl, rfl, hc, k _ kn n H q g⟩
theorem r_U {f : Int → V} {i : Int} (q : Q (f i) kn n) : W c (rU f (.int i)) kn n Q := fun H g _ k => ⟨i, rfl, k _ kn n H q g⟩
theorem r_eq {x y : V} (h : scal x y = true) (q : Q (.bl (decide (x = y))) kn n) : W c (rEq x y) kn n Q := fun H g _ k => ⟨h, k _ kn n H q g⟩
theorem r_ne {x y : V} (h : scal x y = true) (q : Q (.bl (!decide (x = y))) kn n) : W c (rNe x y) kn n Q := fun H g _ k => ⟨h, k _ kn n H q g⟩
theorem sql {a : Addr} {xs : List V} {H : Hp} (h : H a = some (.lst xs)) : SqL K H a xs := .inl (.inl h)
theorem sqt {a : Addr} {xs : List V} {H : Hp} (h : H a = some (.tup xs)) : SqT K H a xs := .inl (.inl h)
theorem r_ixL {p : Addr} {xs : List V} {i : Int} {v : V} (h : kn p = some (.lst xs)) (e : atI xs i = some v) (q : Q v kn n) : W c (rIxL K (.ref p) (.int i)) kn n Q :=
  fun H g _ k => ⟨p, xs, i, v, rfl, rfl, sql (g.ex _ _ h), e, k _ kn n H q g⟩
theorem r_ixT {p : Addr} {xs : List V} {i : Int} {v : V} (h : kn p = some (.tup xs)) (e : atI xs i = some v) (q : Q v kn n) : W c (rIxT K (.ref p) (.int i)) kn n Q :=
  fun H g _ k => ⟨p, xs, i, v, rfl, rfl, sqt (g.ex _ _ h), e, k _ kn n H q g⟩
theorem w_nil (q : QA [] kn n) : W c (tNil σ) kn n QA := fun H g _ k => k _ kn n H q g
theorem w_cons {ta : TE} {tr : TA} (h : W c (ta σ) kn n fun x kn1 n1 => W c (tr σ) kn1 n1 fun xs kn2 n2 => QA (x :: xs) kn2 n2) : W c (tCons ta tr σ) kn n QA :=
  fun H g Q' q => h H g _ fun x kn1 n1 H1 h1 g1 => h1 H1 g1 _ fun xs kn2 n2 H2 h2 g2 => q _ kn2 n2 H2 h2 g2
theorem w_tup {t : TA} (h : W c (t σ) kn n fun xs kn1 n1 => xs.length ≤ 1000 ∧ ∀ q, kn1 q = none → Q (.ref q) (upd kn1 q (.tup xs)) n1) : W c (tTup t σ) kn n Q :=
  fun H g Q' q => h H g _ fun xs kn1 n1 H1 h1 g1 => ⟨Nat.le_trans h1.1 (by decide), fun p hp => q _ _ _ _ (h1.2 p (g1.free hp)) (g1.new hp)⟩
theorem w_lst {t : TA} (h : W c (t σ) kn n fun xs kn1 n1 => xs.length ≤ 1000 ∧ ∀ q, kn1 q = none → Q (.ref q) (upd kn1 q (.lst xs)) n1) : W c (tLst t σ) kn n Q :=
  fun H g Q' q => h H g _ fun xs kn1 n1 H1 h1 g1 => ⟨Nat.le_trans h1.1 (by decide), fun p hp => q _ _ _ _ (h1.2 p (g1.free hp)) (g1.new hp)⟩
theorem w_cb {r : List V → Hp → VK → Prop} {t : TA} (h : W c (t σ) kn n fun xs kn1 n1 => W c (r xs) kn1 n1 Q) : W c (tCB r t σ) kn n Q :=
  fun H g Q' q => h H g _ fun xs kn1 n1 H1 h1 g1 => h1 H1 g1 Q' q
theorem w_ifE {t : TT} {ta tb : TE} (h : W c (t σ) kn n fun b kn1 n1 => (b = true → W c (ta σ) kn1 n1 Q) ∧ (b = false → W c (tb σ) kn1 n1 Q)) : W c (tIf t ta tb σ) kn n Q :=
  fun H g Q' q => h H g _ fun b kn1 n1 H1 h1 g1 => by
    cases b with
    | true => exact iteT (h1.1 rfl H1 g1 Q' q)
    | false => exact iteF (h1.2 rfl H1 g1 Q' q)
theorem w_andV {ta tb : TE} (h : W c (ta σ) kn n fun x kn1 n1 => ∃ b, x = .bl b ∧ (b = true → W c (tb σ) kn1 n1 Q) ∧ (b = false → Q (.bl false) kn1 n1)) : W c (tAndV ta tb σ) kn n Q :=
  fun H g Q' q => h H g _ fun x kn1 n1 H1 h1 g1 => by
    obtain ⟨b, e, h2, h3⟩ := h1
    refine ⟨b, e, ?_⟩
    cases b with
    | true => exact iteT (h2 rfl H1 g1 Q' q)
    | false => exact iteF (q _ _ _ _ (h3 rfl) g1)
theorem w_orV {ta tb : TE} (h : W c (ta σ) kn n fun x kn1 n1 => ∃ b, x = .bl b ∧ (b = false → W c (tb σ) kn1 n1 Q) ∧ (b = true → Q (.bl true) kn1 n1)) : W c (tOrV ta tb σ) kn n Q :=
  fun H g Q' q => h H g _ fun x kn1 n1 H1 h1 g1 => by
    obtain ⟨b, e, h2, h3⟩ := h1
    refine ⟨b, e, ?_⟩
    cases b with
    | true => exact iteT (q _ _ _ _ (h3 rfl) g1)
    | false => exact iteF (h2 rfl H1 g1 Q' q)
theorem w_notV {ta : TE} (h : W c (ta σ) kn n fun x kn1 n1 => ∃ b, x = .bl b ∧ Q (.bl (!b)) kn1 n1) : W c (tNotV ta σ) kn n Q :=
  fun H g Q' q => h H g _ fun x kn1 n1 H1 h1 g1 => by
    obtain ⟨b, e, h2⟩ := h1
    exact ⟨b, e, q _ _ _ _ h2 g1⟩

/-! ### tests -/
theorem w_test {t : TE} (h : W c (t σ) kn n fun x kn1 n1 => ∃ b, x = .bl b ∧ QB b kn1 n1) : W c (tTest t σ) kn n QB :=
  fun H g Q' q => h H g _ fun x kn1 n1 H1 h1 g1 => by
    obtain ⟨b, e, h2⟩ := h1
    exact ⟨b, e, q _ _ _ _ h2 g1⟩
theorem w_B {t : TE} (h : W c (t σ) kn n fun x kn1 n1 => ∃ b, x = .bl b ∧ QB b kn1 n1) : W c (tB t σ) kn n QB :=
  fun H g Q' q => h H g _ fun x kn1 n1 H1 h1 g1 => by
    obtain ⟨b, e, h2⟩ := h1
    exact ⟨b, e, q _ _ _ _ h2 g1⟩
theorem w_and {t u : TT} (h : W c (t σ) kn n fun b kn1 n1 => (b = true → W c (u σ) kn1 n1 QB) ∧ (b = false → QB false kn1 n1)) : W c (tAnd t u σ) kn n QB :=
  fun H g Q' q => h H g _ fun b kn1 n1 H1 h1 g1 => by
    cases b with
    | true => exact iteT (h1.1 rfl H1 g1 Q' q)
    | false => exact iteF (q _ _ _ _ (h1.2 rfl) g1)
theorem w_or {t u : TT} (h : W c (t σ) kn n fun b kn1 n1 => (b = false → W c (u σ) kn1 n1 QB) ∧ (b = true → QB true kn1 n1)) : W c (tOr t u σ) kn n QB :=
  fun H g Q' q => h H g _ fun b kn1 n1 H1 h1 g1 => by
    cases b with
    | true => exact iteT (q _ _ _ _ (h1.2 rfl) g1)
    | false => exact iteF (h1.1 rfl H1 g1 Q' q)
theorem w_not {t : TT} (h : W c (t σ) kn n fun b kn1 n1 => QB (!b) kn1 n1) : W c (tNot t σ) kn n QB :=
  fun H g Q' q => h H g _ fun b kn1 n1 H1 h1 g1 => q _ _ _ _ h1 g1

/-! ### slices -/
theorem w_noPart (q : QO none kn n) : W c (tNoPart σ) kn n QO := fun H g _ k => k _ kn n H q g
theorem w_part {t : TE} (h : W c (t σ) kn n fun x kn1 n1 => ∃ i, x = .int i ∧ QO (some i) kn1 n1) : W c (tPart t σ) kn n QO :=
  fun H g Q' q => h H g _ fun x kn1 n1 H1 h1 g1 => by
    obtain ⟨i, e, h2⟩ := h1
    exact ⟨i, e, q _ _ _ _ h2 g1⟩
theorem w_sl {r : V → Option Int → Option Int → Hp → VK → Prop} {te : TE} {tl th : TO}
    (h : W c (te σ) kn n fun x kn1 n1 => W c (tl σ) kn1 n1 fun l kn2 n2 => W c (th σ) kn2 n2 fun u kn3 n3 => W c (r x l u) kn3 n3 Q) : W c (tSl r te tl th σ) kn n Q :=
  fun H g Q' q => h H g _ fun x kn1 n1 H1 h1 g1 => h1 H1 g1 _ fun l kn2 n2 H2 h2 g2 => h2 H2 g2 _ fun u kn3 n3 H3 h3 g3 => h3 H3 g3 Q' q
theorem r_slL {p : Addr} {xs : List V} {lo hi : Option Int} (h : kn p = some (.lst xs)) (q : ∀ l, kn l = none → Q (.ref l) (upd kn l (.lst (cutV xs lo hi))) n) : W c (rSlL K (.ref p) lo hi) kn n Q :=
  fun H g _ k => ⟨p, xs, rfl, sql (g.ex _ _ h), fun l hl => k _ _ _ _ (q l (g.free hl)) (g.new hl)⟩

/-! ### fields, objects -/
theorem w_fld {ta : TE} {f : Str} (h : W c (ta σ) kn n fun x kn1 n1 => ∃ a C dx fs v, x = .ref a ∧ kn1 a = some (.ins C dx fs) ∧ Cls K C ∧ NoAttr K C f ∧ fs.lookup f = some v ∧ Q v kn1 n1) : W c (tFld K ta f σ) kn n Q :=
  fun H g Q' q => h H g _ fun x kn1 n1 H1 h1 g1 => by
    obtain ⟨a, C, dx, fs, v, e, h2, hc, hn, hl, h3⟩ := h1
    exact ⟨a, C, dx, fs, v, e, g1.ex _ _ h2, hc, hn, hl, q _ _ _ _ h3 g1⟩

/-! ### statements -/
variable {D : AE}
theorem s_next (q : D.nx σ kn n) : WS c tNext D σ kn n := fun H g D' f => f.nx σ kn n H q g
theorem s_seq {t u : TS} (h : WS c t { D with nx := fun σ1 kn1 n1 => WS c u D σ1 kn1 n1 } σ kn n) : WS c (tSeq t u) D σ kn n :=
  fun H g D' f => h H g { D' with nx := u D' } ⟨fun σ1 kn1 n1 H1 h1 g1 => h1 H1 g1 D' f, f.rt, f.bk, f.ct⟩
theorem s_ret {te : TE} (h : W c (te σ) kn n D.rt) : WS c (tRet te) D σ kn n := fun H g D' f => h H g D'.rt fun v kn1 n1 H1 h1 g1 => f.rt v kn1 n1 H1 h1 g1
theorem s_retN (h : D.rt .non kn n) : WS c tRetN D σ kn n := fun H g D' f => f.rt _ kn n H h g
theorem s_drop {te : TE} (h : W c (te σ) kn n fun _ kn1 n1 => D.nx σ kn1 n1) : WS c (tDrop te) D σ kn n := fun H g D' f => h H g _ fun v kn1 n1 H1 h1 g1 => f.nx σ kn1 n1 H1 h1 g1
theorem s_brk (h : D.bk σ kn n) : WS c tBreak D σ kn n := fun H g D' f => f.bk σ kn n H h g
theorem s_cont (h : D.ct σ kn n) : WS c tCont D σ kn n := fun H g D' f => f.ct σ kn n H h g
theorem s_if {t : TT} {u w : TS} (h : W c (t σ) kn n fun b kn1 n1 => (b = true → WS c u D σ kn1 n1) ∧ (b = false → WS c w D σ kn1 n1)) : WS c (tIfS t u w) D σ kn n :=
  fun H g D' f => h H g _ fun b kn1 n1 H1 h1 g1 => by
    cases b with
    | true => exact iteT (h1.1 rfl H1 g1 D' f)
    | false => exact iteF (h1.2 rfl H1 g1 D' f)
/-- targets -/
def WG (c : Cw) (gt : TG) (v : V) (σ : L2.St) (kn : Hp) (n : Nat) (N : L2.St → Hp → Nat → Prop) : Prop :=
  ∀ H, Good c kn n H → ∀ N' : L2.St → Hp → Prop, (∀ σ1 kn1 n1 H1, N σ1 kn1 n1 → Good c kn1 n1 H1 → N' σ1 H1) → gt v σ H N'
theorem g_name {i : Nat} {v : V} {N : L2.St → Hp → Nat → Prop} (h : N (σ.set i (some v)) kn n) : WG c (gName i) v σ kn n N := fun H g N' f => f _ kn n H h g
def WGs (c : Cw) (gt : TGs) (vs : List V) (σ : L2.St) (kn : Hp) (n : Nat) (N : L2.St → Hp → Nat → Prop) : Prop :=
  ∀ H, Good c kn n H → ∀ N' : L2.St → Hp → Prop, (∀ σ1 kn1 n1 H1, N σ1 kn1 n1 → Good c kn1 n1 H1 → N' σ1 H1) → gt vs σ H N'
theorem g_nil {N : L2.St → Hp → Nat → Prop} (h : N σ kn n) : WGs c gNil [] σ kn n N := fun H g N' f => ⟨rfl, f _ kn n H h g⟩
theorem g_cons {t : TG} {u : TGs} {v : V} {r : List V} {N : L2.St → Hp → Nat → Prop} (h : WG c t v σ kn n fun σ1 kn1 n1 => WGs c u r σ1 kn1 n1 N) : WGs c (gCons t u) (v :: r) σ kn n N :=
  fun H g N' f => ⟨v, r, rfl, h H g _ fun σ1 kn1 n1 H1 h1 g1 => h1 H1 g1 N' f⟩
theorem g_tup {k : Nat} {t : TGs} {a : Addr} {xs : List V} {N : L2.St → Hp → Nat → Prop} (h : kn a = some (.tup xs)) (hl : xs.length = k) (q : WGs c t xs σ kn n N) : WG c (gTup K k t) (.ref a) σ kn n N :=
  fun H g N' f => ⟨a, xs, rfl, sqt (g.ex _ _ h), hl, q H g N' f⟩
theorem s_asg {te : TE} {gt : TG} (h : W c (te σ) kn n fun v kn1 n1 => WG c gt v σ kn1 n1 D.nx) : WS c (tAsg te gt) D σ kn n :=
  fun H g D' f => h H g _ fun v kn1 n1 H1 h1 g1 => h1 H1 g1 D'.nx fun σ2 kn2 n2 H2 h2 g2 => f.nx σ2 kn2 n2 H2 h2 g2
theorem s_set {te : TE} {i : Nat} (h : W c (te σ) kn n fun v kn1 n1 => D.nx (σ.set i (some v)) kn1 n1) : WS c (tAsg te (gName i)) D σ kn n :=
  s_asg (h.mono fun _ _ _ q => g_name q)
theorem s_par {i j : Nat} {ta : TA} (h : W c (ta σ) kn n fun vs kn1 n1 => ∃ v w, vs = [v, w] ∧ D.nx ((σ.set i (some v)).set j (some w)) kn1 n1) : WS c (tPar i j ta) D σ kn n :=
  fun H g D' f => h H g _ fun vs kn1 n1 H1 h1 g1 => by
    obtain ⟨v, w, e, h2⟩ := h1
    exact ⟨v, w, e, f.nx _ _ _ _ h2 g1⟩
theorem g_set {to ti : TE} {v : V} {N : L2.St → Hp → Nat → Prop}
    (h : W c (to σ) kn n fun o kn1 n1 => W c (ti σ) kn1 n1 fun i kn2 n2 => ∃ p xs k j, o = .ref p ∧ i = .int k ∧ kn2 p = some (.lst xs) ∧ ixN xs.length k = some j ∧ N σ (upd kn2 p (.lst (xs.set j v))) n2) : WG c (gSub to ti rSetL) v σ kn n N :=
  fun H g N' f => h H g _ fun o kn1 n1 H1 h1 g1 => h1 H1 g1 _ fun i kn2 n2 H2 h2 g2 => by
    obtain ⟨p, xs, k, j, e1, e2, e3, e4, h3⟩ := h2
    exact ⟨p, xs, k, j, e1, e2, g2.ex _ _ e3, e4, f _ _ _ _ h3 (g2.put e3 rfl)⟩

/-! ### loops -/
theorem s_forR1 {ta : TA} {gt : TG} {tb : TS} {j : Int} (Pv : Nat → L2.St → Hp → Nat → Prop)
    (h : W c (ta σ) kn n fun vs kn1 n1 => vs = [.int j] ∧ -(2 ^ 62) ≤ j ∧ j < 2 ^ 62 ∧ Pv 0 σ kn1 n1)
    (hs : ∀ i σ' kn' n', i < j.toNat → Pv i σ' kn' n' → WG c gt (.int (i : Int)) σ' kn' n' fun σ2 kn2 n2 => WS c tb { D with nx := Pv (i + 1), ct := Pv (i + 1), bk := D.nx } σ2 kn2 n2)
    (hd : ∀ σ' kn' n', Pv j.toNat σ' kn' n' → D.nx σ' kn' n') : WS c (tFor (iRng1 ta) gt tb) D σ kn n :=
  fun H g D' f => h H g _ fun vs kn1 n1 H1 h1 g1 => by
    obtain ⟨e, b1, b2, h2⟩ := h1
    refine ⟨j, e, b1, b2, for_range (lo := 0) (n := j.toNat) (fun i σ' H' => ∃ kn' n', Pv i σ' kn' n' ∧ Good c kn' n' H') ⟨kn1, n1, h2, g1⟩ (fun i σ' H' hi p => ?_) (fun σ' H' p => ?_)⟩
    · obtain ⟨kn', n', p, g'⟩ := p
      have e0 : (0 : Int) + (i : Int) = (i : Int) := Int.zero_add _
      rw [e0]
      refine hs i σ' kn' n' hi p H' g' _ fun σ2 kn2 n2 H2 h2 g2 => h2 H2 g2 _ ⟨fun σ3 kn3 n3 H3 h3 g3 => ⟨kn3, n3, h3, g3⟩, f.rt, fun σ3 kn3 n3 H3 h3 g3 => f.nx _ _ _ _ h3 g3, fun σ3 kn3 n3 H3 h3 g3 => ⟨kn3, n3, h3, g3⟩⟩
    · obtain ⟨kn', n', p, g'⟩ := p
      exact f.nx _ _ _ _ (hd σ' kn' n' p) g'
end
end AW

namespace AW
open PySem PySem.Spec PyProof.Rows L2 LamX

/-! ### contexts: a def without a pen -/
/-- all that the caller had, but what kn0 knows and may change -/
def pureC (kn0 H0 : Hp) : Cw where
  inv _ H := Kept kn0 H0 H
  res x := H0 x ≠ none ∧ kn0 x = none
  live n H x k r := by
    obtain ⟨r1, r2⟩ := r
    cases e : H0 x with
    | none => exact absurd e r1
    | some o =>
      rw [k x o e (.inl r2)]
      exact fun z => nomatch z
  step n kn H H' k r s := fun x o e h => by
    refine s x o (k x o e h) ?_
    rcases h with h | h
    · exact .inl (r x ⟨(by rw [e]; exact fun z => nomatch z), h⟩)
    · exact .inr h
  up _ _ _ h _ := h
theorem pure_start {kn H : Hp} (h : Ext kn H) (t : ∀ x o, kn x = some o → isTbl o = false) : Good (pureC kn H) kn 0 H := ⟨h, Kept.refl, fun _ r => r.2, t⟩
theorem pure_any {kn0 H0 kn H : Hp} {n m : Nat} (g : Good (pureC kn0 H0) kn n H) : Good (pureC kn0 H0) kn m H := ⟨g.ex, g.inv, g.res, g.nt⟩
/-- a state of the callee is one of the caller -/
theorem Good.back {c : Cw} {kn kn' H H' : Hp} {n m : Nat} (g : Good c kn n H) (h : Good (pureC kn H) kn' m H') : Good c kn' n H' :=
  ⟨h.ex, c.step n kn H H' g.inv g.res h.inv, fun x r => h.res x ⟨c.live n H x g.inv r, g.res x r⟩, h.nt⟩

theorem both_t {A B : Prop} (h : A) : (true = true → A) ∧ (true = false → B) := ⟨fun _ => h, fun z => Bool.noConfusion z⟩
theorem both_f {A B : Prop} (h : B) : (false = true → A) ∧ (false = false → B) := ⟨fun z => Bool.noConfusion z, fun _ => h⟩
abbrev AK := V → Hp → Prop
abbrev AXK := Value → Option Addr → Hp → Prop
/-- a promise told of what is known -/
def liftX (B : List V → Hp → AK → AXK → Prop) : Sp := fun vs H Q E => ∃ kn, Ext kn H ∧ (∀ x o, kn x = some o → isTbl o = false) ∧ B vs kn (fun v kn' => ∀ n' H', Good (pureC kn H) kn' n' H' → Q v H') (fun cls d kn' => ∀ n' H', Good (pureC kn H) kn' n' H' → E cls d H')
def MonoX (B : List V → Hp → AK → AXK → Prop) : Prop := ∀ vs kn Q R E F, (∀ v k, Q v k → R v k) → (∀ cls d k, E cls d k → F cls d k) → B vs kn Q E → B vs kn R F
abbrev noX (B : List V → Hp → AK → Prop) : List V → Hp → AK → AXK → Prop := fun vs kn Q _ => B vs kn Q
section
variable {c : Cw} {kn : Hp} {n : Nat} {σ : L2.St} {Q : V → Hp → Nat → Prop} {K : PySem.W.Frag}
theorem sp_call {B : List V → Hp → AK → AXK → Prop} {vs : List V} {E : XK} {EA : Value → Option Addr → Hp → Nat → Prop} (hm : MonoX B)
    (hE : ∀ cls d kn' n' H', EA cls d kn' n' → Good c kn' n' H' → E cls d H') (h : B vs kn (fun v k => Q v k n) (fun cls d k => EA cls d k n)) : W c (fun H Q' => liftX B vs H Q' E) kn n Q :=
  fun H g Q' q => ⟨kn, g.ex, g.nt, hm vs kn _ _ _ _ (fun v k hq n' H' g' => q v k n H' hq (g.back g')) (fun cls d k he n' H' g' => hE cls d k n H' he (g.back g')) h⟩
theorem w_callX {B : List V → Hp → AK → AXK → Prop} {dvs : List V} {E : XK} {t : TA} {EA : Value → Option Addr → Hp → Nat → Prop} (hm : MonoX B)
    (hE : ∀ cls d kn' n' H', EA cls d kn' n' → Good c kn' n' H' → E cls d H') (h : W c (t σ) kn n fun vs kn1 n1 => B (vs ++ dvs) kn1 (fun v k => Q v k n1) (fun cls d k => EA cls d k n1)) : W c (tCall (liftX B) dvs E t σ) kn n Q :=
  fun H g Q' q => h H g _ fun vs kn1 n1 H1 h1 g1 => sp_call hm hE h1 H1 g1 Q' q
theorem w_call0 {B : List V → Hp → AK → AXK → Prop} {dvs : List V} {E : XK} {t : TA} (hm : MonoX B)
    (h : W c (t σ) kn n fun vs kn1 n1 => B (vs ++ dvs) kn1 (fun v k => Q v k n1) (fun _ _ _ => False)) : W c (tCall (liftX B) dvs E t σ) kn n Q :=
  w_callX (EA := fun _ _ _ _ => False) hm (fun _ _ _ _ _ h => h.elim) h
/-- the ends of a def's body -/
abbrev bodyE (c : Cw) (Q : VK) : AE := { nx := fun _ kn n => ∀ H', Good c kn n H' → Q .non H', rt := fun v kn n => ∀ H', Good c kn n H' → Q v H' }
theorem fits_body {c : Cw} {Q : VK} : Fits c (bodyE c Q) { nx := fun _ H' => Q .non H', rt := Q } :=
  ⟨fun σ kn n H h g => h H g, fun v kn n H h g => h H g, fun _ _ _ _ h _ => h.elim, fun _ _ _ _ h _ => h.elim⟩
theorem body_of {c : Cw} {t : TS} {Q : VK} {H : Hp} (g : Good c kn n H) (h : WS c t (bodyE c Q) σ kn n) : t { nx := fun _ H' => Q .non H', rt := Q } σ H := h H g _ fits_body
theorem s_mono {D D' : AE} {t : TS} (h : WS c t D σ kn n) (e1 : ∀ σ kn n, D.nx σ kn n → D'.nx σ kn n) (e2 : ∀ v kn n, D.rt v kn n → D'.rt v kn n) (e3 : ∀ σ kn n, D.bk σ kn n → D'.bk σ kn n) (e4 : ∀ σ kn n, D.ct σ kn n → D'.ct σ kn n) : WS c t D' σ kn n :=
  fun H g D2 f => h H g D2 ⟨fun σ kn n H h g => f.nx σ kn n H (e1 _ _ _ h) g, fun v kn n H h g => f.rt v kn n H (e2 _ _ _ h) g, fun σ kn n H h g => f.bk σ kn n H (e3 _ _ _ h) g, fun σ kn n H h g => f.ct σ kn n H (e4 _ _ _ h) g⟩
/-- the ways of a statement are joined -/
theorem s_join {D : AE} {t : TS} (J : L2.St → Hp → Nat → Prop) (h : WS c t { D with nx := J } σ kn n) (k : ∀ σ' kn' n', J σ' kn' n' → D.nx σ' kn' n') : WS c t D σ kn n :=
  s_mono h k (fun _ _ _ h => h) (fun _ _ _ h => h) (fun _ _ _ h => h)
theorem s_seqJ {D : AE} {t u : TS} (J : L2.St → Hp → Nat → Prop) (h : WS c t { D with nx := J } σ kn n) (k : ∀ σ' kn' n', J σ' kn' n' → WS c u D σ' kn' n') : WS c (tSeq t u) D σ kn n :=
  s_seq (s_join J h k)

/-! ### built-ins by names of their own -/
def rInt1 : List V → Hp → VK → Prop := fun xs H Q => (∃ i, xs = [.int i] ∧ Q (.int i) H) ∨ ∃ k, xs = [.bl k] ∧ Q (.int (if k then 1 else 0)) H
theorem c_int {X : Cx} : CallR X (.type "int") rInt1 := call_int1
theorem r_int1 {i : Int} (q : Q (.int i) kn n) : W c (rInt1 [.int i]) kn n Q := fun H g _ k => .inl ⟨i, rfl, k _ kn n H q g⟩
theorem r_int1b {b : Bool} (q : Q (.int (if b then 1 else 0)) kn n) : W c (rInt1 [.bl b]) kn n Q := fun H g _ k => .inr ⟨b, rfl, k _ kn n H q g⟩
def rAbs : List V → Hp → VK → Prop := fun xs H Q => ∃ i, xs = [.int i] ∧ Q (.int (if i < 0 then -i else i)) H
theorem c_abs {X : Cx} : CallR X (.builtin "abs") rAbs := call_abs
theorem r_abs {i : Int} (q : Q (.int (if i < 0 then -i else i)) kn n) : W c (rAbs [.int i]) kn n Q := fun H g _ k => ⟨i, rfl, k _ kn n H q g⟩
def rLenQ (K : PySem.W.Frag) : List V → Hp → VK → Prop := fun xs H Q => ∃ p ys, xs = [.ref p] ∧ (SqL K H p ys ∨ SqT K H p ys) ∧ Q (.int ys.length) H
theorem c_len {X : Cx} : CallR X (.builtin "len") (rLenQ X.K) := call_len_seq
theorem r_lenL {p : Addr} {xs : List V} (h : kn p = some (.lst xs)) (q : Q (.int xs.length) kn n) : W c (rLenQ K [.ref p]) kn n Q := fun H g _ k => ⟨p, xs, rfl, .inl (sql (g.ex _ _ h)), k _ kn n H q g⟩
theorem r_lenT {p : Addr} {xs : List V} (h : kn p = some (.tup xs)) (q : Q (.int xs.length) kn n) : W c (rLenQ K [.ref p]) kn n Q := fun H g _ k => ⟨p, xs, rfl, .inr (sqt (g.ex _ _ h)), k _ kn n H q g⟩
def rListQ (K : PySem.W.Frag) : List V → Hp → VK → Prop := fun xs H Q => ∃ p ys, xs = [.ref p] ∧ (SqL K H p ys ∨ SqT K H p ys) ∧ ∀ l, H l = none → Q (.ref l) (upd H l (.lst ys))
theorem c_list {X : Cx} : CallR X (.type "list") (rListQ X.K) := call_list_of
theorem r_listL {p : Addr} {xs : List V} (h : kn p = some (.lst xs)) (q : ∀ l, kn l = none → Q (.ref l) (upd kn l (.lst xs)) n) : W c (rListQ K [.ref p]) kn n Q := fun H g _ k => ⟨p, xs, rfl, .inl (sql (g.ex _ _ h)), fun l hl => k _ _ _ _ (q l (g.free hl)) (g.new hl)⟩
def rStrI : List V → Hp → VK → Prop := fun xs H Q => ∃ i, xs = [.int i] ∧ i.natAbs.log2 < 1920 ∧ Q (.str (toString i)) H
theorem c_strI {X : Cx} : CallR X (.type "str") rStrI := call_str_int
theorem r_strI {i : Int} (h : i.natAbs.log2 < 1920) (q : Q (.str (toString i)) kn n) : W c (rStrI [.int i]) kn n Q := fun H g _ k => ⟨i, rfl, h, k _ kn n H q g⟩

/-! ### == of data -/
theorem r_eqD {x y : V} {d e : PyData} (hx : Dp K kn x d) (hy : Dp K kn y e) (sx : SeqAt.shaped d = true) (sy : SeqAt.shaped e = true) (hmono : ∀ H v d, Ext kn H → Dp K kn v d → Dp K H v d) (q : Q (.bl (PyData.eqv d e)) kn n) : W c (rEqD K x y) kn n Q :=
  fun H g _ k => ⟨d, e, hmono H x d g.ex hx, hmono H y e g.ex hy, sx, sy, k _ kn n H q g⟩
mutual
theorem Dp.ext {H H' : Hp} (e : Ext H H') : ∀ (d : PyData) (v : V), Dp K H v d → Dp K H' v d
  | .none, _, h => by cases h; exact .non
  | .bool b, _, h => by cases h; exact .bl b
  | .int i, _, h => by cases h; exact .int i
  | .str x, _, h => by cases h; exact .str x
  | .list ds, _, h => by
    cases h with
    | lst hs ha => exact .lst (hs.ext e) (Dp.extAll e ds _ ha)
  | .tuple ds, _, h => by
    cases h with
    | tup hs ha => exact .tup (hs.ext e) (Dp.extAll e ds _ ha)
  | .dict _, _, h => by cases h
theorem Dp.extAll {H H' : Hp} (e : Ext H H') : ∀ (ds : List PyData) (vs : List V), DpAll K H vs ds → DpAll K H' vs ds
  | [], _, h => by cases h; exact .nil
  | d :: ds, _, h => by
    cases h with
    | cons h1 h2 => exact .cons (Dp.ext e d _ h1) (Dp.extAll e ds _ h2)
end
theorem r_eq_d {x y : V} {d e : PyData} (hx : Dp K kn x d) (hy : Dp K kn y e) (sx : SeqAt.shaped d = true) (sy : SeqAt.shaped e = true) (q : Q (.bl (PyData.eqv d e)) kn n) : W c (rEqD K x y) kn n Q :=
  r_eqD hx hy sx sy (fun H v d e h => Dp.ext e d v h) q
theorem r_ne_d {x y : V} {d e : PyData} (hx : Dp K kn x d) (hy : Dp K kn y e) (sx : SeqAt.shaped d = true) (sy : SeqAt.shaped e = true) (q : Q (.bl (!PyData.eqv d e)) kn n) : W c (rNeD K x y) kn n Q :=
  fun H g _ k => ⟨d, e, Dp.ext g.ex d x hx, Dp.ext g.ex e y hy, sx, sy, k _ kn n H q g⟩
end
end AW

/-! Operators of own classes. -/
namespace OX
open PySem PySem.W PySem.Calls PyProof.Rows Builtin
section
variable {prog : Program} {w : World} {A : Around} {E : Value → Shared → Prop} {s : Shared} {K : Frag} {x C f : Addr} {ox : Obj} {od : Option Obj} {b : Value}

theorem numSlot_own {M : Model} {h : Heap} {nm : String} (X : K.In h) (hs : findIn K (.ref C) (PySem.dunder nm) = some (some (.ref f))) (hr : findIn K (.ref C) (dunderR nm) = some none) :
    Looks M h (numberSlotInPython (.ref C) nm) true := by
  intro A Q E s k q
  unfold numberSlotInPython
  dsimp only
  refine wpAny_bind (looks_findIn X hs A _ E s k ?_)
  show wpAny M A (pure true >>= _) _ _ _
  refine wpAny_bind (wpAny_pure ?_)
  refine wpAny_bind (looks_findIn X hr A _ E s k ?_)
  show wpAny M A (pure false >>= _) _ _ _
  refine wpAny_bind (wpAny_pure ?_)
  simp only [Bool.or_false, if_true]
  exact wpAny_pure q
/-- an operator of an own class, the other operand of a built-in type -/
theorem binop1_T {nm T : String} {r : Bool} {o : Option Value} {Q : Value → Shared → Prop} (X : K.In s.heap) (I : InstAt s.heap x ox C od) (hb : Looks (model prog w) s.heap (typeOf b) (.type T)) (hc : selfFirst K C = true)
    (hs : findIn K (.ref C) (PySem.dunder nm) = some (some (.ref f))) (hf : isFn K (.ref f) = true) (hr : findIn K (.ref C) (dunderR nm) = some none) (fill : fillsNumberSlot (.type T) nm = pure r)
    (sub : subIn K (.type T) (.ref C) = some false) (hT : typeLookup (.type T) (dunderR nm) = pure o)
    (h : wpAny (model prog w) A (call (.ref f) [.ref x, b]) (PySem.W.CmpBack Q) E s) : wpAny (model prog w) A (binaryOp1 nm (.ref x) b) (fun r s' => ∃ v, r = some v ∧ Q v s') E s := by
  obtain ⟨cd, hcd, hm⟩ := any_some hc
  obtain ⟨rest, hm⟩ : ∃ rest, cd.mro = .ref C :: rest := by
    cases q : cd.mro with
    | nil => rw [q] at hm; cases hm
    | cons a r => rw [q] at hm; exact ⟨r, by rw [List.head?_cons] at hm; cases (beq_iff_eq.mp hm); rfl⟩
  have ne : ((Value.ref C) == (Value.type T)) = false := beq_eq_false_iff_ne.mpr (fun z => nomatch z)
  have last : ∀ {α : Type} (k : Option Value → Sem α) (P : α → Shared → Prop), (∀ v s', PySem.W.CmpBack Q v s' → wpAny (model prog w) A (k (some v)) P E s') → wpAny (model prog w) A (tryMethod (.ref x) (PySem.dunder nm) b >>= k) P E s := fun k P hk => by
    refine wpAny_bind ?_
    unfold tryMethod
    refine wpAny_bind (special_fn X I hs (beq_iff_eq.mp hf) (wpAny_mono h (fun v s' hv => ?_) fun _ _ e => e))
    cases v <;> first | exact hv.elim | exact wpAny_pure (hk _ _ hv)
  unfold binaryOp1
  refine wpAny_bind (I.type.here (wpAny_bind (hb.here (wpAny_bind ((fills_K X hcd hm hs).here ?_)))))
  rw [ne]
  simp only [Bool.false_eq_true, if_false]
  refine wpAny_bind (wpAny_of_eq fill ?_)
  cases r with
  | false =>
    simp only [Bool.and_false, Bool.false_eq_true, if_false, Bool.false_and]
    refine wpAny_bind (wpAny_pure ?_)
    simp only [Bool.false_eq_true, if_false, if_true]
    refine last _ _ fun v s' hv => ?_
    cases v <;> first | exact hv.elim | exact wpAny_pure ⟨_, rfl, hv⟩
  | true =>
    simp only [Bool.and_true, if_true]
    refine wpAny_bind ((looks_subIn X sub).here ?_)
    simp only [Bool.false_eq_true, if_false, Bool.not_false, Bool.and_true, if_true]
    refine wpAny_bind ((numSlot_own X hs hr).here ?_)
    simp only [if_true]
    refine wpAny_bind (wpAny_of_eq (show numberSlotInPython (.type T) nm = pure false from rfl) ?_)
    simp only [Bool.not_false, if_true]
    refine wpAny_bind (wpAny_of_eq hT ?_)
    refine last _ _ fun v s' hv => ?_
    cases v <;> first | exact hv.elim | exact wpAny_pure ⟨_, rfl, hv⟩
/-- .. the other operand of the same class -/
theorem binop1_C {nm : String} {Q : Value → Shared → Prop} (X : K.In s.heap) (I : InstAt s.heap x ox C od) (hb : Looks (model prog w) s.heap (typeOf b) (.ref C)) (hc : selfFirst K C = true)
    (hs : findIn K (.ref C) (PySem.dunder nm) = some (some (.ref f))) (hf : isFn K (.ref f) = true)
    (h : wpAny (model prog w) A (call (.ref f) [.ref x, b]) (PySem.W.CmpBack Q) E s) : wpAny (model prog w) A (binaryOp1 nm (.ref x) b) (fun r s' => ∃ v, r = some v ∧ Q v s') E s := by
  obtain ⟨cd, hcd, hm⟩ := any_some hc
  obtain ⟨rest, hm⟩ : ∃ rest, cd.mro = .ref C :: rest := by
    cases q : cd.mro with
    | nil => rw [q] at hm; cases hm
    | cons a r => rw [q] at hm; exact ⟨r, by rw [List.head?_cons] at hm; cases (beq_iff_eq.mp hm); rfl⟩
  unfold binaryOp1
  refine wpAny_bind (I.type.here (wpAny_bind (hb.here (wpAny_bind ((fills_K X hcd hm hs).here ?_)))))
  simp only [beq_self_eq_true, if_true]
  refine wpAny_bind (wpAny_pure ?_)
  simp only [Bool.and_false, Bool.false_eq_true, if_false, Bool.false_and]
  refine wpAny_bind (wpAny_pure ?_)
  simp only [Bool.false_eq_true, if_false]
  refine wpAny_bind (m := tryMethod (.ref x) _ b) ?_
  unfold tryMethod
  refine wpAny_bind (special_fn X I hs (beq_iff_eq.mp hf) (wpAny_mono h (fun v s' hv => ?_) fun _ _ e => e))
  cases v <;> first | exact hv.elim | exact wpAny_pure (wpAny_pure ⟨_, rfl, hv⟩)
theorem binop_of {op : Operator} {a : Value} {Q : Value → Shared → Prop} (h : wpAny (model prog w) A (binaryOp1 op.info.2 a b) (fun r s' => ∃ v, r = some v ∧ Q v s') E s) : wpAny (model prog w) A (binaryOp op a b) Q E s := by
  unfold binaryOp
  refine wpAny_holding (wpAny_bind (wpAny_mono h (fun r s' z => ?_) fun _ _ z => z))
  obtain ⟨v, rfl, q⟩ := z
  exact wpAny_pure q
theorem inplace_of {op : Operator} {Q : Value → Shared → Prop} (I : InstAt s.heap x ox C od) (hno : Looks (model prog w) s.heap (fillsInplaceSlot (.ref C) op.info.2 (op == .Add)) false)
    (h : wpAny (model prog w) A (binaryOp1 op.info.2 (.ref x) b) (fun r s' => ∃ v, r = some v ∧ Q v s') E s) : wpAny (model prog w) A (inplaceOp op (.ref x) b) Q E s := by
  unfold inplaceOp
  refine wpAny_holding (wpAny_bind (I.type.here (wpAny_bind (hno.here ?_))))
  simp only [Bool.false_eq_true, if_false]
  refine wpAny_bind (wpAny_mono h (fun r s' z => ?_) fun _ _ z => z)
  obtain ⟨v, rfl, q⟩ := z
  exact wpAny_pure q
/-- a class with no other own class above it has no slot in place -/
theorem noInplace {M : Model} {h : Heap} {nm : String} {add : Bool} {cd : ClassData} (X : K.In h) (hc : clsIn K C = some cd) (hm : cd.mro = [.ref C, .type "object"]) (hi : findIn K (.ref C) (dunderI nm) = some none)
    (ho : typeLookup (.type "object") (dunderI nm) = pure none) : Looks M h (fillsInplaceSlot (.ref C) nm add) false := by
  intro A Q E s k q
  unfold fillsInplaceSlot
  dsimp only
  refine wpAny_bind ((looks_clsIn X hc).andThen (f := fun cd => pure cd.mro) .now A _ E s k ?_)
  rw [hm, List.anyM_cons]
  refine wpAny_bind (wpAny_bind (looks_findIn X hi A _ E s k ?_))
  dsimp only
  refine wpAny_pure ?_
  simp only [Bool.false_eq_true, if_false]
  rw [List.anyM_cons, ho]
  refine wpAny_bind (wpAny_bind (wpAny_pure ?_))
  dsimp only
  refine wpAny_pure ?_
  simp only [Bool.false_eq_true, if_false, List.anyM_nil]
  exact wpAny_pure q

/-! ### != by an own == -/
theorem ifBound_bi {M : Model} {id : String} {name : Str} {args : List Value} {Q : Option Value → Shared → Prop} (X : K.In s.heap) (I : InstAt s.heap x ox C od) (hs : findIn K (.ref C) name = some (some (.builtin id)))
    (hbd : bindSpecial (.builtin id) (.ref x) = pure (.builtin id, [.ref x])) (h : wpAny M A (call (.builtin id) (.ref x :: args)) (fun v => Q (some v)) E s) : wpAny M A (callSpecialIfBound? (.ref x) name args) Q E s := by
  simp only [callSpecialIfBound?, bindSpecialIfBound?]
  refine wpAny_holding (wpAny_bind (wpAny_bind (wpAny_bind (I.type.here ((looks_findIn X hs).here ?_)))))
  refine wpAny_bind (wpAny_askSetting (wpAny_ite ?_))
  have fin : wpAny M A (call (.builtin id) ([.ref x] ++ args) >>= fun v => pure (some v)) Q E s := wpAny_bind (wpAny_mono h (fun v s' h' => wpAny_pure h') fun _ _ h' => h')
  rw [hbd]
  split
  · exact wpAny_bind (wpAny_pure (wpAny_pure (by exact fin)))
  · exact wpAny_tryCatch (wpAny_bind (wpAny_pure (wpAny_pure (by exact fin))))
/-- x != b, __eq__ the text's own, __ne__ object's -/
theorem ne_own {tb : Value} {Q : Value → Shared → Prop} (hu : A.units + 1 < cLine) (X : K.In s.heap) (I : InstAt s.heap x ox C od) (hb : Looks (model prog w) s.heap (typeOf b) tb) (hn : notFirst K C tb = true)
    (hs : findIn K (.ref C) "__eq__" = some (some (.ref f))) (hf : isFn K (.ref f) = true) (hne : findIn K (.ref C) "__ne__" = some (some (.builtin "object.__ne__"))) (hm : mroIn K C (.type "object") = some true)
    (h : wpAny (model prog w) A.in1 (call (.ref f) [.ref x, b]) (fun v s' => ∃ k, v = .bool k ∧ Q (.bool (!k)) s') E s) : wpAny (model prog w) A (richCompare .NotEq (.ref x) b) Q E s := by
  have hu0 : A.units < cLine := Nat.lt_of_succ_lt hu
  have sub : Looks (model prog w) s.heap (isInstance (.ref x) (.type "object")) true := I.type.andThen (looks_mroIn X hm)
  have one : wpAny (model prog w) A (tryCompare (.ref x) "__ne__" b) (fun r s' => ∃ k, r = some (.bool k) ∧ Q (.bool k) s') E s := by
    unfold tryCompare
    refine wpAny_bind (ifBound_bi X I hne (F.cmp_object.ne.bind (.ref x)) (wpAny_call (codeAny_call_builtin F.cmp_object.ne.plain F.cmpEntry_ne (W.check_slot F.cmpKind_ne F.cmpSplit_ne sub (F.cmpArgs_ne _ _) ?_))))
    unfold Builtin.«object.__ne__»
    refine wpAny_bind (wpAny_of_eq (a := ((Value.ref x : Value), [b])) (by first | rfl | (simp only [slotArgs]; rfl)) ?_)
    dsimp only
    refine wpAny_bind (wpAny_cRoomFor (show A.in1.units < cLine from hu) ?_)
    refine wpAny_bind (ifBound_K X I hs hf (wpAny_mono h (fun v s' hv => ?_) fun _ _ e => e))
    obtain ⟨k, rfl, hq⟩ := hv
    dsimp only
    refine wpAny_bind (wpAny_truthy_bool ?_)
    exact wpAny_pure (wpAny_pure ⟨_, rfl, hq⟩)
  unfold richCompare
  simp only [oneThing_ref]
  refine wpAny_holding (wpAny_bind (wpAny_cRoomFor hu0 ?_))
  refine wpAny_bind (I.type.here (wpAny_bind (hb.here ?_)))
  split
  · rename_i q
    have e : subIn K tb (.ref C) = some false := by
      rcases Bool.or_eq_true_iff.mp hn with e | e
      · rw [beq_iff_eq.mp e] at q; simp at q
      · exact beq_iff_eq.mp e
    refine wpAny_bind ((looks_subIn X e).here ?_)
    simp only [Bool.false_eq_true, if_false]
    refine wpAny_bind (wpAny_mono one (fun r s' z => ?_) fun _ _ e => e)
    obtain ⟨v, rfl, hq⟩ := z
    exact wpAny_pure hq
  · refine wpAny_bind (wpAny_pure ?_)
    simp only [Bool.false_eq_true, if_false]
    refine wpAny_bind (wpAny_mono one (fun r s' z => ?_) fun _ _ e => e)
    obtain ⟨v, rfl, hq⟩ := z
    exact wpAny_pure hq
end
end OX

/-! Own operators as rules over the abstract heap. -/
namespace L2
open PySem PySem.Spec PyProof.Rows
section
variable {X : Cx} {CX : CXT} {k : Nat} {f C : Addr} {fd : FuncData} {ps : List Str} {sp : Sp} {E : XK}
theorem callA {A : Around} {pins : List (Addr × Obj)} {σ : St} {H : Hp} {s : Shared} {Q : VK} {us : List Value} {vs : List V} (F : FnOk X.prog X.w X.K X.mg X.base CX k f fd ps sp) (hr : Room k A) (hfr : A.frames = X.A.frames)
    (hb : Binds X.K fd ps []) (hx : Passes CX X E) (I : Inv X pins σ H s) (r : Vals vs us) (h : sp vs H Q E) : wpAny (model X.prog X.w) A (call (.ref f) us) (EP X pins σ Q) X.xe s := by
  have hl : us.length = ps.length := by rw [← r.length]; exact F.len _ _ _ _ h
  have e0 : Env0 X.prog X.w X.K X.mg X.base A X.stack s H := by
    have e := I.env0
    exact ⟨by rw [hfr]; exact e.frames, e.mod, e.bs, e.bsz, e.funs, e.frf, e.hok, e.bare⟩
  refine wpAny_call (codeAny_mono (F.run A X.stack s H ⟨us, []⟩ us vs Q E hr e0 (by have := hb s us I.kIn (by simpa using hl); simpa using this) r h) fun r s' hq => ?_)
  cases r with
  | error e => exact hx pins σ H s e s' I hq
  | ok fl =>
    cases fl with
    | ret u => exact I.after hq
    | next => exact False.elim hq
    | brk => exact False.elim hq
    | cont => exact False.elim hq
theorem relV_ni {v : V} {u : Value} (r : RelV v u) {P : Value → Shared → Prop} {s : Shared} (h : P u s) : PySem.W.CmpBack P u s := by
  cases v with
  | non => cases (show u = Value.none from r); exact h
  | bl b => cases (show u = Value.bool b from r); exact h
  | int i => obtain ⟨t, e⟩ := (show ∃ t, u = Value.int i t from r); subst e; exact h
  | str x => obtain ⟨t, e⟩ := (show ∃ t, u = Value.str x t from r); subst e; exact h
  | byt x => obtain ⟨t, e⟩ := (show ∃ t, u = Value.bytes x t from r); subst e; exact h
  | flt x => obtain ⟨t, e⟩ := (show ∃ t, u = Value.float x t from r); subst e; exact h
  | ref a => cases (show u = Value.ref a from r); exact h
  | ty n => cases (show u = Value.type n from r); exact h

/-- what the written part says of an own class -/
structure OwnC (K : PySem.W.Frag) (C : Addr) : Prop where
  cl : Cls K C
  ha : PySem.W.findIn K (.ref C) "__class__" = some (some (.builtin "object.__class__"))
  hn : PySem.W.specialIn K (.builtin "object.__class__") "__get__" = some (some (.builtin "getset_descriptor.__get__"))
  htk : PySem.W.takesIn K (.builtin "object.__class__") = some true
  hm : PySem.W.mroIn K C (.type "object") = some true
theorem OwnC.ty {K : PySem.W.Frag} (c : OwnC K C) {H : Hp} {a dx : Addr} {fs : List (Str × V)} (e : H a = some (.ins C dx fs)) : TyX K H (.ref a) (.ref C) := .base (.ins e c.cl c.ha c.hn c.htk c.hm)
/-- an operator of the text's own for a left operand of the class at C -/
structure OpM (K : PySem.W.Frag) (op : Operator) (C f : Addr) : Prop where
  self : PySem.W.selfFirst K C = true
  hs : PySem.W.findIn K (.ref C) (PySem.dunder op.info.2) = some (some (.ref f))
  hf : PySem.W.isFn K (.ref f) = true
  hr : PySem.W.findIn K (.ref C) (dunderR op.info.2) = some none
/-- the right operand's type -/
inductive OpT (K : PySem.W.Frag) (op : Operator) (C : Addr) : Value → Prop where
  | own : OpT K op C (.ref C)
  | ty {T : String} {r : Bool} {o : Option Value} (fill : fillsNumberSlot (.type T) op.info.2 = pure r) (sub : PySem.W.subIn K (.type T) (.ref C) = some false) (hT : typeLookup (.type T) (dunderR op.info.2) = pure o) : OpT K op C (.type T)
def rOwn (K : PySem.W.Frag) (op : Operator) (C : Addr) (sp : Sp) (E : XK) : R2 := fun x y H Q => ∃ a dx fs t, x = .ref a ∧ H a = some (.ins C dx fs) ∧ TyX K H y t ∧ OpT K op C t ∧ sp [.ref a, y] H Q E
theorem typeOf_of {pins : List (Addr × Obj)} {σ : St} {H : Hp} {s : Shared} {y : V} {u t : Value} (I : Inv X pins σ H s) (ry : RelV y u) (ty : TyX X.K H y t) : PySem.W.Looks (model X.prog X.w) s.heap (typeOf u) t := by
  obtain ⟨P, Z, p, _⟩ := kit_of I ry ty
  exact Z.ty _ _ I.kIn p
theorem op_own {op : Operator} (M : OpM X.K op C f) (F : FnOk X.prog X.w X.K X.mg X.base CX k f fd ps sp) (hr : Room k X.A) (hb : Binds X.K fd ps []) (hx : Passes CX X E) : OpR X (binaryOp op) (rOwn X.K op C sp E) := by
  intro pins s σ H x y v u Q I rx ry h
  obtain ⟨a, dx, fs, t, rfl, ha, ty, ot, hq⟩ := h
  cases rx
  obtain ⟨mA, J, _⟩ := ins_get I.hok ha
  obtain ⟨od, J, _⟩ := J.look
  have hbt := typeOf_of I ry ty
  have hc : wpAny (model X.prog X.w) X.A (call (.ref f) [.ref a, u]) (PySem.W.CmpBack (EP X pins σ Q)) X.xe s :=
    wpAny_mono (callA (vs := [.ref a, y]) F hr rfl hb hx I (.cons rfl (.cons ry .nil)) hq) (fun z s' hz => by
      obtain ⟨v', H', I', rv, q⟩ := id hz
      exact relV_ni rv hz) fun _ _ z => z
  refine OX.binop_of ?_
  cases ot with
  | own => exact OX.binop1_C I.kIn J hbt M.self M.hs M.hf hc
  | ty fill sub hT => exact OX.binop1_T I.kIn J hbt M.self M.hs M.hf M.hr fill sub hT hc
/-- no method of the class works in place -/
structure NoIp (K : PySem.W.Frag) (op : Operator) (C : Addr) : Prop where
  cd : ∃ cd, PySem.W.clsIn K C = some cd ∧ cd.mro = [.ref C, .type "object"]
  hi : PySem.W.findIn K (.ref C) (dunderI op.info.2) = some none
  ho : typeLookup (.type "object") (dunderI op.info.2) = pure none
theorem ip_own {op : Operator} (M : OpM X.K op C f) (N : NoIp X.K op C) (F : FnOk X.prog X.w X.K X.mg X.base CX k f fd ps sp) (hr : Room k X.A) (hb : Binds X.K fd ps []) (hx : Passes CX X E) : PIp X op (rOwn X.K op C sp E) := by
  intro pins s σ H x y v u Q I rx ry h
  obtain ⟨a, dx, fs, t, rfl, ha, ty, ot, hq⟩ := h
  cases rx
  obtain ⟨mA, J, _⟩ := ins_get I.hok ha
  obtain ⟨od, J, _⟩ := J.look
  have hbt := typeOf_of I ry ty
  have hc : wpAny (model X.prog X.w) X.A (call (.ref f) [.ref a, u]) (PySem.W.CmpBack (EP X pins σ Q)) X.xe s :=
    wpAny_mono (callA (vs := [.ref a, y]) F hr rfl hb hx I (.cons rfl (.cons ry .nil)) hq) (fun z s' hz => by
      obtain ⟨v', H', I', rv, q⟩ := id hz
      exact relV_ni rv hz) fun _ _ z => z
  obtain ⟨cd, hcd, hm⟩ := N.cd
  refine OX.inplace_of J (OX.noInplace I.kIn hcd hm N.hi N.ho) ?_
  cases ot with
  | own => exact OX.binop1_C I.kIn J hbt M.self M.hs M.hf hc
  | ty fill sub hT => exact OX.binop1_T I.kIn J hbt M.self M.hs M.hf M.hr fill sub hT hc

/-! ### == and != by an own == -/
structure EqM (K : PySem.W.Frag) (C f : Addr) : Prop where
  hs : PySem.W.findIn K (.ref C) "__eq__" = some (some (.ref f))
  hf : PySem.W.isFn K (.ref f) = true
  hne : PySem.W.findIn K (.ref C) "__ne__" = some (some (.builtin "object.__ne__"))
  hm : PySem.W.mroIn K C (.type "object") = some true
def rEqO (K : PySem.W.Frag) (C : Addr) (sp : Sp) (neg : Bool) : R2 := fun x y H Q => ∃ a dx fs t, x = .ref a ∧ H a = some (.ins C dx fs) ∧ TyX K H y t ∧ PySem.W.notFirst K C t = true ∧
  sp [.ref a, y] H (fun v H' => ∃ b, v = .bl b ∧ Q (.bl (if neg then !b else b)) H') (fun _ _ _ => False)
theorem op_eqO (M : EqM X.K C f) (F : FnOk X.prog X.w X.K X.mg X.base CX k f fd ps sp) (hr : Room (k + 1) X.A) (hb : Binds X.K fd ps []) (hx : Passes CX X (fun _ _ _ => False)) : OpR X (compareOp .Eq) (rEqO X.K C sp false) := by
  intro pins s σ H x y v u Q I rx ry h
  obtain ⟨a, dx, fs, t, rfl, ha, ty, nf, hq⟩ := h
  cases rx
  obtain ⟨mA, J, _⟩ := ins_get I.hok ha
  obtain ⟨od, J, _⟩ := J.look
  have hbt := typeOf_of I ry ty
  obtain ⟨m, hF⟩ := I.fr
  show wpAny (model X.prog X.w) X.A (richCompare .Eq (.ref a) u) (EP X pins σ Q) X.xe s
  refine PySem.W.cmp_K (op := .Eq) hr.units0 hF I.ok.mod.kin J hbt nf M.hs M.hf ?_
  refine wpAny_mono (callA (vs := [.ref a, y]) F (hr.mono (Nat.le_succ _)) rfl hb hx I (.cons rfl (.cons ry .nil)) hq) (fun z s' hz => ?_) fun _ _ z => z
  obtain ⟨v', H', I', rv, b, e, q⟩ := hz
  subst e
  cases (show z = Value.bool b from rv)
  exact ⟨.bl b, H', I', rfl, q⟩
theorem op_neO (M : EqM X.K C f) (F : FnOk X.prog X.w X.K X.mg X.base CX k f fd ps sp) (hr : Room (k + 1) X.A) (hb : Binds X.K fd ps []) (hx : Passes CX X (fun _ _ _ => False)) : OpR X (compareOp .NotEq) (rEqO X.K C sp true) := by
  intro pins s σ H x y v u Q I rx ry h
  obtain ⟨a, dx, fs, t, rfl, ha, ty, nf, hq⟩ := h
  cases rx
  obtain ⟨mA, J, _⟩ := ins_get I.hok ha
  obtain ⟨od, J, _⟩ := J.look
  have hbt := typeOf_of I ry ty
  show wpAny (model X.prog X.w) X.A (richCompare .NotEq (.ref a) u) (EP X pins σ Q) X.xe s
  have hu := hr.un
  refine OX.ne_own (by omega) I.kIn J hbt nf M.hs M.hf M.hne M.hm ?_
  refine wpAny_mono (callA (A := X.A.in1) (vs := [.ref a, y]) F hr.in1 rfl hb hx I (.cons rfl (.cons ry .nil)) hq) (fun z s' hz => ?_) fun _ _ z => z
  obtain ⟨v', H', I', rv, b, e, q⟩ := hz
  subst e
  cases (show z = Value.bool b from rv)
  exact ⟨b, rfl, .bl (!b), H', I', rfl, q⟩
end
end L2

/-! A caught error that is kept behind its suite. -/
namespace L2
open PySem PySem.Spec PyProof.Rows
/-- an error of the class cls that was caught, its own dict at d -/
def exh (e : Addr) (cls : Value) (d : Option Addr) : HO := .ext fun h => ∃ oe : Obj, h.get? e = some oe ∧ Zc cls d oe ∧ ∃ vs, oe.data = .fields vs
theorem exh_ok {P : Program} {w : World} {H : Hp} {h : Heap} {e : Addr} {cls : Value} {d : Option Addr} {oe : Obj} (he : h.get? e = some oe) (hz : Zc cls d oe) (hf : ∃ vs, oe.data = .fields vs) : ObjOk P w H h e (exh e cls d) :=
  ⟨⟨oe, he, hz, hf⟩, ⟨oe, he⟩, fun h1 h2 z k => by
    obtain ⟨o, q, r⟩ := z
    exact ⟨o, k _ q, r⟩⟩
theorem exh_at {P : Program} {w : World} {H : Hp} {h : Heap} {e : Addr} {cls : Value} {d : Option Addr} (ok : HOk P w H h) (q : H e = some (exh e cls d)) : ∃ oe : Obj, h.get? e = some oe ∧ Zc cls d oe ∧ ∃ vs, oe.data = .fields vs := by
  have z : ObjOk P w H h e (.ext fun h => ∃ oe : Obj, h.get? e = some oe ∧ Zc cls d oe ∧ ∃ vs, oe.data = .fields vs) := ok e _ q
  exact z.1
section
variable {X : Cx} {pins : List (Addr × Obj)} {σ : St} {H : Hp} {s : Shared}
/-- an object that no one knew is known from now on -/
theorem Inv.track {a : Addr} {oe : Obj} {vs : Array Value} {cls : Value} {d : Option Addr} (I : Inv X ((a, oe) :: pins) σ H s) (hd : oe.data = .fields vs) (hz : Zc cls d oe) (n0 : X.s_0.heap.get? a = none) (np : ∀ p ∈ X.pn ++ pins, p.1 ≠ a) :
    Inv X pins σ (upd H a (exh a cls d)) s := by
  obtain ⟨ea, na, nL, nF, _⟩ := I.pin (a, oe) (List.mem_append_right _ List.mem_cons_self)
  have old : ∀ {b o}, X.s_0.heap.get? b = some o → b ≠ a := fun {b o} e z => by rw [z, n0] at e; cases e
  have kn : ∀ {b u}, H b = some u → b ≠ a := fun {b u} e => ne_of_none e na
  refine ⟨I.ok, I.os, I.bare, ⟨I.base.keep, I.base.slot, fun b o e n hx => ?_, I.base.there, fun b xs e => ?_, fun b o u e => ?_, fun b ps e => ?_⟩, I.loc, I.cell, ?_, fun y c e => ?_, fun p hp => ?_, fun b u e => ?_, I.len⟩
  · rw [upd_ne (old e)]
    exact I.base.free b o e n hx
  · have q := I.base.tups b xs e
    rw [upd_ne (kn q)]
    exact q
  · have q := I.base.frzs b o u e
    rw [upd_ne (kn q)]
    exact q
  · obtain ⟨m, q⟩ := I.base.tbls b ps e
    exact ⟨m, by rw [upd_ne (kn q)]; exact q⟩
  · rw [upd_ne (Ne.symm nL)]
    exact I.free
  · obtain ⟨v, oc, hoc, hdc⟩ := I.cell y c e
    have hca : c ≠ a := fun z => by
      rw [z] at hoc
      have e2 : some oe = some oc := ea.symm.trans hoc
      rw [← Option.some.inj e2, hd] at hdc
      cases hdc
    rw [upd_ne hca]
    exact I.freeC y c e
  · obtain ⟨e, n, r⟩ := I.pin p (by
      rcases List.mem_append.mp hp with h | h
      · exact List.mem_append_left _ h
      · exact List.mem_append_right _ (List.mem_cons_of_mem _ h))
    exact ⟨e, by rw [upd_ne (np p hp)]; exact n, r⟩
  · by_cases hb : b = a
    · rw [hb, upd_same] at e
      cases e
      rw [hb]
      exact exh_ok ea hz ⟨vs, hd⟩
    · rw [upd_ne hb] at e
      exact (I.hok b u e).stay (fun c w' _ q => q) (fun c q => by rw [upd_ne (kn q)]; exact q) fun c xs q => by rw [upd_ne (kn q)]; exact q
theorem Inv.unsuiteK {a : Addr} {q : Addr × Obj} (I : Inv (X.suite a (q :: (X.pn ++ pins))) [] σ H s) (ok : X.Ok) : Inv X (q :: pins) σ H s :=
  ⟨ok, I.os, I.bare, I.base, I.loc, I.cell, I.free, I.freeC, fun p hp => I.pin p (List.mem_append_left _ (by
    rcases List.mem_append.mp hp with h | h
    · exact List.mem_cons_of_mem _ (List.mem_append_left _ h)
    · rcases List.mem_cons.mp h with h | h
      · rw [h]; exact List.mem_cons_self
      · exact List.mem_cons_of_mem _ (List.mem_append_right _ h))), I.hok, I.len⟩
end
/-- the wish of a body whose errors the clause takes, all of them, and keeps -/
def wKeep (K : PySem.W.Frag) (c : Value) (i : Nat) (ts : Addr → Value → Option Addr → TS) (D : Ends) : WX := fun cls d σ H => PySem.W.exmOne K cls c = some true ∧ ∀ a, H a = none →
  ts a cls d { nx := fun σ' H' => D.nx (σ'.set i none) (upd H' a (exh a cls d)), rt := fun v H' => D.rt v (upd H' a (exh a cls d)), bk := fun σ' H' => D.bk (σ'.set i none) (upd H' a (exh a cls d)), ct := fun σ' H' => D.ct (σ'.set i none) (upd H' a (exh a cls d)) } (σ.set i (some (.ref a))) H
section
variable {X : Cx} {x n : Str} {c : Value} {i : Nat} {body suite : List Stmt} {b₀ : Stmt} {np pos pos' : Pos} {tb : WX → TS} {ts : Addr → Value → Option Addr → TS}
theorem ps_try_keep (hex : X.ex = []) (hs : X.stack = X.env :: X.outer) (hf : X.env.frame = some X.env.locals) (hN : X.N.Nodup) (hi : X.N[i]? = some n) (hln : X.env.kindOf n = some .local) (hc : Names X x c)
    (hb : ∀ (W : WX) (pn : List (Addr × Obj)) (xe : Value → Shared → Prop), Takes (X.tr pn xe) W → PassesOwn (model X.prog X.w) X.A X.env xe → PSs (X.tr pn xe) body (tb W))
    (hsu : ∀ (a : Addr) (oe : Obj) (cls : Value) (d : Option Addr) (pn : List (Addr × Obj)), Zc cls d oe → (∃ vs, oe.data = .fields vs) → PSs (X.suite a ((a, oe) :: pn)) (b₀ :: suite) (ts a cls d)) :
    PS X (.Try body [.ExceptHandler (some (.Name x np)) (some n) (b₀ :: suite) pos'] [] [] pos) (fun D σ H => tb (wKeep X.K c i ts D) D σ H) := by
  refine ⟨fun pins s σ H D I h => ?_⟩
  have ok := I.ok
  have frm : X.A.frames = some (X.env :: X.outer) := by rw [ok.frames, hs]
  refine wpAny_Try_except ?_
  refine wpAny_mono ((hb (wKeep X.K c i ts D) (X.pn ++ pins) (fun e s₁ => wpAny (model X.prog X.w) X.A (noteFrame e X.env) (fun _ s₂ => wpAny (model X.prog X.w) X.A (setFlight e none)
    (fun _ s₃ => wpAny (model X.prog X.w) X.A (handleBy e X.env [.ExceptHandler (some (.Name x np)) (some n) (b₀ :: suite) pos']) (SP X pins D) X.xe s₃) X.xe s₂) X.xe s₁) (fun u s' xx => ?_) PassesOwn.looking).run [] s σ H D (I.toTry _) h) (fun f s1 hsp => ?_) (fun _ _ z => z)
  · obtain ⟨a, B, sI, pins', σ', H', cls, d, rfl, J', nb, up, sky, na, os, ag, hyes1, hyes⟩ := xx
    have J : Inv X pins σ' H' sI := J'.ofTry ok
    show wpAny (model X.prog X.w) X.A (noteFrame (.ref a) X.env) _ _ _
    refine Sky.land Zc.steady frm hf (show Sky B (X.env :: X.outer) a (Zc cls d) X.env.locals s'.heap by rw [← hs]; exact sky) fun h3 fl3 up3 => ?_
    have J3 : Inv X pins σ' H' { s' with heap := h3 } := J.landed nb fl3.1 (up.trans up3) os ag
    obtain ⟨oe3, vs3, he3, hz3, hd3⟩ := fl3.there
    have nfr : a ∉ frs (X.env :: X.outer) := fun hm => by
      obtain ⟨_, o', e', hnf⟩ := fl3.2.2.1.mem hm
      rw [he3] at e'
      cases e'
      exact hnf _ hd3
    have nL : a ≠ X.env.locals := fun z => nfr (List.mem_filterMap.mpr ⟨X.env, List.mem_cons_self, by rw [hf, z]⟩)
    have nF : a ∉ X.fs := fun hm => by
      obtain ⟨e, he, q⟩ := List.mem_filterMap.mp hm
      exact nfr (List.mem_filterMap.mpr ⟨e, List.mem_cons_of_mem _ he, q⟩)
    have inB : ∀ {b : Addr} {o : Obj}, sI.heap.get? b = some o → b ∉ frs X.stack → b ≠ a := fun {b o} e hb z => by
      have q := nb b o e hb
      rw [z, fl3.2.1] at q
      cases q
    have n0 : X.s_0.heap.get? a = none := by
      cases e : X.s_0.heap.get? a with
      | none => rfl
      | some o =>
        obtain ⟨o', e'⟩ := J.base.there a o e (by rw [hex]; exact fun z => nomatch z)
        exact absurd rfl (inB e' (by rw [hs]; exact nfr))
    have npin : ∀ p ∈ X.pn ++ pins, p.1 ≠ a := fun p hp => by
      obtain ⟨e, _, n1, n2, _⟩ := J.pin p hp
      exact inB e fun hm => (List.mem_cons.mp (J.stkSub _ hm)).elim n1 n2
    refine wpAny_handleBy_cons (codeAny_handlers_test ?_) (by intro q; cases q)
    have LT : PySem.W.Looks (model X.prog X.w) h3 (typeOf (.ref a)) cls := fun A Q E s k q => wpAny_typeOf_ref (k _ _ he3) (by rw [hz3.1]; exact q)
    have S3 := J3.suite he3 hd3 na nL nF
    have test : ∀ {Q : Value → Shared → Prop} {E : Value → Shared → Prop}, Q c { s' with heap := h3 } → wpAny (model X.prog X.w) (X.A.mark (some (.ref a))) (eval (.Name x np) X.env) Q E { s' with heap := h3 } := fun {Q E} q => by
      obtain ⟨g1, g2, g3 | ⟨g3, g4, g5⟩⟩ := hc
      · exact ld_glob (X := X.suite a ((a, oe3) :: (X.pn ++ pins))) S3 g1 g3 q g2
      · exact ld_blt (X := X.suite a ((a, oe3) :: (X.pn ++ pins))) S3 g1 g3 g4 q g5 g2
    refine test ((PySem.W.exm_one (M := model X.prog X.w) (J3.kIn) LT hyes1).here ?_)
    refine codeAny_handlers_suite_as ?_
    refine HandSPX.lands_againZ fl3 fun h4 fl4 up4 => ?_
    have J4 : Inv X pins σ' H' { s' with heap := h4 } := J.landed nb fl4.1 ((up.trans up3).trans up4) os ag
    obtain ⟨oe4, vs4, he4, hz4, hd4⟩ := fl4.there
    refine store_ok (X := X.suite a ((a, oe4) :: (X.pn ++ pins))) (v := .ref a) (J4.suite he4 hd4 na nL nF) hN hi (.inl hln) rfl (fun s5 S5 => ?_) (.inr hln)
    refine wpAny_mono ((hsu a oe4 cls d (X.pn ++ pins) hz4 ⟨_, hd4⟩).run [] s5 _ H' _ S5 (hyes a na)) (fun f s6 hsp => ?_) (fun _ _ z => False.elim z)
    have fin : ∀ {σ6 : St} {H6 : Hp} {Q : Shared → Prop}, Inv (X.suite a ((a, oe4) :: (X.pn ++ pins))) [] σ6 H6 s6 → (∀ s7, Inv X pins (σ6.set i none) (upd H6 a (exh a cls d)) s7 → Q s7) →
        wpAny (model X.prog X.w) X.A (do bindName X.env n .none; unbindBehindTheSuite X.env n pos') (fun _ s7 => Q s7) X.xe s6 := fun {σ6 H6 Q} S6 hq => gone_ok (S6.unsuiteK ok) hN hi hln fun s7 J7 => hq s7 (J7.track hd4 hz4 n0 npin)
    cases f with
    | ret u =>
      obtain ⟨v6, σ6, H6, S6, r6, q6⟩ := hsp
      exact fin S6 fun s7 J7 => ⟨_, _, _, J7, r6, q6⟩
    | next =>
      obtain ⟨σ6, H6, S6, q6⟩ := hsp
      exact fin S6 fun s7 J7 => ⟨_, _, J7, q6⟩
    | cont =>
      obtain ⟨σ6, H6, S6, q6⟩ := hsp
      exact fin S6 fun s7 J7 => ⟨_, _, J7, q6⟩
    | brk =>
      obtain ⟨σ6, H6, S6, q6⟩ := hsp
      exact fin S6 fun s7 J7 => ⟨_, _, J7, q6⟩
  · cases f with
    | ret u =>
      obtain ⟨v, σ', H', J', r, q⟩ := hsp
      exact ⟨v, σ', H', J'.ofTry ok, r, q⟩
    | next =>
      obtain ⟨σ', H', J', q⟩ := hsp
      exact wpAny_execs_nil ⟨σ', H', J'.ofTry ok, q⟩
    | cont =>
      obtain ⟨σ', H', J', q⟩ := hsp
      exact ⟨σ', H', J'.ofTry ok, q⟩
    | brk =>
      obtain ⟨σ', H', J', q⟩ := hsp
      exact ⟨σ', H', J'.ofTry ok, q⟩
end
end L2
/-! ### isinstance and fields of such an error -/
namespace PySem.W
open PySem PySem.Calls PyProof.Rows Builtin Builtin.ObjectAttr
section
variable {prog : Program} {w : World} {A : Around} {E : Value → Shared → Prop} {s : Shared} {K : Frag} {x D : Addr} {ox : Obj} {od : Option Obj}
theorem kxc_class {Q : Option Value → Shared → Prop} (C : L2.ExcC K D) (hf : findObj K D od "__class__" = some (.bind (.builtin "getset_descriptor.__get__") (.builtin "object.__class__")))
    (X : K.In s.heap) (I : InstAt s.heap x ox D od) (h : Q (some (.ref D)) { s with toks := s.toks + 1 }) : wpAny (model prog w) A (getAttr? (.ref x) "__class__") Q E s := by
  obtain ⟨hp, g, dr, t, os⟩ := s
  have LT := I.type (M := model prog w)
  have LA := looks_findIn (M := model prog w) X C.hg
  have LB := looks_findIn (M := model prog w) X C.hk
  have LF := looks_find (M := model prog w) X I hf
  have isB : Looks (model prog w) hp (isInstance (.ref x) (.type "BaseException")) true := LT.andThen (looks_subIn X C.hs)
  have q0 : (false && onTheHeap (Value.builtin "BaseException.__getattribute__")) = false := rfl
  have q2 : (Value.builtin "BaseException.__getattribute__" == Value.builtin "object.__getattribute__") = false := by decide +kernel
  have q1 : (onTheHeap (Value.ref D) && Value.builtin "BaseException.__getattribute__" == Value.builtin "object.__getattribute__") = false := by rw [q2]; rfl
  unfold getAttr? getAttrBy? getAttrBy
  refine wpAny_bind (wpAny_mkText (wpAny_bind (wpAny_attempt (wpAny_holding (wpAny_bind (LT.at (wpAny_bind (LA.at ?_))))))))
  show wpAny _ _ (if (onTheHeap (Value.ref D) && Value.builtin "BaseException.__getattribute__" == Value.builtin "object.__getattribute__") = true then _ else _) _ _ _
  rw [q1, if_neg Bool.false_ne_true]
  unfold getAttrByItsOwn hookBefore
  refine wpAny_bind ?_
  rw [if_pos (show onTheHeap (Value.ref D) = true from rfl)]
  refine LB.at (wpAny_bind (wpAny_attempt (wpAny_holding ?_)))
  unfold callGetattribute
  rw [q0, if_neg Bool.false_ne_true]
  unfold boundAndCalled
  rw [PySem.F.excAttr_ValueError.ga.bind (.ref x)]
  refine wpAny_bind (wpAny_pure ?_)
  show wpAny _ _ (call (.builtin "BaseException.__getattribute__") [.ref x, .str "__class__" t]) _ _ _
  refine wpAny_call (codeAny_call_builtin PySem.F.excAttr_ValueError.ga.plain PySem.F.entry_bexc_ga ?_)
  refine @check_slot (model prog w) _ _ ⟨hp, g, dr, t + 1, os⟩ "BaseException.__getattribute__" "BaseException" "__getattribute__" (.ref x) [.str "__class__" t] [] _ (by decide +kernel) (by decide +kernel) isB (PySem.F.args_bexc_ga (.ref x) (.str "__class__" t)) ?_
  unfold Builtin.«object.__getattribute__»
  refine wpAny_bind (wpAny_of_eq (a := ((Value.ref x : Value), [Value.str "__class__" t])) (by first | rfl | (simp only [slotArgs]; rfl)) (wpAny_bind (wpAny_pure (wpAny_bind (LT.at (wpAny_bind (LF.at ?_)))))))
  show wpAny _ _ (holding [Value.builtin "object.__class__"] (call (.builtin "getset_descriptor.__get__") [.builtin "object.__class__", .ref x, .ref D]) >>= ret) _ _ _
  refine wpAny_bind (wpAny_holding (wpAny_call (class_get (s := ⟨hp, g, dr, t + 1, os⟩) (ox := ox) (od := od) X I C.hm (wpAny_pure ?_))))
  show wpAny _ _ (handedOut (.ref D)) _ _ _
  rw [handedOut_of (v := .ref D) rfl]
  first
    | exact wpAny_pure (wpAny_pure h)
    | exact wpAny_pure h
    | exact wpAny_pure (wpAny_bind (wpAny_pure (wpAny_pure h)))
theorem kxc_kit (C : L2.ExcC K D) (hf : findObj K D od "__class__" = some (.bind (.builtin "getset_descriptor.__get__") (.builtin "object.__class__"))) : KitX K (.ref x) (.ref D) (fun h => InstAt h x ox D od) where
  ty := fun _ _ _ I => I.type
  it := fun _ _ X _ => by
    obtain ⟨cd0, hc0, _⟩ := any_some C.hd
    unfold clsIn at hc0
    split at hc0
    · rename_i _ _ _ _ ho
      intro A' Q' E' s' k q
      unfold isType loadHead
      exact wpAny_bind (wpAny_loadPart (k _ _ (X _ _ ho)) (wpAny_pure q))
    · cases hc0
  ne := fun h tp dd its n sl X htp => by
    obtain ⟨cd0, hc0, _⟩ := any_some C.hd
    refine Bool.eq_false_iff.mpr fun q => ?_
    have e : D = tp := Value.ref.inj (beq_iff_eq.mp q)
    subst e
    unfold clsIn at hc0
    split at hc0
    · rename_i _ _ _ _ ho
      have z := (X _ _ ho).symm.trans htp
      cases z
    · cases hc0
  ca := fun X I k => kxc_class C hf X I k
end
end PySem.W
namespace L2
open PySem PySem.Spec PyProof.Rows
section
variable {X : Cx} {pins : List (Addr × Obj)} {σ : St} {H : Hp} {s : Shared}
theorem exh_inst {K : PySem.W.Frag} {a D : Addr} {d : Option Addr} {fs : List (Str × V)} (I : Inv X pins σ H s) (ea : H a = some (exh a (.ref D) d)) (ed : ∀ dd, d = some dd → H dd = some (.xd fs)) :
    ∃ (oe : Obj) (od : Option Obj), PySem.W.InstAt s.heap a oe D od ∧ (d.isSome = od.isSome) ∧ ∀ name, d.isSome = true → ∃ m : Str → Option Value, PySem.W.lookIn name (od.getD oe) = some (m name) ∧ ∀ f, RelO (fs.lookup f) (m f) := by
  obtain ⟨oe, hoe, ⟨z1, z2⟩, vs, hd⟩ := exh_at I.hok ea
  have nc : PySem.W.notCls oe = true := by unfold PySem.W.notCls; rw [hd] <;> rfl
  cases d with
  | none => exact ⟨oe, none, ⟨hoe, z1, nc, by rw [z2]; exact True.intro⟩, rfl, fun _ z => nomatch z⟩
  | some dd =>
    have hx : ObjOk X.prog X.w H s.heap dd (.xd fs) := I.hok dd _ (ed dd rfl)
    obtain ⟨mA, hns, hr⟩ := hx
    obtain ⟨od, ho, hl⟩ := lookIn_ns hns
    exact ⟨oe, some od, ⟨hoe, z1, nc, by rw [z2]; exact ho⟩, rfl, fun name _ => ⟨mA, hl name, hr⟩⟩
end
/-- isinstance(e, c), e an error that was caught and kept -/
def rIsK (K : PySem.W.Frag) : List V → Hp → VK → Prop := fun xs H Q => ∃ (a D dd : Addr) (fs : List (Str × V)) (c : V) (cv : Value) (b : Bool), xs = [.ref a, c] ∧ ClsV c cv ∧ H a = some (exh a (.ref D) (some dd)) ∧ H dd = some (.xd fs) ∧ ExcC K D ∧ PySem.W.kitOne K (.ref D) cv = some b ∧ Q (.bl b) H
theorem call_isK {X : Cx} : CallR X (.builtin "isinstance") (rIsK X.K) := by
  intro pins s σ H xs us Q I r h
  obtain ⟨a, D, dd, fs, c, cv, b, rfl, hcv, ea, ed, C, e, q⟩ := h
  obtain ⟨u1, u2, rfl, r1, r2⟩ := vals2 r
  cases (show u1 = Value.ref a from r1)
  have ec := hcv.eq r2
  subst ec
  obtain ⟨oe, od, J, hd, _⟩ := exh_inst (K := X.K) I ea (fun d' e' => by cases e'; exact ed)
  cases od with
  | none => cases hd
  | some od =>
    have hf := PySem.W.findObj_data (K := X.K) (C := D) (od := od) (name := "__class__") (by obtain ⟨cd, hc, _⟩ := PySem.W.any_some C.hd; rw [hc]; rfl) C.ha C.hn C.ht
    exact PySem.W.kia_one (PySem.W.kxc_kit C hf) I.kIn J e (fun z => nomatch z) fun tk => ⟨.bl b, H, I.tok tk, rfl, q⟩
/-- e.f, e such an error -/
def tXk (K : PySem.W.Frag) (te : TE) (f : Str) : TE := fun σ H Q => te σ H fun x H1 => ∃ (a C dd : Addr) (fs : List (Str × V)) (v : V), x = .ref a ∧ H1 a = some (exh a (.ref C) (some dd)) ∧ H1 dd = some (.xd fs) ∧ XfC K C ∧ PySem.W.findIn K (.ref C) f = some none ∧ fs.lookup f = some v ∧ Q v H1
theorem pe_xk {X : Cx} {e : Expr} {te : TE} {pos : Pos} {n : Str} (he : PE X e te) (hb : attributeBase e n X.env (eval e X.env) = eval e X.env := by rfl) : PE X (.Attribute e n pos) (tXk X.K te n) := by
  refine ⟨fun pins s σ H Q I h => attr_of hb (thn (he.run pins s σ H _ I h) fun u s1 hh => ?_)⟩
  obtain ⟨x, H1, I1, rx, a, C, dd, fs, v, ex, ea, ed, T, hno, l, q⟩ := hh
  subst ex
  obtain rfl : u = Value.ref a := rx
  obtain ⟨oe, od, J, hd, hl⟩ := exh_inst (K := X.K) I1 ea (fun d' e' => by cases e'; exact ed)
  cases od with
  | none => cases hd
  | some od =>
    obtain ⟨m, h1, h2⟩ := hl n rfl
    obtain ⟨u, hu, ru⟩ := RelO.some_of (v := v) (o := m n) (by rw [← l]; exact h2 n)
    exact HandSPX.exc_get I1.kIn J T.ga T.gg T.exC (PySem.W.findObj_own T.hdC hno rfl (by rw [← hu]; exact h1)) (handed_of ru) ⟨v, H1, I1.tok _, ru, q⟩
end L2

/-! repr of data: it asks which reprs are under way; a def's promise where none is. -/
namespace L2
open PySem PySem.Spec PyProof.Rows
/-- a promise that holds where no repr is under way -/
structure FnG (P : Program) (w : World) (K : PySem.W.Frag) (mg : Str → Option Value) (base : Heap) (CX : CXT) (k : Nat) (f : Addr) (fd : FuncData) (ps : List Str) (sp : Sp) : Prop where
  len : ∀ vs H Q E, sp vs H Q E → vs.length = ps.length
  run : ∀ (A : Around) (outer : List Env) (s : Shared) (H : Hp) (args : Args) (us : List Value) (vs : List V) (Q : VK) (E : XK), Room k A → A.guards = some [] → Env0 P w K mg base A outer s H → BindsTo s fd args (ps.zip us) → Vals vs us → sp vs H Q E →
    codeAny (model P w) A (.call (.ref f) args) (CR CX outer P w H s Q E) s
theorem FnOk.g {P : Program} {w : World} {K : PySem.W.Frag} {mg : Str → Option Value} {base : Heap} {CX : CXT} {k : Nat} {f : Addr} {fd : FuncData} {ps : List Str} {sp : Sp} (F : FnOk P w K mg base CX k f fd ps sp) : FnG P w K mg base CX k f fd ps sp :=
  ⟨F.len, fun A outer s H args us vs Q E hr _ => F.run A outer s H args us vs Q E hr⟩
section
variable {P : Program} {w : World} {K : PySem.W.Frag} {mg : Str → Option Value} {base : Heap}
theorem Fun.okG {x qual : Str} {st : Stmt} {f : Addr} {fd : FuncData} {N ps : List Str} {k : Nat} {sp : Sp} (F : Fun K x qual st f fd) (S : FnScope N ps (defScope st)) (len : ∀ vs H Q E, sp vs H Q E → vs.length = ps.length)
    (hbody : ∀ (cdv : Value) (A : Around) (outer : List Env) (s : Shared) (H : Hp) (vs : List V) (Q : VK) (E : XK), Room k (A.deeper (envOfC qual (defScope st) s.heap.objs.size f cdv)) → A.guards = some [] → sp vs H Q E →
      ∃ t, PSs (cxOf CX0 P w K mg base N qual (defScope st) f cdv A outer s H E).nox (defBody st) t ∧ t { nx := fun _ H' => Q .non H', rt := Q } (start N vs) H) : FnG P w K mg base CX0 (k + 1) f fd ps sp := by
  obtain ⟨oc, od, kV, doc, pm, an, cdv, ct, osl, rfl, lk, hcd⟩ := F.ex
  refine ⟨len, fun A outer s H args us vs Q E hr hg e0 hb r hsp => LamX.run_ofS lk hcd S hr e0 hb r (len _ _ _ _ hsp) fun hr' => ?_⟩
  obtain ⟨t, h, q⟩ := hbody cdv A outer s H vs Q E hr' hg hsp
  exact ⟨t, h.nox, q⟩
end
section
variable {X : Cx} {CX : CXT} {k : Nat} {f : Addr} {fd : FuncData} {ps : List Str} {sp : Sp} {E : XK} {x : Str} {ds : List Value} {dvs : List V} {e : Expr} {es : List Expr} {t : TA} {p pos : Pos}
theorem run_fnG {pins : List (Addr × Obj)} {σ : St} {H : Hp} {s : Shared} {Q : VK} {us : List Value} {vs : List V} (hG : X.A.guards = some []) (F : FnG X.prog X.w X.K X.mg X.base CX k f fd ps sp) (hr : Room k X.A) (hb : Binds X.K fd ps ds) (hd : Vals dvs ds)
    (hx : Passes CX X E) (I : Inv X pins σ H s) (r : Vals vs us) (h : sp (vs ++ dvs) H Q E) : wpAny (model X.prog X.w) X.A (call (.ref f) us) (EP X pins σ Q) X.xe s := by
  have rr : Vals (vs ++ dvs) (us ++ ds) := r.append hd
  have hlen : (us ++ ds).length = ps.length := by rw [← rr.length]; exact F.len _ _ _ _ h
  refine wpAny_call (codeAny_mono (F.run X.A X.stack s H ⟨us, []⟩ (us ++ ds) (vs ++ dvs) Q E hr hG I.env0 (hb s us I.kIn hlen) rr h) fun r s' hq => ?_)
  cases r with
  | error e => exact hx pins σ H s e s' I hq
  | ok fl =>
    cases fl with
    | ret u => exact I.after hq
    | next => exact False.elim hq
    | brk => exact False.elim hq
    | cont => exact False.elim hq
theorem pe_callG (hG : X.A.guards = some []) (F : FnG X.prog X.w X.K X.mg X.base CX k f fd ps sp) (hr : Room k X.A) (hg : Gl X x) (hm : X.mg x = some (.ref f)) (hk : PySem.W.keepIn X.K (.ref f) = true) (hb : Binds X.K fd ps ds) (hd : Vals dvs ds) (hx : Passes CX X E)
    (ha : PA X (e :: es) t) (hdb : (x == ("__debug__" : Str)) = false := by decide) (he : starEach (e :: es) X.env = (false, eval e X.env) :: starEach es X.env := by rfl) (hpl : (backTo pos (starEach es X.env)).any (·.1) = false := by rfl) :
    PE X (.Call (.Name x p) (e :: es) [] pos) (tCall sp dvs E t) := by
  refine ⟨fun pins s σ H Q I h => wpAny_Call_Name_kw (ld_glob I hg hm ?_ hdb)⟩
  refine PySem.W.callWith_K (h₀ := X.base) I.ok.mod.kin hk (thn (ha.run pos pins s σ H _ I h) fun us s1 ⟨vs, H1, I1, r, q⟩ => ⟨I1.kIn, run_fnG hG F hr hb hd hx I1 r q⟩) he hpl
/-- repr of a list or tuple of data -/
def rRepr (K : PySem.W.Frag) : List V → Hp → VK → Prop := fun xs H Q => ∃ (a : Addr) (d : PyData), xs = [.ref a] ∧ Dp K H (.ref a) d ∧ d.showable = true ∧ d.hasDict = false ∧ d.depth ≤ 64 ∧ d.shown.length ≤ sizeLine ∧ Q (.str d.shown) H
theorem c_repr (hG : X.A.guards = some []) (hu : X.A.units + 128 < cLine) : CallR X (.builtin "repr") (rRepr X.K) := by
  intro pins s σ H xs us Q I r h
  obtain ⟨a, d, rfl, hd, h1, h2, h3, h4, q⟩ := h
  obtain ⟨u, rfl, rx⟩ := vals1 r
  cases (show u = Value.ref a from rx)
  obtain ⟨as, hr⟩ := Dp.reads I d _ _ hd rx
  refine repr_of_reads' hr h1 (fun z => by rw [h2] at z; cases z) hG (by omega) (fun _ _ z => z) (fun h' u tk hk => ?_) h4
  exact ⟨.str d.shown, H, I.kept hk, ⟨u, rfl⟩, q⟩
end
end L2

namespace LamX
open PySem PySem.Spec PyProof.Rows L2
theorem law_callG {P : Program} {w : World} {K : PySem.W.Frag} {mg mBlt : Str → Option Value} {CX : CXT} {k : Nat} {fLaw a : Addr} {tabs : List (Addr × Addr)} {fdLaw : FuncData} {x : Str} {spc : Sp} {s₁ : Shared} {items : List Value} {nums : List Int}
    (KH : K.In s₁.heap) (nsG : s₁.heap.Ns mainGlobals mg) (hB2 : s₁.heap.Ns builtinsNs mBlt) (bltB : ∀ x : Str, x ≠ "__name__" → mBlt x = bootBuiltins x) (limG : s₁.heap.NoLimit) (gnE : s₁.gens = #[])
    (tabE : ∀ p ∈ tabs, s₁.heap.get? p.2 = some { cls := .none, data := .fields #[] }) (tabK : ∀ p ∈ tabs, K.lookup p.2 = none) (cdE : ∀ p ∈ tabs, PySem.W.CodeHd s₁.heap p.1 p.2)
    (bmE : ∃ (bmA : Addr) (obj : Obj), mg "__builtins__" = some (.ref bmA) ∧ bmA ≠ builtinsNs ∧ s₁.heap.get? bmA = some obj ∧ obj.cls = .type "module" ∧ obj.dict = some builtinsNs ∧ obj.data = .plain)
    (scE : s₁.heap.get? a = some { cls := .type "list", data := .seq items.toArray }) (inE : IntsAre items nums) (lnE : nums.length ≤ sizeLine) (rmE : Room k callerA)
    (FF : ∀ base : Heap, K.In base → base.Ns mainGlobals mg → (∀ p ∈ tabs, TabB base mg p.1 p.2) → L2.FnG P w K mg base CX k fLaw fdLaw [x] spc) (bdE : ∀ (s : Shared) (u : Value), BindsTo s fdLaw ⟨[u], []⟩ [(x, u)])
    (spE : ∀ H : Hp, (∀ p ∈ tabs, H p.2 = some (.tbl #[])) → SqL K H a (nums.map V.int) → spc [.ref a] H (fun v _ => v = .bl true) fun _ _ _ => False)
    (cxE : ∀ H e s', CX [] H s₁ (fun _ _ _ => False) e s' → False) :
    codeAny (model P w) callerA (.call (.ref fLaw) ⟨[.ref a], []⟩) (fun r s' => r = .ok (.ret (.bool true)) ∧ OldK s₁.heap s'.heap ∧ s'.os = s₁.os ∧ AllBare s'.gens) s₁ := by
  have rvs := vals_ints inE
  have lenW := inE.length
  have isTb : ∀ b : Addr, b ∈ tabs.map (·.2) → s₁.heap.get? b = some { cls := .none, data := .fields #[] } := fun b hB2 => by
    obtain ⟨p, memP, e⟩ := List.mem_map.mp hB2
    rw [← e]
    exact tabE p memP
  have notTb : a ∉ tabs.map (·.2) := fun zq => by
    have qq := isTb a zq
    rw [scE] at qq
    have z' : Data.seq items.toArray _ = Data.fields #[] := congrArg Obj.data (Option.some.inj qq)
    cases z'
  have inTb : ∀ p ∈ tabs, p.2 ∈ tabs.map (·.2) := fun p memP => List.mem_map.mpr ⟨p, memP, rfl⟩
  -- from an abstract heap in which nothing but the script and the tables may be tracked
  have main0 : ∀ H : Hp, (∀ p ∈ tabs, H p.2 = some (.tbl #[])) → (∀ b, H b = none ∨ b ∈ tabs.map (·.2) ∨ ∃ o xs, H b = some (.frz o (.lst xs))) → SqL K H a (nums.map V.int) → HOk P w H s₁.heap → (∀ b, H b ≠ none → b = a ∨ b ∈ tabs.map (·.2)) → (H a ≠ none → K.lookup a = none) →
      codeAny (model P w) callerA (.call (.ref fLaw) ⟨[.ref a], []⟩) (fun r s' => r = .ok (.ret (.bool true)) ∧ OldK s₁.heap s'.heap ∧ s'.os = s₁.os ∧ AllBare s'.gens) s₁ := by
    intro H Htab Hone Hscr Hok0 Hall HKn
    have toBase : ∀ {b : Addr} {o : Obj}, s₁.heap.get? b = some o → H b = none → (hidT s₁.heap H).get? b = some o := fun e n => hidT_get e n
    have notD : ∀ {b : Addr} {o : Obj}, s₁.heap.get? b = some o → (∀ items n, o.data ≠ .seq items n) → o.data ≠ .fields #[] → H b = none := fun {b o} e h11 hh => by
      cases qq : H b with
      | none => rfl
      | some u =>
        rcases Hall b (by rw [qq]; simp) with e' | e'
        · rw [e', scE] at e
          cases e
          exact (h11 _ _ rfl).elim
        · rw [isTb b e'] at e
          cases e
          exact (hh rfl).elim
    have notA : ∀ {b : Addr} {o : Obj} {es : Array DictEntry} {epp : Nat}, s₁.heap.get? b = some o → o.data = .dict es epp → H b = none := fun {b o es epp} e d => by
      refine notD e (fun items n zq => ?_) fun zq => ?_
      · rw [d] at zq
        cases zq
      · rw [d] at zq
        cases zq
    have nsB0 : ∀ {b : Addr} {m : Str → Option Value}, s₁.heap.Ns b m → (hidT s₁.heap H).Ns b m := fun {b m} ⟨o, es, epp, e, d, r⟩ => ⟨o, es, epp, toBase e (notA e d), d, r⟩
    have KBase : K.In (hidT s₁.heap H) := fun b o e => toBase (KH b o e) (by
      cases qq : H b with
      | none => rfl
      | some u =>
        rcases Hall b (by rw [qq]; simp) with e' | e'
        · rw [e'] at e qq
          rw [HKn (by rw [qq]; simp)] at e
          cases e
        · obtain ⟨p, memP, epp⟩ := List.mem_map.mp e'
          rw [← epp, tabK p memP] at e
          cases e)
    have modB : L2.Mod K mg (hidT s₁.heap H) := ⟨KBase, nsB0 nsG, ⟨mBlt, nsB0 hB2, bltB⟩, let ⟨mc, h11, hh⟩ := limG; ⟨mc, nsB0 h11, hh⟩⟩
    have tabB0 : ∀ p ∈ tabs, TabB (hidT s₁.heap H) mg p.1 p.2 := fun p memP => by
      have hTp := tabE p memP
      refine ⟨?_, ?_, fun zq => ?_⟩
      · obtain ⟨o, uus, file, tf, flags, tg, inF, text, tt, e1, r1, r2, r3, r4, r5, r6, r7, r8, hne⟩ := cdE p memP
        refine ⟨o, uus, file, tf, flags, tg, inF, text, tt, toBase e1 (notD e1 (fun items n zq => ?_) fun zq => ?_), r1, r2, r3, r4, r5, r6, r7, r8, hne⟩
        · rw [r2] at zq
          cases zq
        · rw [r2] at zq
          cases zq
          simp at r3
      · obtain ⟨bmA, obj, b1, b2, b3, b4, b5, b6⟩ := bmE
        have nG : bmA ≠ mainGlobals := fun qq => by
          obtain ⟨o, es, epp, e, hd, _⟩ := nsG
          rw [qq, e] at b3
          cases b3
          rw [hd] at b6
          cases b6
        have nP : bmA ≠ p.2 := fun qq => by
          rw [qq, hTp] at b3
          cases b3
          cases b6
        refine ⟨bmA, obj, b1, b2, nG, nP, toBase b3 (notD b3 (fun items n zq => ?_) fun zq => ?_), b4, b5, b6⟩
        · rw [b6] at zq
          cases zq
        · rw [b6] at zq
          cases zq
      · obtain ⟨o, es, epp, e, hd, _⟩ := nsG
        rw [zq, hTp] at e
        cases e
        cases hd
    have env0 : Env0 P w K mg (hidT s₁.heap H) callerA [] s₁ H := ⟨rfl, modB, fun b o e => of_hidT e, Nat.le_of_eq (hidT_size _ _), trivial, fun b hB2 => absurd (show b ∈ ([] : List Addr) from hB2) (by simp), Hok0, .of_eq gnE⟩
    refine codeAny_mono ((FF _ KBase (nsB0 nsG) tabB0).run callerA [] s₁ H ⟨[.ref a], []⟩ [.ref a] [.ref a] _ _ rmE rfl env0 (bdE s₁ (.ref a)) (.cons rfl .nil) (spE H Htab Hscr)) fun r s' h => ?_
    cases r with
    | error e => exact (cxE H e s' h).elim
    | ok fl =>
      cases fl with
      | next => exact False.elim h
      | brk => exact False.elim h
      | cont => exact False.elim h
      | ret u =>
        obtain ⟨v, H', osE, bareE, unk, Hok1, r', qq⟩ := h
        have q' : v = .bl true := qq
        subst q'
        obtain rfl : u = Value.bool true := r'
        have kept0 : ∀ b o, b ∉ tabs.map (·.2) → s₁.heap.get? b = some o → s'.heap.get? b = some o := fun b o nb e => by
          cases qq : H b with
          | none => exact unk.keep b o e qq (by intro zq; exact absurd (show b ∈ ([] : List Addr) from zq) (by simp)) (by simp)
          | some u =>
            rcases Hone b with zq | zq | ⟨obj, xs, zq⟩
            · rw [qq] at zq; cases zq
            · exact absurd zq nb
            · have zz := unk.frzs b obj _ zq
              obtain ⟨e1, _⟩ := Hok0 b _ zq
              obtain ⟨ee, _⟩ := Hok1 b _ zz
              rw [e] at e1; cases e1
              exact ee
        have grew : ∀ p ∈ tabs, ∃ rest : Array Value, s'.heap.get? p.2 = some { cls := .none, data := .fields rest } := fun p memP => by
          obtain ⟨rest, zq⟩ := unk.tbls p.2 #[] (Htab p memP)
          exact ⟨_, Hok1 p.2 _ zq⟩
        refine ⟨rfl, ⟨fun b o e => ?_, fun b o e => ?_⟩, osE, bareE⟩
        · by_cases hB2 : b ∈ tabs.map (·.2)
          · obtain ⟨p, memP, epp⟩ := List.mem_map.mp hB2
            obtain ⟨rest, hmo⟩ := grew p memP
            rw [← epp] at e ⊢
            rw [tabE p memP] at e
            cases e
            exact .inr (.inl ⟨((cdE p memP).tab (tabE p memP)).isCodeTable, rfl, #[], rest, rfl, by rw [Array.empty_append]; exact hmo⟩)
          · exact .inl (kept0 b o hB2 e)
        · by_cases hB2 : b ∈ tabs.map (·.2)
          · obtain ⟨p, memP, epp⟩ := List.mem_map.mp hB2
            obtain ⟨rest, hmo⟩ := grew p memP
            rw [← epp]
            exact ⟨_, hmo⟩
          · exact ⟨o, kept0 b o hB2 e⟩
  cases lookE : K.lookup a with
  | some o =>
    have e := KH a o lookE
    rw [scE] at e
    cases e
    refine main0 (fun b => if b ∈ tabs.map (·.2) then some (.tbl #[]) else none) (fun p memP => if_pos (inTb p memP)) (fun b => ?_) (.inr ⟨_, items.toArray, _, lookE, rfl, rfl, rfl, by rw [List.size_toArray, lenW]; exact lnE, by simpa using rvs⟩) (fun b u zq => ?_) (fun b zq => ?_) fun zq => absurd (show (if a ∈ tabs.map (·.2) then some (HO.tbl #[]) else none) = none from if_neg notTb) zq
    · by_cases hB2 : b ∈ tabs.map (·.2)
      · exact .inr (.inl hB2)
      · exact .inl (if_neg hB2)
    · by_cases hB2 : b ∈ tabs.map (·.2)
      · have z' := (if_pos hB2).symm.trans zq
        cases z'
        exact isTb b hB2
      · have z' := (if_neg hB2).symm.trans zq
        cases z'
    · by_cases hB2 : b ∈ tabs.map (·.2)
      · exact .inr hB2
      · exact absurd (if_neg hB2) zq
  | none =>
    refine main0 (fun b => if b = a then some (.frz { cls := .type "list", data := .seq items.toArray } (.lst (nums.map V.int))) else if b ∈ tabs.map (·.2) then some (.tbl #[]) else none) (fun p memP => (if_neg (show ¬ p.2 = a from fun zq => notTb (by rw [← zq]; exact inTb p memP))).trans (if_pos (inTb p memP))) (fun b => ?_)
      (.inl (.inr ⟨{ cls := .type "list", data := .seq items.toArray }, if_pos rfl⟩)) (fun b u zq => ?_) (fun b zq => ?_) fun _ => lookE
    · by_cases hB2 : b = a
      · exact .inr (.inr ⟨_, _, if_pos hB2⟩)
      · by_cases hb2 : b ∈ tabs.map (·.2)
        · exact .inr (.inl hb2)
        · exact .inl ((if_neg hB2).trans (if_neg hb2))
    · by_cases hB2 : b = a
      · have z' := (if_pos hB2).symm.trans zq
        cases z'
        rw [hB2]
        exact ⟨scE, by rw [List.length_map]; exact lnE, items, _, rvs, scE⟩
      · have z1 := (if_neg hB2).symm.trans zq
        by_cases hb2 : b ∈ tabs.map (·.2)
        · have z' := (if_pos hb2).symm.trans z1
          cases z'
          exact isTb b hb2
        · have z' := (if_neg hb2).symm.trans z1
          cases z'
    · by_cases hB2 : b = a
      · exact .inl hB2
      · by_cases hb2 : b ∈ tabs.map (·.2)
        · exact .inr hb2
        · exact absurd ((if_neg hB2).trans (if_neg hb2)) zq
/-- what is known of the law's promise at the head's heap h -/
def LawAtG (l : PySem.W.OpenLaw) (w : World) (K : PySem.W.Frag) (CX : CXT) (k n : Nat) (x : Str) (mg : Str → Option Value) (fLaw : Addr) (h : Heap) : Prop :=
  ∃ (fdLaw : FuncData) (tabs : List (Addr × Addr)) (spc : Sp), (∀ p ∈ tabs, h.get? p.2 = some { cls := .none, data := .fields #[] }) ∧ (∀ p ∈ tabs, K.lookup p.2 = none) ∧ (∀ p ∈ tabs, PySem.W.CodeHd h p.1 p.2) ∧ (∀ (s : Shared) (u : Value), BindsTo s fdLaw ⟨[u], []⟩ [(x, u)]) ∧
    (∀ (H : Hp) (a : Addr) (nums : List Int), nums.length ≤ n → (∀ zq ∈ nums, Builtin.Int.intBits zq ≤ 1048576) → (∀ p ∈ tabs, H p.2 = some (.tbl #[])) → SqL K H a (nums.map V.int) → spc [.ref a] H (fun v _ => v = .bl true) fun _ _ _ => False) ∧
    ∀ base : Heap, K.In base → base.Ns mainGlobals mg → (∀ p ∈ tabs, TabB base mg p.1 p.2) → L2.FnG l.prog w K mg base CX k fLaw fdLaw [x] spc
theorem walk_ofG {l : PySem.W.OpenLaw} {n k : Nat} {qq : Program} {loose : List Str} {XP : (Str → Option Value) → Heap → Prop} {YP : World → Heap → Prop} {d : DefRec} {K : Params → PySem.W.Frag} {CX : World → CXT} {x : Str}
    (hn : l.most = some n) (hn2 : n ≤ sizeLine) (hdf : d.params.defaults = []) (rmE : Room k callerA) (hY : ∀ (w : World) (h : Heap), YP w h → (K w.params).In h)
    (FF : ∀ (w : World) (mg : Str → Option Value) (fLaw : Addr) (h : Heap), YP w h → (K w.params).In h → h.Ns mainGlobals mg → mg d.name = some (.ref fLaw) → LawAtG l w (K w.params) (CX w) k n x mg fLaw h)
    (cxE : ∀ (w : World) (H : Hp) (s : Shared) (e : Value) (s' : Shared), CX w [] H s (fun _ _ _ => False) e s' → False) :
    PySem.W.WalkO qq loose XP YP l.row.toRowW d [] (fun f items => PySem.call f items) := by
  refine Att.attach_callB hn hdf fun w s₀ s₁ mg mBlt fLaw o pm cd doc a items nums G Y ho hd hcd hmg hobj hints hlen hbits gnE => ?_
  have KH := hY w _ Y
  obtain ⟨fdLaw, tabs, spc, tabE, tabK, cdE, hB2, spE, hF⟩ := FF w mg fLaw _ Y KH G.T.g hmg
  exact law_callG KH G.T.g G.T.b G.T.builtins G.T.nolimit gnE tabE tabK cdE G.T.bmain hobj hints (Nat.le_trans hlen hn2) rmE hF hB2 (fun H Htab Hscr => spE H a nums hlen hbits Htab Hscr) fun H e s' => cxE w H s₁ e s'
end LamX

/-! len(x), str(x) of an own class. -/
namespace L2
open PySem PySem.Spec PyProof.Rows
section
variable {X : Cx} {CX : CXT} {k : Nat} {f C : Addr} {fd : FuncData} {ps : List Str} {sp : Sp}
/-- a special method of the class -/
structure SpM (K : PySem.W.Frag) (C f : Addr) (name : Str) : Prop where
  hs : PySem.W.findIn K (.ref C) name = some (some (.ref f))
  hf : PySem.W.isFn K (.ref f) = true
def rLenO (C : Addr) (sp : Sp) : List V → Hp → VK → Prop := fun xs H Q => ∃ a dx fs, xs = [.ref a] ∧ H a = some (.ins C dx fs) ∧ sp [.ref a] H (fun v H' => ∃ n : Int, v = .int n ∧ (0 ≤ n ∧ n < 2 ^ 63) ∧ Q (.int n) H') (fun _ _ _ => False)
theorem c_lenO (M : SpM X.K C f "__len__") (F : FnOk X.prog X.w X.K X.mg X.base CX k f fd ps sp) (hr : Room (k + 1) X.A) (hb : Binds X.K fd ps []) (hx : Passes CX X (fun _ _ _ => False)) : CallR X (.builtin "len") (rLenO C sp) := by
  intro pins s σ H xs us Q I r h
  obtain ⟨a, dx, fs, rfl, ha, hq⟩ := h
  obtain ⟨u, rfl, rx⟩ := vals1 r
  cases (show u = Value.ref a from rx)
  obtain ⟨_, J, _⟩ := ins_get I.hok ha
  obtain ⟨_, J, _⟩ := J.look
  obtain ⟨_, hF⟩ := I.fr
  refine PySem.W.len_K hF I.ok.mod.kin J M.hs M.hf (wpAny_mono (callA (A := X.A.in1) (vs := [.ref a]) F hr.in1 rfl hb hx I (.cons rfl .nil) hq) (fun z s' hz => ?_) fun _ _ z => z)
  obtain ⟨v', H', I', rv, n, e, hn, q⟩ := hz
  subst e
  obtain ⟨t, rfl⟩ := (show ∃ t, z = Value.int n t from rv)
  exact ⟨hn, .int n, H', I'.tok _, ⟨_, rfl⟩, q⟩
def rStrO (C : Addr) (sp : Sp) : List V → Hp → VK → Prop := fun xs H Q => ∃ a dx fs, xs = [.ref a] ∧ H a = some (.ins C dx fs) ∧ sp [.ref a] H (fun v H' => ∃ x : Str, v = .str x ∧ Q (.str x) H') (fun _ _ _ => False)
theorem c_strO (M : SpM X.K C f "__str__") (F : FnOk X.prog X.w X.K X.mg X.base CX k f fd ps sp) (hr : Room (k + 2) X.A) (hb : Binds X.K fd ps []) (hx : Passes CX X (fun _ _ _ => False)) : CallR X (.type "str") (rStrO C sp) := by
  intro pins s σ H xs us Q I r h
  obtain ⟨a, dx, fs, rfl, ha, hq⟩ := h
  obtain ⟨u, rfl, rx⟩ := vals1 r
  cases (show u = Value.ref a from rx)
  obtain ⟨_, J, _⟩ := ins_get I.hok ha
  obtain ⟨_, J, _⟩ := J.look
  have hu := hr.un
  refine PySem.W.kso_call (by show X.A.units + 1 + 1 < cLine; omega) I.kIn J M.hs M.hf (wpAny_mono (callA (A := X.A.in1.in1) (vs := [.ref a]) F hr.in1.in1 rfl hb hx I (.cons rfl .nil) hq) (fun z s' hz => ?_) fun _ _ z => z)
  obtain ⟨v', H', I', rv, x, e, q⟩ := hz
  subst e
  obtain ⟨t, rfl⟩ := (show ∃ t, z = Value.str x t from rv)
  exact ⟨.str x, H', I', ⟨_, rfl⟩, q⟩
end
end L2

/-! Abstract rules for own classes, errors, lambdas, pens. -/
namespace L2
open PySem PySem.Spec PyProof.Rows
/-- as Fun.okG, the code object told -/
theorem Fun.okGC {P : Program} {w : World} {K : PySem.W.Frag} {mg : Str → Option Value} {base : Heap} {x qual : Str} {st : Stmt} {f : Addr} {fd : FuncData} {N ps : List Str} {k : Nat} {sp : Sp} (F : Fun K x qual st f fd) (S : FnScope N ps (defScope st)) (len : ∀ vs H Q E, sp vs H Q E → vs.length = ps.length)
    (hb : ∀ (A : Around) (outer : List Env) (s : Shared) (H : Hp) (vs : List V) (Q : VK) (E : XK), Room k (A.deeper (envOfC qual (defScope st) s.heap.objs.size f fd.code)) → A.guards = some [] → sp vs H Q E →
      ∃ t, PSs (cxOf CX0 P w K mg base N qual (defScope st) f fd.code A outer s H E).nox (defBody st) t ∧ t { nx := fun _ H' => Q .non H', rt := Q } (start N vs) H) : FnG P w K mg base CX0 (k + 1) f fd ps sp := by
  obtain ⟨oc, od, kV, doc, pm, an, cdv, ct, osl, rfl, lk, hcd⟩ := F.ex
  refine ⟨len, fun A outer s H args us vs Q E hr hg e0 hbd r hsp => LamX.run_ofS lk hcd S hr e0 hbd r (len _ _ _ _ hsp) fun hr' => ?_⟩
  obtain ⟨t, h, q⟩ := hb A outer s H vs Q E hr' hg hsp
  exact ⟨t, h.nox, q⟩
end L2
namespace AW
open PySem PySem.Spec PyProof.Rows L2 LamX ClX
theorem both_nt {A B : Prop} (h : B) : ((!true) = true → A) ∧ ((!true) = false → B) := ⟨fun z => Bool.noConfusion z, fun _ => h⟩
theorem both_nf {A B : Prop} (h : A) : ((!false) = true → A) ∧ ((!false) = false → B) := ⟨fun _ => h, fun z => Bool.noConfusion z⟩
theorem bor_t {A B : Prop} (h : B) : (true = false → A) ∧ (true = true → B) := ⟨fun z => Bool.noConfusion z, fun _ => h⟩
theorem bor_f {A B : Prop} (h : A) : (false = false → A) ∧ (false = true → B) := ⟨fun _ => h, fun z => Bool.noConfusion z⟩
theorem bor_nt {A B : Prop} (h : A) : ((!true) = false → A) ∧ ((!true) = true → B) := ⟨fun _ => h, fun z => Bool.noConfusion z⟩
theorem bor_nf {A B : Prop} (h : B) : ((!false) = false → A) ∧ ((!false) = true → B) := ⟨fun z => Bool.noConfusion z, fun _ => h⟩
theorem keep2 {kn : Hp} {a q : Addr} {o : HO} {u : HO} (h : a ≠ q) (e : kn a = some u) : upd kn q o a = some u := by
  rw [upd_ne h]
  exact e
section
variable {K : PySem.W.Frag} {H H' : Hp} {x : V} {t : Value}
theorem tyof_ext (e : Ext H H') (h : TyOf K H x t) : TyOf K H' x t := by
  cases h with
  | non => exact .non
  | bl x => exact .bl x
  | int i => exact .int i
  | str x => exact .str x
  | flt x => exact .flt x
  | lst h => exact .lst (e _ _ h)
  | frz h => exact .frz (e _ _ h)
  | tup h => exact .tup (e _ _ h)
  | dK h => exact .dK (e _ _ h)
  | dT h => exact .dT (e _ _ h)
  | ins h a b c d m => exact .ins (e _ _ h) a b c d m
theorem tyx_ext (e : Ext H H') (h : TyX K H x t) : TyX K H' x t := by
  cases h with
  | base b => exact .base (tyof_ext e b)
  | byt b => exact .byt b
  | set h => exact .set (e _ _ h)
  | kList h c => exact .kList h c
  | kTuple h c => exact .kTuple h c
  | kDict h c => exact .kDict h c
  | fTuple h => exact .fTuple (e _ _ h)
  | fDict h => exact .fDict (e _ _ h)
end
/-- the wish of errors -/
abbrev EAK := Value → Option Addr → Hp → Nat → Prop
def ErrOk (c : Cw) (EA : EAK) (E : XK) : Prop := ∀ cls d kn' n' H', EA cls d kn' n' → Good c kn' n' H' → E cls d H'
theorem err_no {c : Cw} {E : XK} : ErrOk c (fun _ _ _ _ => False) E := fun _ _ _ _ _ h => h.elim
abbrev bodyX (c : Cw) (E : XK) : EAK := fun cls d kn n => ∀ H', Good c kn n H' → E cls d H'
theorem err_body {c : Cw} {E : XK} : ErrOk c (bodyX c E) E := fun _ _ _ _ H' h g => h H' g
section
variable {c : Cw} {kn : Hp} {n : Nat} {σ : L2.St} {Q : V → Hp → Nat → Prop} {K : PySem.W.Frag} {E : XK} {EA : EAK} {B : List V → Hp → AK → AXK → Prop}
theorem r_isi {x cv : V} {t u : Value} {b : Bool} (k : ClsV cv u) (ty : TyX K kn x t) (e : PySem.W.kitOne K t u = some b) (q : Q (.bl b) kn n) : W c (rIsi K [x, cv]) kn n Q :=
  fun H g _ f => ⟨x, cv, t, u, b, rfl, k, tyx_ext g.ex ty, e, f _ kn n H q g⟩
theorem w_call {dvs : List V} {t : TA} (hm : MonoX B) (hE : ErrOk c EA E) (h : W c (t σ) kn n fun vs kn1 n1 => B (vs ++ dvs) kn1 (fun v k => Q v k n1) (fun cls d k => EA cls d k n1)) : W c (tCall (liftX B) dvs E t σ) kn n Q :=
  w_callX hm hE h
def rIsN : R2 := fun x y H Q => y = V.non ∧ Q (V.bl (decide (x = V.non))) H
theorem c_isN {X : Cx} : OpR X (compareOp .Is) rIsN := op_isN
theorem r_isN {x : V} (q : Q (.bl (decide (x = V.non))) kn n) : W c (rIsN x .non) kn n Q := fun H g _ k => ⟨rfl, k _ kn n H q g⟩
theorem r_isNt (q : Q (V.bl true) kn n) : W c (rIsN .non .non) kn n Q := fun H g _ k => ⟨rfl, k _ kn n H q g⟩
theorem r_isNr {a : Addr} (q : Q (V.bl false) kn n) : W c (rIsN (.ref a) .non) kn n Q := fun H g _ k => ⟨rfl, k _ kn n H q g⟩
theorem r_neV {v : V} (h : scal v v = true) (q : Q (V.bl false) kn n) : W c (rNe v v) kn n Q := r_ne h (by rw [decide_eq_true rfl]; exact q)
theorem r_eqV {v : V} (h : scal v v = true) (q : Q (V.bl true) kn n) : W c (rEq v v) kn n Q := r_eq h (by rw [decide_eq_true rfl]; exact q)
theorem r_neSelf {x : Str} (q : Q (V.bl false) kn n) : W c (rNe (.str x) (.str x)) kn n Q := r_ne rfl (by rw [decide_eq_true rfl]; exact q)
theorem r_eqSelf {x : Str} (q : Q (V.bl true) kn n) : W c (rEq (.str x) (.str x)) kn n Q := r_eq rfl (by rw [decide_eq_true rfl]; exact q)
theorem w_make {C : Addr} {t : TA} (hm : MonoX B) (hE : ErrOk c EA E) (h : W c (t σ) kn n fun vs kn1 n1 => ∀ x dx, kn1 x = none → kn1 dx = none → dx ≠ x →
    B (.ref x :: vs) (upd (upd kn1 dx (.own x)) x (.ins C dx [])) (fun v kn2 => v = .non ∧ Q (.ref x) kn2 n1) (fun cls d k => EA cls d k n1)) : W c (tMake C (liftX B) [] E t σ) kn n Q :=
  fun H g Q' q => h H g _ fun vs kn1 n1 H1 h1 g1 => fun x dx hx hdx hne => by
    have hx2 : upd H1 dx (.own x) x = none := by rw [upd_ne (Ne.symm hne)]; exact hx
    have z := sp_call (c := c) (n := n1) (Q := fun v kn2 n2 => v = .non ∧ Q (.ref x) kn2 n2) hm hE (h1 x dx (g1.free hx) (g1.free hdx) hne) _ ((g1.new hdx).new hx2) (fun v H2 => v = .non ∧ Q' (.ref x) H2)
      (fun v kn2 n2 H2 hq g2 => ⟨hq.1, q _ _ _ _ hq.2 g2⟩)
    have e : vs ++ [] = vs := List.append_nil vs
    rw [e]
    exact z
theorem w_meth {C : Addr} {m : Str} {ta : TE} {t : TA} (hm : MonoX B) (hE : ErrOk c EA E) (h : W c (ta σ) kn n fun x kn1 n1 => ∃ a dx fs, x = .ref a ∧ kn1 a = some (.ins C dx fs) ∧ fs.lookup m = none ∧
    W c (t σ) kn1 n1 fun vs kn2 n2 => B (.ref a :: vs) kn2 (fun v k => Q v k n2) (fun cls d k => EA cls d k n2)) : W c (tMeth C m (liftX B) [] E ta t σ) kn n Q :=
  fun H g Q' q => h H g _ fun x kn1 n1 H1 h1 g1 => by
    obtain ⟨a, dx, fs, rfl, ha, hl, h2⟩ := h1
    refine ⟨a, dx, fs, rfl, g1.ex _ _ ha, hl, h2 H1 g1 _ fun vs kn2 n2 H2 h3 g2 => ?_⟩
    have e : vs ++ [] = vs := List.append_nil vs
    rw [e]
    exact sp_call hm hE h3 H2 g2 Q' q
theorem r_own {op : Operator} {C a dx : Addr} {fs : List (Str × V)} {y : V} {t : Value} (hm : MonoX B) (hE : ErrOk c EA E) (ha : kn a = some (.ins C dx fs)) (ty : TyX K kn y t) (ot : OpT K op C t)
    (h : B [.ref a, y] kn (fun v k => Q v k n) (fun cls d k => EA cls d k n)) : W c (rOwn K op C (liftX B) E (.ref a) y) kn n Q :=
  fun H g Q' q => ⟨a, dx, fs, t, rfl, g.ex _ _ ha, tyx_ext g.ex ty, ot, sp_call hm hE h H g Q' q⟩
theorem r_eqO {C a dx : Addr} {fs : List (Str × V)} {y : V} {t : Value} {neg : Bool} (hm : MonoX B) (ha : kn a = some (.ins C dx fs)) (ty : TyX K kn y t) (nf : PySem.W.notFirst K C t = true)
    (h : B [.ref a, y] kn (fun v k => ∃ b, v = .bl b ∧ Q (.bl (if neg then !b else b)) k n) (fun _ _ _ => False)) : W c (rEqO K C (liftX B) neg (.ref a) y) kn n Q :=
  fun H g Q' q => ⟨a, dx, fs, t, rfl, g.ex _ _ ha, tyx_ext g.ex ty, nf, sp_call (EA := fun _ _ _ _ => False) (Q := fun v k n => ∃ b, v = .bl b ∧ Q (.bl (if neg then !b else b)) k n) hm err_no h H g _ fun v kn1 n1 H1 ⟨b, e, hq⟩ g1 => ⟨b, e, q _ _ _ _ hq g1⟩⟩
theorem r_lenO {C a dx : Addr} {fs : List (Str × V)} (hm : MonoX B) (ha : kn a = some (.ins C dx fs)) (h : B [.ref a] kn (fun v k => ∃ i : Int, v = .int i ∧ (0 ≤ i ∧ i < 2 ^ 63) ∧ Q (.int i) k n) (fun _ _ _ => False)) : W c (rLenO C (liftX B) [.ref a]) kn n Q :=
  fun H g Q' q => ⟨a, dx, fs, rfl, g.ex _ _ ha, sp_call (EA := fun _ _ _ _ => False) (Q := fun v k n => ∃ i : Int, v = .int i ∧ (0 ≤ i ∧ i < 2 ^ 63) ∧ Q (.int i) k n) hm err_no h H g _ fun v kn1 n1 H1 ⟨b, e, e2, hq⟩ g1 => ⟨b, e, e2, q _ _ _ _ hq g1⟩⟩
theorem r_strO {C a dx : Addr} {fs : List (Str × V)} (hm : MonoX B) (ha : kn a = some (.ins C dx fs)) (h : B [.ref a] kn (fun v k => ∃ x : Str, v = .str x ∧ Q (.str x) k n) (fun _ _ _ => False)) : W c (rStrO C (liftX B) [.ref a]) kn n Q :=
  fun H g Q' q => ⟨a, dx, fs, rfl, g.ex _ _ ha, sp_call (EA := fun _ _ _ _ => False) (Q := fun v k n => ∃ x : Str, v = .str x ∧ Q (.str x) k n) hm err_no h H g _ fun v kn1 n1 H1 ⟨b, e, hq⟩ g1 => ⟨b, e, q _ _ _ _ hq g1⟩⟩
theorem w_cval {ta : TE} {f : Str} (h : W c (ta σ) kn n fun x kn1 n1 => ∃ C mc v u, x = .ref C ∧ CRead K C mc ∧ CVal K C mc f v u ∧ Q v kn1 n1) : W c (tCVal K ta f σ) kn n Q :=
  fun H g Q' q => h H g _ fun x kn1 n1 H1 ⟨C, mc, v, u, e, r, cv, hq⟩ g1 => ⟨C, mc, v, u, e, r, cv, q _ _ _ _ hq g1⟩
theorem w_tupRg {ta tb : TE} (h : W c (ta σ) kn n fun x kn1 n1 => W c (tb σ) kn1 n1 fun y kn2 n2 => ∃ i j, x = .int i ∧ y = .int j ∧ RgOk i j ∧ ∀ q, kn2 q = none → Q (.ref q) (upd kn2 q (.tup (rgV i j))) n2) : W c (tTupRg (tRg2 ta tb) σ) kn n Q :=
  fun H g Q' q => h H g _ fun x kn1 n1 H1 h1 g1 => h1 H1 g1 _ fun y kn2 n2 H2 ⟨i, j, e1, e2, ok, h2⟩ g2 => ⟨i, j, e1, e2, ok, fun p hp => q _ _ _ _ (h2 p (g2.free hp)) (g2.new hp)⟩
theorem w_fmtI {te : TE} (h : W c (te σ) kn n fun x kn1 n1 => ∃ i : Int, x = .int i ∧ i.natAbs.log2 < 1920 ∧ Q (.str (toString i)) kn1 n1) : W c (tFmt te σ) kn n Q :=
  fun H g Q' q => h H g _ fun x kn1 n1 H1 ⟨i, e, hi, hq⟩ g1 => .inr ⟨i, e, hi, q _ _ _ _ hq g1⟩
theorem w_fmtS {te : TE} (h : W c (te σ) kn n fun x kn1 n1 => ∃ y : Str, x = .str y ∧ y.length ≤ sizeLine ∧ Q (.str y) kn1 n1) : W c (tFmt te σ) kn n Q :=
  fun H g Q' q => h H g _ fun x kn1 n1 H1 ⟨i, e, hi, hq⟩ g1 => .inl ⟨i, e, hi, q _ _ _ _ hq g1⟩
theorem w_js0 {acc : Str} {QS : Str → Hp → Nat → Prop} (q : QS acc kn n) : W c (tJs [] acc σ) kn n QS := fun H g _ k => k _ kn n H q g
theorem w_js {t : TE} {ts : List TE} {acc : Str} {QS : Str → Hp → Nat → Prop} (h : W c (t σ) kn n fun x kn1 n1 => ∃ y : Str, x = .str y ∧ (acc ++ y).length ≤ sizeLine ∧ W c (tJs ts (acc ++ y) σ) kn1 n1 QS) : W c (tJs (t :: ts) acc σ) kn n QS :=
  fun H g Q' q => h H g _ fun x kn1 n1 H1 ⟨y, e, hl, h2⟩ g1 => ⟨y, e, hl, h2 H1 g1 Q' q⟩
theorem w_joined {ts : List TE} (h : W c (tJs ts Str.empty σ) kn n fun out kn1 n1 => Q (.str out) kn1 n1) : W c (fun H Q' => tJs ts Str.empty σ H fun out H1 => Q' (.str out) H1) kn n Q :=
  fun H g Q' q => h H g _ fun out kn1 n1 H1 h1 g1 => q _ _ _ _ h1 g1
theorem r_repr {a : Addr} {d : PyData} (hd : Dp K kn (.ref a) d) (h1 : d.showable = true) (h2 : d.hasDict = false) (h3 : d.depth ≤ 64) (h4 : d.shown.length ≤ sizeLine) (q : Q (.str d.shown) kn n) : W c (rRepr K [.ref a]) kn n Q :=
  fun H g _ k => ⟨a, d, rfl, Dp.ext g.ex d _ hd, h1, h2, h3, h4, k _ kn n H q g⟩
theorem r_isK {a D dd : Addr} {fs : List (Str × V)} {cv : V} {u : Value} {b : Bool} (k : ClsV cv u) (ea : kn a = some (exh a (.ref D) (some dd))) (ed : kn dd = some (.xd fs)) (ex : ExcC K D) (e : PySem.W.kitOne K (.ref D) u = some b) (q : Q (.bl b) kn n) : W c (rIsK K [.ref a, cv]) kn n Q :=
  fun H g _ f => ⟨a, D, dd, fs, cv, u, b, rfl, k, g.ex _ _ ea, g.ex _ _ ed, ex, e, f _ kn n H q g⟩
theorem w_xk {te : TE} {f : Str} (h : W c (te σ) kn n fun x kn1 n1 => ∃ (a C dd : Addr) (fs : List (Str × V)) (v : V), x = .ref a ∧ kn1 a = some (exh a (.ref C) (some dd)) ∧ kn1 dd = some (.xd fs) ∧ XfC K C ∧ PySem.W.findIn K (.ref C) f = some none ∧ fs.lookup f = some v ∧ Q v kn1 n1) : W c (tXk K te f σ) kn n Q :=
  fun H g Q' q => h H g _ fun x kn1 n1 H1 ⟨a, C, dd, fs, v, e, ea, ed, xf, hn, hl, hq⟩ g1 => ⟨a, C, dd, fs, v, e, g1.ex _ _ ea, g1.ex _ _ ed, xf, hn, hl, q _ _ _ _ hq g1⟩
theorem w_dnew (h : ∀ q, kn q = none → Q (.ref q) (upd kn q (.dK [])) n) : W c (tDNewK σ) kn n Q := fun H g Q' q => fun p hp => q _ _ _ _ (h p (g.free hp)) (g.new hp)
theorem w_chain {r r' : R2} {ta tb tc : TE} (h : W c (ta σ) kn n fun x kn1 n1 => W c (tb σ) kn1 n1 fun y kn2 n2 => W c (r x y) kn2 n2 fun z kn3 n3 => ∃ k, z = .bl k ∧ (k = true → W c (tc σ) kn3 n3 fun w kn4 n4 => W c (r' y w) kn4 n4 Q) ∧ (k = false → Q (.bl false) kn3 n3)) : W c (tChain r r' ta tb tc σ) kn n Q :=
  fun H g Q' q => h H g _ fun x kn1 n1 H1 h1 g1 => h1 H1 g1 _ fun y kn2 n2 H2 h2 g2 => h2 H2 g2 _ fun z kn3 n3 H3 h3 g3 => by
    obtain ⟨k, e, a, b⟩ := h3
    refine ⟨k, e, ?_⟩
    cases k with
    | true => exact iteT (a rfl H3 g3 _ fun w kn4 n4 H4 h4 g4 => h4 H4 g4 Q' q)
    | false => exact iteF (q _ _ _ _ (b rfl) g3)
variable {D : AE}
theorem s_fld {ta tv : TE} {f : Str} (h : W c (tv σ) kn n fun y kn1 n1 => W c (ta σ) kn1 n1 fun x kn2 n2 => ∃ a C dx fs, x = .ref a ∧ kn2 a = some (.ins C dx fs) ∧ Cls K C ∧ NoAttr K C f ∧ fs.length < 1000 ∧ D.nx σ (upd kn2 a (.ins C dx (putF f y fs))) n2) : WS c (sFld K ta tv f) D σ kn n :=
  fun H g D' fit => h H g _ fun y kn1 n1 H1 h1 g1 => h1 H1 g1 _ fun x kn2 n2 H2 ⟨a, C, dx, fs, e, ha, cl, na, hl, hq⟩ g2 => ⟨a, C, dx, fs, e, g2.ex _ _ ha, cl, na, hl, fit.nx _ _ _ _ hq (g2.put ha rfl)⟩
theorem s_aug {i : Nat} {te : TE} {ti : TIp} {x : V} (hv : σ[i]? = some (some x)) (h : W c (te σ) kn n fun y kn1 n1 => W c (ti x y) kn1 n1 fun z kn2 n2 => D.nx (σ.set i (some z)) kn2 n2) : WS c (tAug i te ti) D σ kn n :=
  fun H g D' fit => ⟨x, hv, h H g _ fun y kn1 n1 H1 h1 g1 => h1 H1 g1 _ fun z kn2 n2 H2 h2 g2 => fit.nx _ _ _ _ h2 g2⟩
theorem room_u128 {k : Nat} {A : Around} (r : Room k A) : A.units + 128 < cLine := by have := r.un; omega
/-- an error class whose __init__ sets one field -/
def spX1 (K : PySem.W.Frag) (f : Str) : Sp := fun vs H Q _ => ∃ (a C : Addr) (y : V), vs = [.ref a, y] ∧ OexC K C ∧ PySem.W.findIn K (.ref C) f = some none ∧ H a = some (exo a C none) ∧
  ∀ dx, H dx = none → dx ≠ a → Q .non (upd (upd H dx (exd dx [(f, y)])) a (exo a C (some dx)))
theorem x1_end {H : Hp} {a d : Addr} {o1 o2 o3 o4 : HO} (ha : H a = none) (hd : d ≠ a) : upd (del (upd (upd (upd H a o1) d o2) a o3) a) d o4 = upd H d o4 := by
  funext x
  by_cases h1 : x = d
  · rw [h1, upd_same, upd_same]
  · rw [upd_ne h1, upd_ne h1]
    by_cases h2 : x = a
    · rw [h2, del_same, ha]
    · rw [del_ne h2, upd_ne h2, upd_ne h1, upd_ne h2]
theorem s_raise1 {C : Addr} {f : Str} {ta : TA} (oc : OexC K C) (hf : PySem.W.findIn K (.ref C) f = some none) (hE : ErrOk c EA E)
    (h : W c (ta σ) kn n fun vs kn1 n1 => ∃ y, vs = [y] ∧ ∀ d, kn1 d = none → EA (.ref C) (some d) (upd kn1 d (.xd [(f, y)])) n1) :
    WS c (fun _ σ H => tMkO C (spX1 K f) [] ta σ H fun cls d H' => E cls d H') D σ kn n :=
  fun H g D' fit => h H g _ fun vs kn1 n1 H1 ⟨y, e, h1⟩ g1 => by
    subst e
    refine ⟨Nat.le_add_left 1 999, fun a ha => ⟨a, C, y, rfl, oc, hf, upd_same, fun d hd hda => ⟨rfl, d, [(f, y)], upd_same, ?_, ?_, ?_⟩⟩⟩
    · rw [upd_ne hda, upd_same]
    · rw [upd_ne hda] at hd
      exact hd
    · rw [upd_ne hda] at hd
      rw [x1_end ha hda]
      exact hE _ _ _ _ _ (h1 d (g1.free hd)) (g1.new hd)
end
end AW

/-! x in o, x not in o: o of an own class with __contains__; truth of an own class by __bool__ or __len__ is not here. -/
namespace L2
open PySem PySem.Spec PyProof.Rows
section
variable {X : Cx} {CX : CXT} {k : Nat} {f C : Addr} {fd : FuncData} {ps : List Str} {sp : Sp}
def rInO (C : Addr) (sp : Sp) (neg : Bool) : R2 := fun x y H Q => ∃ a dx fs, y = .ref a ∧ H a = some (.ins C dx fs) ∧ sp [.ref a, x] H (fun v H' => ∃ b, v = .bl b ∧ Q (.bl (if neg then !b else b)) H') (fun _ _ _ => False)
theorem op_inO (M : SpM X.K C f "__contains__") (F : FnOk X.prog X.w X.K X.mg X.base CX k f fd ps sp) (hr : Room k X.A) (hb : Binds X.K fd ps []) (hx : Passes CX X (fun _ _ _ => False)) : OpR X (compareOp .In) (rInO C sp false) := by
  intro pins s σ H x y v u Q I rx ry h
  obtain ⟨a, dx, fs, rfl, ha, hq⟩ := h
  cases (show u = Value.ref a from ry)
  obtain ⟨_, J, _⟩ := ins_get I.hok ha
  obtain ⟨_, J, _⟩ := J.look
  obtain ⟨_, hF⟩ := I.fr
  refine PySem.W.in_K hF I.ok.mod.kin J M.hs M.hf (wpAny_mono (callA (vs := [.ref a, x]) F hr rfl hb hx I (.cons rfl (.cons rx .nil)) hq) (fun z s' hz => ?_) fun _ _ z => z)
  obtain ⟨v', H', I', rv, b, e, q⟩ := hz
  subst e
  cases (show z = Value.bool b from rv)
  exact wpAny_truthy_bool ⟨.bl b, H', I', rfl, q⟩
theorem op_notInO (M : SpM X.K C f "__contains__") (F : FnOk X.prog X.w X.K X.mg X.base CX k f fd ps sp) (hr : Room k X.A) (hb : Binds X.K fd ps []) (hx : Passes CX X (fun _ _ _ => False)) : OpR X (compareOp .NotIn) (rInO C sp true) := by
  intro pins s σ H x y v u Q I rx ry h
  obtain ⟨a, dx, fs, rfl, ha, hq⟩ := h
  cases (show u = Value.ref a from ry)
  obtain ⟨_, J, _⟩ := ins_get I.hok ha
  obtain ⟨_, J, _⟩ := J.look
  obtain ⟨_, hF⟩ := I.fr
  refine PySem.W.notIn_K hF I.ok.mod.kin J M.hs M.hf (wpAny_mono (callA (vs := [.ref a, x]) F hr rfl hb hx I (.cons rfl (.cons rx .nil)) hq) (fun z s' hz => ?_) fun _ _ z => z)
  obtain ⟨v', H', I', rv, b, e, q⟩ := hz
  subst e
  cases (show z = Value.bool b from rv)
  exact wpAny_truthy_bool ⟨.bl (!b), H', I', rfl, q⟩
end
end L2
namespace AW
open PySem PySem.Spec PyProof.Rows L2
section
variable {c : Cw} {kn : Hp} {n : Nat} {Q : V → Hp → Nat → Prop} {B : List V → Hp → AK → AXK → Prop}
theorem r_inO {C a dx : Addr} {fs : List (Str × V)} {x : V} {neg : Bool} (hm : MonoX B) (ha : kn a = some (.ins C dx fs)) (h : B [.ref a, x] kn (fun v k => ∃ b, v = .bl b ∧ Q (.bl (if neg then !b else b)) k n) (fun _ _ _ => False)) : W c (rInO C (liftX B) neg x (.ref a)) kn n Q :=
  fun H g Q' q => ⟨a, dx, fs, rfl, g.ex _ _ ha, sp_call (EA := fun _ _ _ _ => False) (Q := fun v k n => ∃ b, v = .bl b ∧ Q (.bl (if neg then !b else b)) k n) hm err_no h H g _ fun v kn1 n1 H1 ⟨b, e, hq⟩ g1 => ⟨b, e, q _ _ _ _ hq g1⟩⟩
end
end AW

namespace L2
open PySem PySem.Spec PyProof.Rows Builtin
theorem int_eq_inst (b : Int) (u : Tok) (x C dx : Addr) :
    Meets (Builtin.«int.__eq__» ⟨[.int b u, .ref x], []⟩) (fun _ R s => s.heap.get? x = some (PySem.W.instObj C dx) ∧ R (.ok (.ret .notImplemented)) s) :=
  .of_wp fun prog w A R s h => by
    obtain ⟨hp, g, d, tk, os⟩ := s
    obtain ⟨hl, h⟩ := h
    unfold PySem.W.instObj at hl
    wp_walk using wpAny_loadPart' hl, wpAny_load hl
    exact ⟨_, rfl, h⟩
theorem bool_eq_inst (b : Bool) (x C dx : Addr) :
    Meets (Builtin.«int.__eq__» ⟨[.bool b, .ref x], []⟩) (fun _ R s => s.heap.get? x = some (PySem.W.instObj C dx) ∧ R (.ok (.ret .notImplemented)) s) :=
  .of_wp fun prog w A R s h => by
    obtain ⟨hp, g, d, tk, os⟩ := s
    obtain ⟨hl, h⟩ := h
    unfold PySem.W.instObj at hl
    wp_walk using wpAny_loadPart' hl, wpAny_load hl
    exact ⟨_, rfl, h⟩
theorem str_eq_inst (b : Str) (u : Tok) (x C dx : Addr) :
    Meets (Builtin.«str.__eq__» ⟨[.str b u, .ref x], []⟩) (fun _ R s => s.heap.get? x = some (PySem.W.instObj C dx) ∧ R (.ok (.ret .notImplemented)) s) :=
  .of_wp fun prog w A R s h => by
    obtain ⟨hp, g, d, tk, os⟩ := s
    obtain ⟨hl, h⟩ := h
    unfold PySem.W.instObj at hl
    wp_walk using wpAny_loadPart' hl, wpAny_load hl
    exact ⟨_, rfl, h⟩
theorem tup_eq_inst (l x : Addr) :
    Meets (Builtin.«tuple.__eq__» ⟨[.ref l, .ref x], []⟩) (fun _ R s => (∀ (M : Model) (A : Around) (Q : Bool → Shared → Prop) (E : Value → Shared → Prop), Q false s → wpAny M A (isInstance (.ref x) (.type "tuple")) Q E s) ∧ R (.ok (.ret .notImplemented)) s) :=
  .of_wp fun prog w A R s h => by
    obtain ⟨hp, g, d, tk, os⟩ := s
    obtain ⟨hl, h⟩ := h
    wp_walk using hl _ _ _ _
    exact ⟨_, rfl, h⟩
theorem lst_eq_inst (l x : Addr) :
    Meets (Builtin.«list.__eq__» ⟨[.ref l, .ref x], []⟩) (fun _ R s => (∀ (M : Model) (A : Around) (Q : Bool → Shared → Prop) (E : Value → Shared → Prop), Q false s → wpAny M A (isInstance (.ref x) (.type "list")) Q E s) ∧ R (.ok (.ret .notImplemented)) s) :=
  .of_wp fun prog w A R s h => by
    obtain ⟨hp, g, d, tk, os⟩ := s
    obtain ⟨hl, h⟩ := h
    wp_walk using hl _ _ _ _
    exact ⟨_, rfl, h⟩
section
variable {prog : Program} {w : World} {A : Around} {E : Value → Shared → Prop} {s : Shared} {K : PySem.W.Frag} {x C f : Addr} {ox : Obj} {od : Option Obj} {b : Value} {T id : String} {Q : Value → Shared → Prop}
/-- b == x, b of a built-in type that declines, x's class has an own == -/
theorem eq_back (hu : A.units < cLine) (X : K.In s.heap) (I : PySem.W.InstAt s.heap x ox C od) (hT : s.TypeIs b T) (slot : Slot T "__eq__" id) (hs : PySem.W.findIn K (.ref C) "__eq__" = some (some (.ref f))) (hf : PySem.W.isFn K (.ref f) = true) (sub : PySem.W.subIn K (.ref C) (.type T) = some false)
    (dec : ∀ (P : Value → Shared → Prop) (E' : Value → Shared → Prop), P .notImplemented s → wpAny (model prog w) A (call (.builtin id) [b, .ref x]) P E' s)
    (h : wpAny (model prog w) A (call (.ref f) [.ref x, b]) (PySem.W.CmpBack Q) E s) : wpAny (model prog w) A (richCompare .Eq b (.ref x)) Q E s := by
  have ne : ((Value.type T) != (Value.ref C)) = true := rfl
  simp only [richCompare, cmpInfo_Eq, hT.oneThing_none]
  refine wpAny_holding (wpAny_bind (wpAny_cRoomFor hu ?_))
  refine wpAny_bind (wpAny_typeOf hT ?_)
  refine wpAny_bind (I.type.here ?_)
  rw [if_pos ne]
  refine wpAny_bind ((PySem.W.looks_subIn X sub).here ?_)
  simp only [Bool.false_eq_true, if_false, Bool.not_false, if_true]
  refine wpAny_bind (m := tryCompare b _ (.ref x)) (wpAny_tryCompare_declines hT slot (dec _ _ ⟨rfl, ?_⟩))
  refine wpAny_bind (m := tryCompare (.ref x) _ b) ?_
  unfold tryCompare
  refine wpAny_bind (PySem.W.ifBound_K X I hs hf (wpAny_mono h (fun v s' hv => ?_) fun _ _ e => e))
  cases v <;> first | exact hv.elim | exact wpAny_pure (wpAny_pure hv)
end
end L2

/-! x in a list, where == of an item may run a def of the text. -/
namespace L2
open PySem PySem.Spec PyProof.Rows PySem.SeqAt
abbrev lstOf (items : Array Value) (n : Nat) : Obj := { cls := .type "list", dict := none, data := .seq items n, slots := #[] }
/-- the turns that are left, the spot -/
def EqChain (prog : Program) (w : World) (A : Around) (l : Addr) (x : Value) : Nat → Nat → (Result → Shared → Prop) → Shared → Prop
  | 0, i, R, s => ∃ items n, s.heap.get? l = some (lstOf items n) ∧ items[i]? = none ∧ R (.ok (.ret (.bool false))) s
  | m + 1, i, R, s => ∃ items n y, s.heap.get? l = some (lstOf items n) ∧ items[i]? = some y ∧ wpAny (model prog w) A (eqBool y x) (fun b s' => (b = true → R (.ok (.ret (.bool true))) s') ∧ (b = false → EqChain prog w A l x m (i + 1) R s')) (fun e s' => R (.error e) s') s
theorem contains_chain {prog : Program} {w : World} {l : Addr} {x : Value} (m : Nat) :
    ∀ i : Nat, MeetsIn prog w (Builtin.«list.__contains__.loop» ⟨[.ref l, x, rawInt i], []⟩) (fun A R s => EqChain prog w A.in1 l x m i R s) := by
  induction m with
  | zero =>
    intro i A R s h
    obtain ⟨hp, g, d, tk, os⟩ := s
    obtain ⟨items, n, hl, hi, h⟩ := h
    wp_walk using wpAny_loadPart' hl
    have none_at : items[((i : Nat) : Int).toNat]? = none := by simpa using hi
    rw [none_at]
    wp_walk
    exact h
  | succ m ih =>
    intro i A R s h
    obtain ⟨hp, g, d, tk, os⟩ := s
    obtain ⟨items, n, y, hl, hi, h⟩ := h
    wp_walk using wpAny_loadPart' hl
    have some_at : items[((i : Nat) : Int).toNat]? = some y := by simpa using hi
    rw [some_at]
    refine wpAny_bind (wpAny_mono h (fun b s' hb => ?_) fun _ _ z => z)
    obtain ⟨ht, hf⟩ := hb
    cases b with
    | true =>
      wp_walk
      exact ht rfl
    | false =>
      have cast1 : ((i : Int) + 1) = ((i + 1 : Nat) : Int) := by push_cast; rfl
      wp_walk
      rw [cast1]
      refine ⟨plainId_quiet MeetsSeq.plain_contains_loop _, codeAny_builtin MeetsSeq.entry_contains_loop ?_⟩
      rw [Around.under_plainId MeetsSeq.plain_contains_loop _]
      exact ih (i + 1) A R s' (hf rfl)
theorem contains_list {prog : Program} {w : World} {l : Addr} {x : Value} (m : Nat) :
    MeetsIn prog w (Builtin.«list.__contains__» ⟨[.ref l, x], []⟩) (fun A R s => s.TypeIs (.ref l) "list" ∧ EqChain prog w A.in1 l x m 0 R s) := by
  intro A R s h
  obtain ⟨hp, g, d, tk, os⟩ := s
  obtain ⟨hl, h⟩ := h
  wp_walk
  refine ⟨plainId_quiet MeetsSeq.plain_contains_loop _, codeAny_builtin MeetsSeq.entry_contains_loop ?_⟩
  rw [Around.under_plainId MeetsSeq.plain_contains_loop _]
  exact contains_chain m 0 A R _ h
theorem in_chain {prog : Program} {w : World} {A : Around} {E : Value → Shared → Prop} {s : Shared} {l : Addr} {x : Value} {Q : Value → Shared → Prop} (m : Nat) (hl : s.TypeIs (.ref l) "list")
    (h : EqChain prog w A.in1 l x m 0 (wants (fun v s' => ∃ b, v = .bool b ∧ Q (.bool b) s') E) s) : wpAny (model prog w) A (compareOp .In x (.ref l)) Q E s := by
  show wpAny _ A (do return .bool (← contains (.ref l) x)) Q E s
  refine wpAny_bind (wpAny_contains_slot (T := "list") hl F.slot_list_contains (wpAny_mono (call_meetsIn F.slot_list_contains hl F.entry_list_contains (F.args_list_contains_2 _ _) (contains_list m) ⟨hl, h⟩) (fun v s' hv => ?_) fun _ _ e => e))
  obtain ⟨b, rfl, hq⟩ := hv
  exact wpAny_truthy_bool (wpAny_pure hq)
end L2

/-! o in a list of built-in values, o of an own class with an own ==. -/
namespace L2
open PySem PySem.Spec PyProof.Rows PySem.SeqAt
/-- a built-in value whose == leaves the answer to the class at C -/
inductive BackV (K : PySem.W.Frag) (H : Hp) (C : Addr) : V → Prop where
  | non (h : PySem.W.subIn K (.ref C) (.type "NoneType") = some false) : BackV K H C .non
  | bl (b : Bool) (h : PySem.W.subIn K (.ref C) (.type "bool") = some false) : BackV K H C (.bl b)
  | int (i : Int) (h : PySem.W.subIn K (.ref C) (.type "int") = some false) : BackV K H C (.int i)
  | str (x : Str) (h : PySem.W.subIn K (.ref C) (.type "str") = some false) : BackV K H C (.str x)
  | lst {l : Addr} {xs : List V} (e : H l = some (.lst xs)) (h : PySem.W.subIn K (.ref C) (.type "list") = some false) : BackV K H C (.ref l)
  | tup {l : Addr} {xs : List V} (e : H l = some (.tup xs)) (h : PySem.W.subIn K (.ref C) (.type "tuple") = some false) : BackV K H C (.ref l)
def InCh (K : PySem.W.Frag) (C a l : Addr) (vs : List V) (sp : Sp) : List V → Hp → VK → Prop
  | [], H, Q => Q (.bl false) H
  | v :: r, H, Q => BackV K H C v ∧ sp [.ref a, v] H (fun u H1 => ∃ b, u = .bl b ∧ H1 l = some (.lst vs) ∧ (∃ dx fs, H1 a = some (.ins C dx fs)) ∧ (b = true → Q (.bl true) H1) ∧ (b = false → InCh K C a l vs sp r H1 Q)) (fun _ _ _ => False)
def rInLO (K : PySem.W.Frag) (C : Addr) (sp : Sp) : R2 := fun x y H Q => ∃ a dx fs l vs, x = .ref a ∧ y = .ref l ∧ H a = some (.ins C dx fs) ∧ H l = some (.lst vs) ∧ InCh K C a l vs sp vs H Q
section
variable {X : Cx} {CX : CXT} {k : Nat} {f C a l : Addr} {fd : FuncData} {ps : List Str} {sp : Sp} {pins : List (Addr × Obj)} {σ : St} {H : Hp} {s : Shared} {v : V} {u : Value} {dx : Addr} {fs : List (Str × V)}
theorem eqBool_back {A : Around} {Q : Bool → Shared → Prop} {E : Value → Shared → Prop} (hu : A.units < cLine) (M : EqM X.K C f) (I : Inv X pins σ H s) (ha : H a = some (.ins C dx fs)) (b : BackV X.K H C v) (r : RelV v u)
    (h : wpAny (model X.prog X.w) A (call (.ref f) [.ref a, u]) (PySem.W.CmpBack fun z s' => wpAny (model X.prog X.w) A (truthOfDropped z) Q E s') E s) : wpAny (model X.prog X.w) A (eqBool u (.ref a)) Q E s := by
  obtain ⟨mA, J, _⟩ := ins_get I.hok ha
  obtain ⟨od, J, _⟩ := J.look
  have KI := I.kIn
  have isI : ∀ {T : String}, PySem.W.subIn X.K (.ref C) (.type T) = some false → ∀ (M : Model) (A : Around) (Q : Bool → Shared → Prop) (E : Value → Shared → Prop), Q false s → wpAny M A (isInstance (.ref a) (.type T)) Q E s := fun {T} h M' A' Q' E' q => (J.type.andThen (f := fun t => isSubtype t (.type T)) (PySem.W.looks_subIn KI h)).here q
  unfold eqBool
  refine wpAny_holding ?_
  cases b with
  | non hs =>
    cases (show u = Value.none from r)
    refine wpAny_ite_split (fun z => absurd (eq_of_beq z) nofun) (fun _ => ?_)
    refine wpAny_bind (eq_back hu KI J (T := "NoneType") rfl F.slot_NoneType_eq M.hs M.hf hs (fun P E' p => call_gives F.slot_NoneType_eq rfl F.entry_NoneType_eq (F.args_NoneType_eq_2 _ _) (NoneType___eq___none_ref_0 a) p) h)
  | bl y hs =>
    cases (show u = Value.bool y from r)
    refine wpAny_ite_split (fun z => absurd (eq_of_beq z) nofun) (fun _ => ?_)
    refine wpAny_bind (eq_back hu KI J (T := "bool") rfl F.slot_bool_eq M.hs M.hf hs (fun P E' p => call_meets F.slot_bool_eq rfl F.entry_int_eq (F.args_int_eq_2 _ _) (bool_eq_inst y a C dx) ⟨J.1, p⟩) h)
  | int y hs =>
    obtain ⟨t, rfl⟩ := (show ∃ t, u = Value.int y t from r)
    refine wpAny_ite_split (fun z => absurd (eq_of_beq z) nofun) (fun _ => ?_)
    refine wpAny_bind (eq_back hu KI J (T := "int") (typeIs_int _ _ _) F.slot_int_eq M.hs M.hf hs (fun P E' p => call_meets F.slot_int_eq (typeIs_int _ _ _) F.entry_int_eq (F.args_int_eq_2 _ _) (int_eq_inst y t a C dx) ⟨J.1, p⟩) h)
  | str y hs =>
    obtain ⟨t, rfl⟩ := (show ∃ t, u = Value.str y t from r)
    refine wpAny_ite_split (fun z => absurd (eq_of_beq z) nofun) (fun _ => ?_)
    refine wpAny_bind (eq_back hu KI J (T := "str") (typeIs_str _ _ _) F.slot_str_eq M.hs M.hf hs (fun P E' p => call_meets F.slot_str_eq (typeIs_str _ _ _) F.entry_str_eq (F.args_str_eq_2 _ _) (str_eq_inst y t a C dx) ⟨J.1, p⟩) h)
  | @lst l xs e hs =>
    cases (show u = Value.ref l from r)
    have ne : l ≠ a := fun z => by rw [z, ha] at e; cases e
    obtain ⟨_, its, n, _, _, e1⟩ := I.lstM e
    refine wpAny_ite_split (fun z => absurd (Value.ref.inj (eq_of_beq z)) ne) (fun _ => ?_)
    refine wpAny_bind (eq_back hu KI J (T := "list") ⟨_, e1, rfl⟩ F.slot_list_eq M.hs M.hf hs (fun P E' p => call_meets F.slot_list_eq ⟨_, e1, rfl⟩ F.entry_list_eq (F.args_list_eq_2 _ _) (lst_eq_inst l a) ⟨isI hs, p⟩) h)
  | @tup l xs e hs =>
    cases (show u = Value.ref l from r)
    have ne : l ≠ a := fun z => by rw [z, ha] at e; cases e
    obtain ⟨its, _, pl, _⟩ := I.tuple (.inl (.inl e))
    obtain ⟨o, ho, hc, _⟩ := pl
    refine wpAny_ite_split (fun z => absurd (Value.ref.inj (eq_of_beq z)) ne) (fun _ => ?_)
    refine wpAny_bind (eq_back hu KI J (T := "tuple") ⟨o, ho, hc⟩ F.slot_tuple_eq M.hs M.hf hs (fun P E' p => call_meets F.slot_tuple_eq ⟨o, ho, hc⟩ F.entry_tuple_eq (F.args_tuple_eq_2 _ _) (tup_eq_inst l a) ⟨isI hs, p⟩) h)
theorem in_walk {Q : VK} (hu : X.A.in1.units < cLine) (M : EqM X.K C f) (F : FnOk X.prog X.w X.K X.mg X.base CX k f fd ps sp) (hr : Room k X.A.in1) (hb : Binds X.K fd ps []) (hx : Passes CX X (fun _ _ _ => False)) {vs : List V} :
    ∀ (r done : List V) (H : Hp) (s : Shared), vs = done ++ r → Inv X pins σ H s → (∃ dx fs, H a = some (.ins C dx fs)) → H l = some (.lst vs) → InCh X.K C a l vs sp r H Q →
      EqChain X.prog X.w X.A.in1 l (.ref a) r.length done.length (wants (fun v s' => ∃ b, v = .bool b ∧ EP X pins σ Q (.bool b) s') X.xe) s := by
  intro r
  induction r with
  | nil =>
    intro done H s e I ha hl h
    obtain ⟨_, its, n, rv, hlen, e1⟩ := I.lstM hl
    refine ⟨its.toArray, n, e1, ?_, ⟨false, rfl, .bl false, H, I, rfl, h⟩⟩
    rw [List.getElem?_toArray, List.getElem?_eq_none]
    rw [← hlen, e, List.append_nil]
    exact Nat.le_refl _
  | cons v r ih =>
    intro done H s e I ha hl h
    obtain ⟨dx, fs, ha⟩ := ha
    obtain ⟨bv, hsp⟩ := h
    obtain ⟨_, its, n, rv, hlen, e1⟩ := I.lstM hl
    have at_v : vs[done.length]? = some v := by rw [e]; simp
    obtain ⟨u, hu1, ru⟩ := rv.get at_v
    refine ⟨its.toArray, n, u, e1, by rw [List.getElem?_toArray]; exact hu1, ?_⟩
    refine eqBool_back hu M I ha bv ru (wpAny_mono (callA (A := X.A.in1) (vs := [.ref a, v]) F hr rfl hb hx I (.cons rfl (.cons ru .nil)) hsp) (fun z s' hz => ?_) fun _ _ z => z)
    obtain ⟨v', H', I', rv', b, eb, hl', ha', ht, hf⟩ := hz
    subst eb
    cases (show z = Value.bool b from rv')
    show wpAny _ _ (truthOfDropped (.bool b)) _ _ _
    refine (show wpAny _ _ (truthy (.bool b)) _ _ _ from wpAny_truthy_bool ⟨fun hbt => ?_, fun hbf => ?_⟩)
    · exact ⟨true, rfl, .bl true, H', I', rfl, ht hbt⟩
    · have q := ih (done ++ [v]) H' s' (by rw [e]; simp) I' ha' hl' (hf hbf)
      rw [List.length_append] at q
      exact q
theorem op_inLO (M : EqM X.K C f) (F : FnOk X.prog X.w X.K X.mg X.base CX k f fd ps sp) (hr : Room (k + 1) X.A) (hb : Binds X.K fd ps []) (hx : Passes CX X (fun _ _ _ => False)) : OpR X (compareOp .In) (rInLO X.K C sp) := by
  intro pins s σ H x y v u Q I rx ry h
  obtain ⟨a, dx, fs, l, vs, rfl, rfl, ha, hl, h⟩ := h
  cases (show v = Value.ref a from rx)
  cases (show u = Value.ref l from ry)
  obtain ⟨_, its, n, _, _, e1⟩ := I.lstM hl
  exact in_chain vs.length ⟨_, e1, rfl⟩ (in_walk hr.in1.units0 M F hr.in1 hb hx vs [] H s rfl I ⟨dx, fs, ha⟩ hl h)
end
end L2
namespace AW
open PySem PySem.Spec PyProof.Rows L2
theorem backV_ext {K : PySem.W.Frag} {H H' : Hp} {C : Addr} {v : V} (e : Ext H H') (b : BackV K H C v) : BackV K H' C v := by
  cases b with
  | non h => exact .non h
  | bl b h => exact .bl b h
  | int i h => exact .int i h
  | str x h => exact .str x h
  | lst q h => exact .lst (e _ _ q) h
  | tup q h => exact .tup (e _ _ q) h
/-- none of the items is equal -/
theorem r_inL_no {K : PySem.W.Frag} {c : Cw} {kn : Hp} {n : Nat} {Q : V → Hp → Nat → Prop} {B : List V → Hp → AK → AXK → Prop} {C a l dx : Addr} {fs : List (Str × V)} {vs : List V} (hm : MonoX B) (ha : kn a = some (.ins C dx fs)) (hl : kn l = some (.lst vs))
    (hv : ∀ v ∈ vs, BackV K kn C v ∧ B [.ref a, v] kn (fun u k => u = .bl false ∧ k = kn) (fun _ _ _ => False)) (q : Q (.bl false) kn n) : W c (rInLO K C (liftX B) (.ref a) (.ref l)) kn n Q := by
  intro H g Q' k
  have walk : ∀ (r : List V), (∀ v ∈ r, v ∈ vs) → ∀ H, Good c kn n H → InCh K C a l vs (liftX B) r H Q' := by
    intro r
    induction r with
    | nil => exact fun _ H g => k _ _ _ _ q g
    | cons v r ih =>
      intro hr H g
      obtain ⟨b, h⟩ := hv v (hr v List.mem_cons_self)
      refine ⟨backV_ext g.ex b, kn, g.ex, g.nt, hm _ _ _ _ _ _ (fun u k' hu n' H' g' => ?_) (fun _ _ _ z => z.elim) h⟩
      obtain ⟨rfl, rfl⟩ := hu
      have g2 : Good c k' n H' := g.back g'
      exact ⟨false, rfl, g2.ex _ _ hl, ⟨dx, fs, g2.ex _ _ ha⟩, (fun z => nomatch z), fun _ => ih (fun w hw => hr w (List.mem_cons_of_mem _ hw)) H' g2⟩
  exact ⟨a, dx, fs, l, vs, rfl, rfl, g.ex _ _ ha, g.ex _ _ hl, walk vs (fun _ z => z) H g⟩
end AW

/-! An own operator whose right operand is of another own class; built-in == own; repr of any data; properties. -/
namespace OX
open PySem PySem.W PySem.Calls PyProof.Rows Builtin
section
variable {prog : Program} {w : World} {A : Around} {E : Value → Shared → Prop} {s : Shared} {K : Frag} {x C D f : Addr} {ox : Obj} {od : Option Obj} {b : Value}
theorem noNumber {M : Model} {h : Heap} {nm : String} {cd : ClassData} (X : K.In h) (hc : clsIn K D = some cd) (hm : cd.mro = [.ref D, .type "object"]) (h1 : findIn K (.ref D) (PySem.dunder nm) = some none) (h2 : findIn K (.ref D) (dunderR nm) = some none)
    (o1 : typeLookup (.type "object") (PySem.dunder nm) = pure none) (o2 : typeLookup (.type "object") (dunderR nm) = pure none) : Looks M h (fillsNumberSlot (.ref D) nm) false := by
  intro A Q E s k q
  unfold fillsNumberSlot
  dsimp only
  refine wpAny_bind ((looks_clsIn X hc).andThen (f := fun cd => pure cd.mro) .now A _ E s k ?_)
  rw [hm, List.anyM_cons]
  refine wpAny_bind ?_
  dsimp only
  rw [List.anyM_cons]
  refine wpAny_bind (wpAny_bind (looks_findIn X h1 A _ E s k ?_))
  dsimp only
  refine wpAny_pure ?_
  simp only [Bool.false_eq_true, if_false]
  rw [List.anyM_cons]
  refine wpAny_bind (wpAny_bind (looks_findIn X h2 A _ E s k ?_))
  dsimp only
  refine wpAny_pure ?_
  simp only [Bool.false_eq_true, if_false, List.anyM_nil]
  refine wpAny_pure ?_
  simp only [Bool.false_eq_true, if_false]
  rw [List.anyM_cons, o1, o2]
  refine wpAny_bind (wpAny_bind (wpAny_pure (wpAny_bind (wpAny_pure ?_))))
  refine wpAny_pure ?_
  simp only [Option.isSome_none, Bool.false_and, Bool.or_self, Bool.false_eq_true, if_false, List.anyM_nil]
  exact wpAny_pure q
theorem binop1_D {nm : String} {Q : Value → Shared → Prop} (X : K.In s.heap) (I : InstAt s.heap x ox C od) (hb : Looks (model prog w) s.heap (typeOf b) (.ref D)) (hc : selfFirst K C = true)
    (hs : findIn K (.ref C) (PySem.dunder nm) = some (some (.ref f))) (hf : isFn K (.ref f) = true) (fill : Looks (model prog w) s.heap (fillsNumberSlot (.ref D) nm) false)
    (h : wpAny (model prog w) A (call (.ref f) [.ref x, b]) (PySem.W.CmpBack Q) E s) : wpAny (model prog w) A (binaryOp1 nm (.ref x) b) (fun r s' => ∃ v, r = some v ∧ Q v s') E s := by
  obtain ⟨cd, hcd, hm⟩ := any_some hc
  obtain ⟨rest, hm⟩ : ∃ rest, cd.mro = .ref C :: rest := by
    cases q : cd.mro with
    | nil => rw [q] at hm; cases hm
    | cons a r => rw [q] at hm; exact ⟨r, by rw [List.head?_cons] at hm; cases (beq_iff_eq.mp hm); rfl⟩
  have last : ∀ {α : Type} (k : Option Value → Sem α) (P : α → Shared → Prop), (∀ v s', PySem.W.CmpBack Q v s' → wpAny (model prog w) A (k (some v)) P E s') → wpAny (model prog w) A (tryMethod (.ref x) (PySem.dunder nm) b >>= k) P E s := fun k P hk => by
    refine wpAny_bind ?_
    unfold tryMethod
    refine wpAny_bind (special_fn X I hs (beq_iff_eq.mp hf) (wpAny_mono h (fun v s' hv => ?_) fun _ _ e => e))
    cases v <;> first | exact hv.elim | exact wpAny_pure (hk _ _ hv)
  unfold binaryOp1
  refine wpAny_bind (I.type.here (wpAny_bind (hb.here (wpAny_bind ((fills_K X hcd hm hs).here ?_)))))
  cases q : (Value.ref C == Value.ref D) with
  | true =>
    simp only [if_true]
    refine wpAny_bind (wpAny_pure ?_)
    simp only [Bool.and_false, Bool.false_eq_true, if_false, Bool.false_and]
    refine wpAny_bind (wpAny_pure ?_)
    simp only [Bool.false_eq_true, if_false]
    refine last _ _ fun v s' hv => ?_
    cases v <;> first | exact hv.elim | exact wpAny_pure ⟨_, rfl, hv⟩
  | false =>
    simp only [Bool.false_eq_true, if_false]
    refine wpAny_bind (fill.here ?_)
    simp only [Bool.and_false, Bool.false_eq_true, if_false, Bool.false_and]
    refine wpAny_bind (wpAny_pure ?_)
    simp only [Bool.false_eq_true, if_false, if_true]
    refine last _ _ fun v s' hv => ?_
    cases v <;> first | exact hv.elim | exact wpAny_pure ⟨_, rfl, hv⟩
end
end OX
namespace L2
open PySem PySem.Spec PyProof.Rows PySem.SeqAt
/-- the class at D has nothing to say in an operator -/
structure NoNum (K : PySem.W.Frag) (op : Operator) (D : Addr) : Prop where
  cd : ∃ cd, PySem.W.clsIn K D = some cd ∧ cd.mro = [.ref D, .type "object"]
  h1 : PySem.W.findIn K (.ref D) (PySem.dunder op.info.2) = some none
  h2 : PySem.W.findIn K (.ref D) (dunderR op.info.2) = some none
  o1 : typeLookup (.type "object") (PySem.dunder op.info.2) = pure none
  o2 : typeLookup (.type "object") (dunderR op.info.2) = pure none
def rOwnD (K : PySem.W.Frag) (op : Operator) (C D : Addr) (sp : Sp) (E : XK) : R2 := fun x y H Q => ∃ a dx fs b dy gs, x = .ref a ∧ y = .ref b ∧ H a = some (.ins C dx fs) ∧ H b = some (.ins D dy gs) ∧ sp [.ref a, .ref b] H Q E
section
variable {X : Cx} {CX : CXT} {k : Nat} {f C D : Addr} {fd : FuncData} {ps : List Str} {sp : Sp} {E : XK}
theorem op_ownD {op : Operator} (M : OpM X.K op C f) (N : NoNum X.K op D) (O : OwnC X.K D) (F : FnOk X.prog X.w X.K X.mg X.base CX k f fd ps sp) (hr : Room k X.A) (hb : Binds X.K fd ps []) (hx : Passes CX X E) : OpR X (binaryOp op) (rOwnD X.K op C D sp E) := by
  intro pins s σ H x y v u Q I rx ry h
  obtain ⟨a, dx, fs, b, dy, gs, rfl, rfl, ha, hb', hq⟩ := h
  cases rx
  have ry' := ry
  cases ry'
  obtain ⟨mA, J, _⟩ := ins_get I.hok ha
  obtain ⟨od, J, _⟩ := J.look
  have hbt := typeOf_of I ry (O.ty hb')
  obtain ⟨cd, c1, c2⟩ := N.cd
  have hc : wpAny (model X.prog X.w) X.A (call (.ref f) [.ref a, .ref b]) (PySem.W.CmpBack (EP X pins σ Q)) X.xe s :=
    wpAny_mono (callA (vs := [.ref a, .ref b]) F hr rfl hb hx I (.cons rfl (.cons ry .nil)) hq) (fun z s' hz => by
      obtain ⟨v', H', I', rv, q⟩ := id hz
      exact relV_ni rv hz) fun _ _ z => z
  exact OX.binop_of (OX.binop1_D I.kIn J hbt M.self M.hs M.hf (OX.noNumber I.kIn c1 c2 N.h1 N.h2 N.o1 N.o2) hc)
/-- x == o or o == x, o of an own class with an own ==, x of a built-in type -/
def rEqU (K : PySem.W.Frag) (C : Addr) (sp : Sp) : R2 := fun x y H Q => rEqO K C sp false x y H Q ∨ ∃ a dx fs, y = .ref a ∧ H a = some (.ins C dx fs) ∧ BackV K H C x ∧ sp [.ref a, x] H (fun v H' => ∃ b, v = .bl b ∧ Q (.bl b) H') (fun _ _ _ => False)
theorem op_eqU (M : EqM X.K C f) (F : FnOk X.prog X.w X.K X.mg X.base CX k f fd ps sp) (hr : Room (k + 1) X.A) (hb : Binds X.K fd ps []) (hx : Passes CX X (fun _ _ _ => False)) : OpR X (compareOp .Eq) (rEqU X.K C sp) := by
  intro pins s σ H x y v u Q I rx ry h
  rcases h with h | ⟨a, dx, fs, rfl, ha, bv, hq⟩
  · exact op_eqO M F hr hb hx pins s σ H x y v u Q I rx ry h
  cases (show u = Value.ref a from ry)
  obtain ⟨mA, J, _⟩ := ins_get I.hok ha
  obtain ⟨od, J, _⟩ := J.look
  have KI := I.kIn
  have hu : X.A.units < cLine := hr.units0
  have isI : ∀ {T : String}, PySem.W.subIn X.K (.ref C) (.type T) = some false → ∀ (M : Model) (A : Around) (Q : Bool → Shared → Prop) (E : Value → Shared → Prop), Q false s → wpAny M A (isInstance (.ref a) (.type T)) Q E s := fun {T} h M' A' Q' E' q => (J.type.andThen (f := fun t => isSubtype t (.type T)) (PySem.W.looks_subIn KI h)).here q
  have h : wpAny (model X.prog X.w) X.A (call (.ref f) [.ref a, v]) (PySem.W.CmpBack (EP X pins σ Q)) X.xe s :=
    wpAny_mono (callA (vs := [.ref a, x]) F (hr.mono (Nat.le_succ _)) rfl hb hx I (.cons rfl (.cons rx .nil)) hq) (fun z s' hz => by
      obtain ⟨v', H', I', rv, b, e, q⟩ := hz
      subst e
      cases (show z = Value.bool b from rv)
      exact ⟨.bl b, H', I', rfl, q⟩) fun _ _ z => z
  show wpAny (model X.prog X.w) X.A (richCompare .Eq v (.ref a)) (EP X pins σ Q) X.xe s
  cases bv with
  | non hs =>
    cases (show v = Value.none from rx)
    exact eq_back hu KI J (T := "NoneType") rfl PySem.F.slot_NoneType_eq M.hs M.hf hs (fun P E' p => call_gives PySem.F.slot_NoneType_eq rfl PySem.F.entry_NoneType_eq (PySem.F.args_NoneType_eq_2 _ _) (NoneType___eq___none_ref_0 a) p) h
  | bl y hs =>
    cases (show v = Value.bool y from rx)
    exact eq_back hu KI J (T := "bool") rfl PySem.F.slot_bool_eq M.hs M.hf hs (fun P E' p => call_meets PySem.F.slot_bool_eq rfl PySem.F.entry_int_eq (PySem.F.args_int_eq_2 _ _) (bool_eq_inst y a C dx) ⟨J.1, p⟩) h
  | int y hs =>
    obtain ⟨t, rfl⟩ := (show ∃ t, v = Value.int y t from rx)
    exact eq_back hu KI J (T := "int") (typeIs_int _ _ _) PySem.F.slot_int_eq M.hs M.hf hs (fun P E' p => call_meets PySem.F.slot_int_eq (typeIs_int _ _ _) PySem.F.entry_int_eq (PySem.F.args_int_eq_2 _ _) (int_eq_inst y t a C dx) ⟨J.1, p⟩) h
  | str y hs =>
    obtain ⟨t, rfl⟩ := (show ∃ t, v = Value.str y t from rx)
    exact eq_back hu KI J (T := "str") (typeIs_str _ _ _) PySem.F.slot_str_eq M.hs M.hf hs (fun P E' p => call_meets PySem.F.slot_str_eq (typeIs_str _ _ _) PySem.F.entry_str_eq (PySem.F.args_str_eq_2 _ _) (str_eq_inst y t a C dx) ⟨J.1, p⟩) h
  | @lst l xs e hs =>
    cases (show v = Value.ref l from rx)
    obtain ⟨_, its, n, _, _, e1⟩ := I.lstM e
    exact eq_back hu KI J (T := "list") ⟨_, e1, rfl⟩ PySem.F.slot_list_eq M.hs M.hf hs (fun P E' p => call_meets PySem.F.slot_list_eq ⟨_, e1, rfl⟩ PySem.F.entry_list_eq (PySem.F.args_list_eq_2 _ _) (lst_eq_inst l a) ⟨isI hs, p⟩) h
  | @tup l xs e hs =>
    cases (show v = Value.ref l from rx)
    obtain ⟨its, _, pl, _⟩ := I.tuple (.inl (.inl e))
    obtain ⟨o, ho, hc, _⟩ := pl
    exact eq_back hu KI J (T := "tuple") ⟨o, ho, hc⟩ PySem.F.slot_tuple_eq M.hs M.hf hs (fun P E' p => call_meets PySem.F.slot_tuple_eq ⟨o, ho, hc⟩ PySem.F.entry_tuple_eq (PySem.F.args_tuple_eq_2 _ _) (tup_eq_inst l a) ⟨isI hs, p⟩) h
/-- repr of a bool -/
def rReprB : List V → Hp → VK → Prop := fun xs H Q => ∃ b : Bool, xs = [.bl b] ∧ Q (.str (if b then "True" else "False")) H
theorem c_reprB : CallR X (.builtin "repr") rReprB := by
  intro pins s σ H xs us Q I r h
  obtain ⟨b, rfl, q⟩ := h
  obtain ⟨u, rfl, rx⟩ := vals1 r
  cases (show u = Value.bool b from rx)
  exact PySem.P.repr_of_bool ⟨.str (if b then "True" else "False"), H, I.tok _, ⟨_, rfl⟩, q⟩
def rNotN : R2 := fun x y H Q => y = V.non ∧ Q (V.bl (!decide (x = V.non))) H
theorem c_notN : OpR X (compareOp .IsNot) rNotN := op_notN
def rMax2 : List V → Hp → VK → Prop := fun xs H Q => ∃ i j : Int, xs = [.int i, .int j] ∧ Q (.int (if j > i then j else i)) H
theorem c_max2 (hc : X.calm = true) : CallR X (.builtin "max") rMax2 := call_max2 hc
def rMin2 : List V → Hp → VK → Prop := fun xs H Q => ∃ i j : Int, xs = [.int i, .int j] ∧ Q (.int (if j < i then j else i)) H
theorem c_min2 (hc : X.calm = true) : CallR X (.builtin "min") rMin2 := call_min2 hc
end
end L2
namespace AW
open PySem PySem.Spec PyProof.Rows L2
section
variable {c : Cw} {kn : Hp} {n : Nat} {σ : L2.St} {Q : V → Hp → Nat → Prop} {K : PySem.W.Frag} {E : XK} {EA : EAK} {B : List V → Hp → AK → AXK → Prop} {C D : Addr}
theorem r_ownD {op : Operator} {a b dx dy : Addr} {fs gs : List (Str × V)} (hm : MonoX B) (hE : ErrOk c EA E) (ha : kn a = some (.ins C dx fs)) (hb : kn b = some (.ins D dy gs))
    (h : B [.ref a, .ref b] kn (fun v k => Q v k n) (fun cls d k => EA cls d k n)) : W c (rOwnD K op C D (liftX B) E (.ref a) (.ref b)) kn n Q :=
  fun H g Q' q => ⟨a, dx, fs, b, dy, gs, rfl, rfl, g.ex _ _ ha, g.ex _ _ hb, sp_call hm hE h H g Q' q⟩
theorem r_eqUo {x y : V} (h : W c (rEqO K C (liftX B) false x y) kn n Q) : W c (rEqU K C (liftX B) x y) kn n Q := fun H g Q' q => .inl (h H g Q' q)
theorem r_eqUb {a dx : Addr} {fs : List (Str × V)} {x : V} (hm : MonoX B) (ha : kn a = some (.ins C dx fs)) (bv : BackV K kn C x)
    (h : B [.ref a, x] kn (fun v k => ∃ b, v = .bl b ∧ Q (.bl b) k n) (fun _ _ _ => False)) : W c (rEqU K C (liftX B) x (.ref a)) kn n Q :=
  fun H g Q' q => .inr ⟨a, dx, fs, rfl, g.ex _ _ ha, backV_ext g.ex bv, sp_call (EA := fun _ _ _ _ => False) (Q := fun v k n => ∃ b, v = .bl b ∧ Q (.bl b) k n) hm err_no h H g _ fun v kn1 n1 H1 ⟨b, e, hq⟩ g1 => ⟨b, e, q _ _ _ _ hq g1⟩⟩
theorem r_reprB {b : Bool} (q : Q (.str (if b then "True" else "False")) kn n) : W c (rReprB [.bl b]) kn n Q := fun H g _ k => ⟨b, rfl, k _ kn n H q g⟩
theorem r_notN {x : V} (q : Q (.bl (!decide (x = V.non))) kn n) : W c (rNotN x .non) kn n Q := fun H g _ k => ⟨rfl, k _ kn n H q g⟩
theorem r_max2 {i j : Int} (q : Q (.int (if j > i then j else i)) kn n) : W c (rMax2 [.int i, .int j]) kn n Q := fun H g _ k => ⟨i, j, rfl, k _ kn n H q g⟩
theorem r_min2 {i j : Int} (q : Q (.int (if j < i then j else i)) kn n) : W c (rMin2 [.int i, .int j]) kn n Q := fun H g _ k => ⟨i, j, rfl, k _ kn n H q g⟩
theorem w_prop {ta : TE} (hm : MonoX B) (h : W c (ta σ) kn n fun x kn1 n1 => ∃ a dx fs, x = .ref a ∧ kn1 a = some (.ins C dx fs) ∧ B [.ref a] kn1 (fun v k => Q v k n1) (fun _ _ _ => False)) : W c (tProp C (liftX B) [] E ta σ) kn n Q :=
  fun H g Q' q => h H g _ fun x kn1 n1 H1 ⟨a, dx, fs, e, ha, hb⟩ g1 => ⟨a, dx, fs, e, g1.ex _ _ ha, sp_call (EA := fun _ _ _ _ => False) hm err_no hb H1 g1 Q' q⟩
end
end AW

/-! iter(t) of a tuple; list(o), o of an own class whose __iter__ gives that, with a __len__ of its own. -/
namespace L2
open PySem PySem.Spec PyProof.Rows
def TitO (t it : Addr) : HO := .ext fun h => h.IsTupleIter it t 0
theorem titO_ok {P : Program} {w : World} {H : Hp} {h : Heap} {t it : Addr} (e : h.IsTupleIter it t 0) : ObjOk P w H h it (TitO t it) := ⟨e, (let ⟨o, ho, _⟩ := e; ⟨o, ho⟩), fun h1 h2 q k => let ⟨o, ho, r⟩ := q; ⟨o, k _ ho, r⟩⟩
def rIterT (K : PySem.W.Frag) : List V → Hp → VK → Prop := fun xs H Q => ∃ (t : Addr) (zs : List V), xs = [.ref t] ∧ SqT K H t zs ∧ ∀ it, H it = none → Q (.ref it) (upd H it (TitO t it))
section
variable {X : Cx}
theorem c_iterT : CallR X (.builtin "iter") (rIterT X.K) := by
  intro pins s σ H xs us Q I r h
  obtain ⟨t, zs, rfl, hq, q⟩ := h
  obtain ⟨u, rfl, rx⟩ := vals1 r
  cases (show u = Value.ref t from rx)
  obtain ⟨its, rv, pl, hz⟩ := I.tuple hq
  refine Calls.call_function_entry (by decide +kernel) (by decide +kernel) PySem.W.kdk_entry_iter (PySem.W.kdk_args_iter _) ?_
  unfold Builtin.«iter»
  refine wpAny_bind (m := someArgs "iter" 1 2 _) (wpAny_of_eq (a := [Value.ref t]) (by first | rfl | kernel_rfl!) ?_)
  show wpAny _ _ (pyIter (.ref t) >>= _) _ _ _
  refine wpAny_bind (wpAny_pyIter_tuple pl ?_)
  refine wpAny_pure ⟨_, rfl, ?_⟩
  exact ⟨.ref s.heap.objs.size, _, I.laid (t' := s.toks) (fun b u e => Heap.get?_push_of_some _ e) (Nat.le_refl _) (titO_ok ⟨_, Heap.get?_push_size _ rfl, rfl, rfl⟩), rfl, q _ (I.hok.fresh (Nat.le_refl _))⟩
/-- the promise of such an __iter__ -/
def spIterT (C : Addr) (f : Str) : Sp := fun vs H Q _ => ∃ a dx fs t zs, vs = [.ref a] ∧ H a = some (.ins C dx fs) ∧ fs.lookup f = some (.ref t) ∧ H t = some (.tup zs) ∧ ∀ it, H it = none → Q (.ref it) (upd H it (TitO t it))
variable {kI kL n : Nat} {C fI fL S a t : Addr} {fdI fdL : FuncData} {psI psL : List Str} {spL : Sp} {f : Str} {A1 : Around} {pins : List (Addr × Obj)} {σ : St} {HA : Hp} {sA : Shared} {dx : Addr} {fs : List (Str × V)} {zs : List V} {Rs : Result → Shared → Prop}
/-- what the own __len__ answers, wherever more is known -/
def TellsLen (spL : Sp) (a : Addr) (H : Hp) (n : Nat) : Prop := ∀ H', (∀ b o, H b = some o → H' b = some o) → spL [.ref a] H' (fun v H2 => v = .int (n : Int) ∧ ∀ b o, H' b = some o → H2 b = some o) (fun _ _ _ => False)
theorem lot_hint {Q : Bool → Shared → Prop} {E : Value → Shared → Prop} {H : Hp} {s : Shared} (ML : SpM X.K C fL "__len__") (FL : FnOk X.prog X.w X.K X.mg X.base CX0 kL fL fdL psL spL) (bL : Binds X.K fdL psL []) (hr : Room (kL + 1) A1) (hfr : A1.frames = X.A.frames)
    (I : Inv X pins σ H s) (ha : H a = some (.ins C dx fs)) (hz : n ≤ 1000) (hL : TellsLen spL a H n)
    (q : ∀ k s' H', Inv X pins σ H' s' → Un (frs X.stack) [] H H' s.heap s'.heap → s'.os = s.os → (∀ b o, H b = some o → H' b = some o) → Q k s') : wpAny (model X.prog X.w) A1 (Builtin.List.listLengthHint (.ref a)) Q E s := by
  obtain ⟨mA, J, _⟩ := ins_get I.hok ha
  obtain ⟨od, J, _⟩ := J.look
  obtain ⟨m0, hF⟩ := I.fr
  unfold Builtin.List.listLengthHint
  refine wpAny_bind (wpAny_bind (J.type.here ((PySem.W.looks_findIn I.kIn ML.hs).here ?_)))
  refine PySem.W.KFB.if_not rfl ?_
  dsimp only
  refine wpAny_ite_split (fun _ => ?_) (fun z => absurd rfl z)
  refine wpAny_bind (wpAny_rule ?_)
  have e0 : Env0 X.prog X.w X.K X.mg X.base A1.in1 X.stack s H := by
    have e := I.env0
    exact ⟨hfr.trans e.frames, e.mod, e.bs, e.bsz, e.funs, e.frf, e.hok, e.bare⟩
  have r2 : Vals [V.ref a] [Value.ref a] := .cons rfl .nil
  have hsp := hL H fun _ _ z => z
  have hlen := FL.len _ _ _ _ hsp
  refine wpAny_bind (wpAny_attempt (PySem.W.len_K hF I.ok.mod.kin J ML.hs ML.hf (wpAny_call (codeAny_mono (FL.run A1.in1 X.stack s H ⟨[.ref a], []⟩ [.ref a] [.ref a] _ _ hr.in1 e0 (by
    have := bL s [.ref a] I.kIn (by simpa using hlen)
    simpa using this) r2 hsp) fun r s1 hq1 => ?_))))
  cases r with
  | error e => exact hq1.elim
  | ok fl =>
    cases fl with
    | next => exact False.elim hq1
    | brk => exact False.elim hq1
    | cont => exact False.elim hq1
    | ret u =>
      obtain ⟨v, H1, os1, bare1, un1, hok1, rv, ev, ex1⟩ := (show CE _ _ _ _ _ _ _ _ from hq1)
      subst ev
      obtain ⟨tk, rfl⟩ := (show ∃ tk, u = Value.int (n : Int) tk from rv)
      obtain ⟨h1, g1, d1, t1, o1⟩ := s1
      cases (show o1 = s.os from os1)
      have I1 : Inv X pins σ H1 _ := I.call (h' := h1) (g' := g1) (d' := d1) (t' := t1 + 1) (ch := []) un1 hok1 bare1 (fun b z => absurd z (by simp))
      refine ⟨⟨Int.natCast_nonneg _, by omega⟩, ?_⟩
      refine wpAny_bind (m := asInt? (.int (n : Int) _)) (wpAny_pure ?_)
      dsimp only
      have small : Builtin.List.listTooLong ((n : Int)).toNat = false := by
        rw [Int.toNat_natCast]
        unfold Builtin.List.listTooLong
        exact decide_eq_false (by rw [sizeLine_eq]; omega)
      refine PySem.W.KFB.if_not small ?_
      exact wpAny_pure (q _ _ H1 I1 un1 rfl ex1)
theorem items_same {its : List Value} {acc : Array Value} (h : ItemsOf (fun i v => its.toArray[i]? = some v) acc its.toArray.size) : acc.toList = its := by
  refine List.ext_getElem? fun j => ?_
  have h1 : acc.size = its.length := h.1.trans List.size_toArray
  cases e : acc[j]? with
  | some u =>
    have q : its.toArray[j]? = some u := h.2 j u e
    rw [List.getElem?_toArray] at q
    rw [Array.getElem?_toList, e, q]
  | none =>
    have l : acc.size ≤ j := Array.getElem?_eq_none_iff.mp e
    rw [Array.getElem?_toList, e, List.getElem?_eq_none (by omega)]
theorem lot_extend (MI : SpM X.K C fI "__iter__") (FI : FnOk X.prog X.w X.K X.mg X.base CX0 kI fI fdI psI (spIterT C f)) (bI : Binds X.K fdI psI []) (ML : SpM X.K C fL "__len__") (FL : FnOk X.prog X.w X.K X.mg X.base CX0 kL fL fdL psL spL) (bL : Binds X.K fdL psL [])
    (rI : Room kI A1.in1) (rL : Room (kL + 1) A1.in1) (hfr : A1.in1.frames = X.A.frames) (IA : Inv X pins σ HA sA) (ha : HA a = some (.ins C dx fs)) (hl : fs.lookup f = some (.ref t)) (ht : HA t = some (.tup zs)) (hz : zs.length ≤ 1000)
    (hL : TellsLen spL a HA zs.length) (hS : HA S = some (.lst [])) (hdone : ∀ s5 H5, Inv X pins σ H5 s5 → (∀ b o, b ≠ S → HA b = some o → H5 b = some o) → H5 S = some (.lst zs) → Rs (.ok (.ret .none)) s5) :
    wpAny (model X.prog X.w) A1.in1 (Builtin.List.listExtendWith (.ref S) (.ref a) .none)
      (fun fin s' => match fin with | .done g => Rs (.ok g) s' | .again cd => cd.quiet = true ∧ codeAny (model X.prog X.w) A1 cd Rs s') (fun e s' => Rs (.error e) s') sA := by
  have neq : S ≠ a := fun z => by rw [z, ha] at hS; cases hS
  obtain ⟨mA, J, _⟩ := ins_get IA.hok ha
  obtain ⟨od, J, _⟩ := J.look
  obtain ⟨m0, hF⟩ := IA.fr
  unfold Builtin.List.listExtendWith
  refine wpAny_bind (J.type.here ?_)
  have z1 : Builtin.List.listSameRef (.ref S) (.ref a) = false := by simp [Builtin.List.listSameRef, neq]
  have z2 : ((Value.ref C) == (Value.type "list")) = false := rfl
  have z3 : ((Value.ref C) == (Value.type "tuple")) = false := rfl
  simp only [z1, z2, z3, Bool.or_false, Bool.false_eq_true, if_false]
  refine wpAny_bind (PySem.W.owit_iter hF IA.ok.mod.kin J MI.hs MI.hf ?_)
  have e0 : Env0 X.prog X.w X.K X.mg X.base A1.in1 X.stack sA HA := by
    have e := IA.env0
    exact ⟨hfr.trans e.frames, e.mod, e.bs, e.bsz, e.funs, e.frf, e.hok, e.bare⟩
  have rv0 : Vals [V.ref a] [Value.ref a] := .cons rfl .nil
  have hsp : spIterT C f [.ref a] HA (fun v H' => ∃ it, HA it = none ∧ v = .ref it ∧ H' = upd HA it (TitO t it)) (fun _ _ _ => False) := ⟨a, dx, fs, t, zs, rfl, ha, hl, ht, fun it hi => ⟨it, hi, rfl, rfl⟩⟩
  have hlen := FI.len _ _ _ _ hsp
  refine wpAny_call (codeAny_mono (FI.run A1.in1 X.stack sA HA ⟨[.ref a], []⟩ [.ref a] [.ref a] _ _ rI e0 (by
    have z := bI sA [.ref a] IA.kIn (by simpa using hlen)
    simpa using z) rv0 hsp) fun r s1 hr1 => ?_)
  cases r with
  | error e => exact hr1.elim
  | ok fl =>
    cases fl with
    | next => exact False.elim hr1
    | brk => exact False.elim hr1
    | cont => exact False.elim hr1
    | ret u =>
      obtain ⟨v, H1, os1, bare1, un1, hok1, rv, it, hit, ev, eH⟩ := (show CE _ _ _ _ _ _ _ _ from hr1)
      subst ev
      subst eH
      cases (show u = Value.ref it from rv)
      obtain ⟨h1, g1, d1, t1, o1⟩ := s1
      cases (show o1 = sA.os from os1)
      have I1 : Inv X pins σ (upd HA it (TitO t it)) _ := IA.call (h' := h1) (g' := g1) (d' := d1) (t' := t1) (ch := []) un1 hok1 bare1 (fun b z => absurd z (by simp))
      have ex1 : ∀ b o, HA b = some o → upd HA it (TitO t it) b = some o := fun b o e => by rw [upd_ne (ne_of_none e hit)]; exact e
      have ti1 : h1.IsTupleIter it t 0 := (hok1 it _ upd_same).1
      show PySem.W.OwitIt _ _ _ _ _ _
      unfold PySem.W.OwitIt
      refine wpAny_specialOf (name := Str.ofString "__next__") (s := ⟨h1, g1, d1, t1, sA.os⟩) ti1.typeIs PySem.F.slot_tuple_iterator_next.lookup ?_
      dsimp only
      refine wpAny_bind (wpAny_holding (lot_hint ML FL bL rL hfr I1 (ex1 _ _ ha) hz (fun H' e => hL H' fun b o z => e b o (ex1 b o z)) fun k s2 H2 I2 un2 os2 ex2 => ?_))
      have nSi : S ≠ it := ne_of_none hS hit
      have hS2 : H2 S = some (.lst []) := ex2 _ _ (ex1 _ _ hS)
      have hT2 : H2 it = some (TitO t it) := ex2 _ _ upd_same
      have ht2 : H2 t = some (.tup zs) := ex2 _ _ (ex1 _ _ ht)
      obtain ⟨its, rvs, pl, hzz⟩ := I2.tuple (.inl (.inl ht2))
      have nti : t ≠ it := ne_of_none ht hit
      have nSt : S ≠ t := fun z => by rw [z, ht] at hS; cases hS
      have hzl := rvs.length
      have un12 : Un (frs X.stack) [] HA H2 sA.heap s2.heap := un1.trans un2
      have nit : sA.heap.get? it = none := by
        cases z : sA.heap.get? it with
        | none => rfl
        | some o =>
          have := un1.free it o z hit (by simp)
          rw [upd_same] at this
          cases this
      have loop : ∀ (s4 : Shared) (c4 : Nat), (∀ b o, b ≠ S → s2.heap.get? b = some o → s4.heap.get? b = some o) → s4.heap.get? S = some { cls := .type "list", dict := none, data := .seq #[] c4, slots := #[] } → s4.gens = s2.gens → s4.os = s2.os →
          codeAny (model X.prog X.w) A1 (.builtin "list.extend.loop" ⟨[.ref S, .ref it, .none], []⟩) Rs s4 := by
        intro s4 c4 k4 e4 q4 o4
        have hh : A1.in1.handled = none := rI.hd
        have W := (Walks.tuple (prog := X.prog) (w := X.w) (A := A1.in1) hh it t nti its.toArray).toS
        have st0 : s4.heap.IsTupleIter it t 0 ∧ s4.heap.IsTuple t its.toArray := by
          refine ⟨?_, ?_⟩
          · obtain ⟨o, ho, r⟩ := (I2.hok it _ hT2).1
            exact ⟨o, k4 _ _ (Ne.symm nSi) ho, r⟩
          · obtain ⟨o, ho, r⟩ := pl
            exact ⟨o, k4 _ _ (Ne.symm nSt) ho, r⟩
        refine codeAny_extend_loopS W (by rw [List.size_toArray, sizeLine_eq]; omega) S (by simp [nSi, nSt]) .none _ 0 s4 #[] c4 rfl (Nat.zero_le _) st0 e4 (ItemsOf.nil _) fun s5 acc c5 mv e5 hacc => ?_
        have eacc : acc.toList = its := items_same hacc
        have k5 : ∀ b o, b ≠ S → b ≠ it → s2.heap.get? b = some o → s5.heap.get? b = some o := fun b o n1 n2 e => mv.heap b o (by simp [n1, n2]) (k4 b o n1 e)
        have un5 : Un (frs X.stack) [] HA (upd (del H2 it) S (.lst zs)) sA.heap s5.heap := by
          have nS : ∀ b, HA b = none → b ≠ S := fun b n z => by rw [z, hS] at n; cases n
          have nI : ∀ b o, sA.heap.get? b = some o → b ≠ it := fun b o e z => by rw [z, nit] at e; cases e
          have old : ∀ b y, HA b = some y → (∀ xs, y ≠ .lst xs) → upd (del H2 it) S (.lst zs) b = some y := fun b y e n => by
            rw [upd_ne (fun z => by rw [z, hS] at e; cases e; exact n _ rfl), del_ne (ne_of_none e hit)]
            exact ex2 _ _ (ex1 _ _ e)
          refine ⟨fun b o e n hb hx => k5 b o (nS b n) (nI b o e) (un12.keep b o e n hb hx), fun b o e n hb hx => ?_, fun b o e n hx => ?_, fun b o e hx => ?_, fun b xs e => old b _ e (fun _ z => nomatch z), fun b o y e => old b _ e (fun _ z => nomatch z), fun b ps e => ⟨#[], ?_⟩⟩
          · obtain ⟨sl, e'⟩ := un12.slot b o e n hb hx
            exact ⟨sl, k5 b _ (nS b n) (nI b o e) e'⟩
          · rw [upd_ne (nS b n), del_ne (nI b o e)]; exact un12.free b o e n hx
          · by_cases z : b = S
            · rw [z]; exact ⟨_, e5⟩
            · obtain ⟨o', e'⟩ := un12.there b o e hx
              exact ⟨o', k5 b o' z (nI b o e) e'⟩
          · rw [old b _ e (fun _ z => nomatch z)]; simp
        have hok5 : HOk X.prog X.w (upd (del H2 it) S (.lst zs)) s5.heap := fun b y e => by
          by_cases z : b = S
          · rw [z, upd_same] at e
            cases e
            rw [z]
            refine ⟨by rw [sizeLine_eq]; omega, its, c5, rvs, ?_⟩
            rw [← eacc, Array.toArray_toList]
            exact e5
          · rw [upd_ne z] at e
            have n2 : b ≠ it := fun w => by rw [w, del_same] at e; cases e
            rw [del_ne n2] at e
            have same : ∀ c y, H2 c = some y → (∀ xs, y ≠ .lst xs) → (∀ g, y ≠ .ext g) → upd (del H2 it) S (.lst zs) c = some y := fun c y e n m => by
              rw [upd_ne (fun z => by rw [z, hS2] at e; cases e; exact n _ rfl), del_ne (fun z => by rw [z, hT2] at e; cases e; exact m _ rfl)]
              exact e
            refine (I2.hok b y e).stay (fun c x hc q => k5 c x ?_ ?_ q) (fun c q => same c _ q (fun _ w => nomatch w) (fun _ w => nomatch w)) fun c xs q => same c _ q (fun _ w => nomatch w) (fun _ w => nomatch w)
            · rcases hc with hc | hc
              · rw [hc]; exact z
              · exact fun w => by rw [w, hS2] at hc; cases hc
            · rcases hc with hc | hc
              · rw [hc]; exact n2
              · exact fun w => by rw [w, hT2] at hc; cases hc
        obtain ⟨h5, g5, d5, t5, o5⟩ := s5
        have bare5 : AllBare g5 := by
          have : g5 = s4.gens := mv.gens
          rw [this, q4]
          exact I2.bare
        cases (show o5 = sA.os from (mv.os.trans o4).trans os2)
        refine hdone _ _ (IA.call (h' := h5) (g' := g5) (d' := d5) (t' := t5) (ch := []) un5 hok5 bare5 (fun b z => absurd z (by simp))) (fun b o nb e => ?_) upd_same
        rw [upd_ne nb, del_ne (ne_of_none e hit)]
        exact ex2 _ _ (ex1 _ _ e)
      obtain ⟨z4, its4, k4, r4, hl4, e4⟩ := I2.lstM hS2
      cases r4
      refine wpAny_ite_split (fun _ => ?_) (fun _ => wpAny_pure ⟨plainId_quiet PySem.F.plain_extend_loop _, loop s2 k4 (fun _ _ _ e => e) e4 rfl rfl⟩)
      refine wpAny_bind (wpAny_rule (wpAny_bind ?_))
      show wpAny _ _ (updateSeq S (·.push .none) >>= fun _ => updateSeq S (·.pop)) _ _ _
      refine wpAny_bind (wpAny_updateSeq e4 rfl ?_)
      have q1 := PySem.IsL.update e4 (·.push Value.none)
      refine wpAny_updateSeq q1 rfl ?_ (by show 1 ≤ sizeLine; rw [sizeLine_eq]; decide) (by show 0 ≤ sizeLine + 1; exact Nat.zero_le _)
      have q2 := PySem.IsL.update q1 (·.pop)
      refine wpAny_pure ⟨plainId_quiet PySem.F.plain_extend_loop _, loop _ _ (fun b o nb e => ?_) q2 rfl rfl⟩
      exact (Heap.get?_update_other _ _ (Ne.symm nb)).trans ((Heap.get?_update_other _ _ (Ne.symm nb)).trans e)
/-- list(o) -/
def rListOT (C : Addr) (f : Str) (spL : Sp) : List V → Hp → VK → Prop := fun xs H Q => ∃ a dx fs t zs, xs = [.ref a] ∧ H a = some (.ins C dx fs) ∧ fs.lookup f = some (.ref t) ∧ H t = some (.tup zs) ∧ zs.length ≤ 1000 ∧ TellsLen spL a H zs.length ∧
  ∀ q H', H q = none → (∀ b o, H b = some o → H' b = some o) → H' q = some (.lst zs) → Q (.ref q) H'
theorem c_listOT (MI : SpM X.K C fI "__iter__") (FI : FnOk X.prog X.w X.K X.mg X.base CX0 kI fI fdI psI (spIterT C f)) (bI : Binds X.K fdI psI []) (ML : SpM X.K C fL "__len__") (FL : FnOk X.prog X.w X.K X.mg X.base CX0 kL fL fdL psL spL) (bL : Binds X.K fdL psL [])
    (rI : Room (kI + 2) X.A) (rL : Room (kL + 3) X.A) : CallR X (.type "list") (rListOT C f spL) := by
  intro pins s σ H xs us Q I rv h
  obtain ⟨a, dx, fs, t, zs, rfl, ha, hl, ht, hz, hL, hq⟩ := h
  obtain ⟨u, rfl, ru⟩ := vals1 rv
  cases (show u = Value.ref a from ru)
  refine callType_codes (Q₁ := fun ob z => ob = .ref s.heap.objs.size ∧ z = { s with heap := s.heap.push { cls := .type "list", data := .seq #[] } })
    PySem.F.called_list (PySem.F.typeCall_list_1 _) PySem.F.entry_list_init (code_list_new _ ⟨rfl, rfl⟩) fun ob z hoz => ?_
  obtain ⟨rfl, rfl⟩ := hoz
  have gS : (s.heap.push { cls := .type "list", data := .seq #[] }).get? s.heap.objs.size = some { cls := .type "list", data := .seq #[] } := Heap.get?_push_size _ rfl
  refine ⟨⟨_, gS, rfl⟩, PySem.F.args_list_init_2 _ _, ?_⟩
  have nS : H s.heap.objs.size = none := I.hok.fresh (Nat.le_refl _)
  have J1 : Inv X pins σ (upd H s.heap.objs.size (.lst [])) { s with heap := s.heap.push { cls := .type "list", data := .seq #[] } } := I.lnew (its := []) (t' := s.toks) .nil (Nat.zero_le _)
  show wpAny _ _ (do
    let old ← Builtin.List.listItems (.ref s.heap.objs.size)
    Builtin.List.listUpdate (.ref s.heap.objs.size) (fun _ => #[])
    letGo old.toList.reverse
    Builtin.List.listExtendWith (.ref s.heap.objs.size) (.ref a) .none) _ _ _
  refine wpAny_bind ?_
  unfold Builtin.List.listItems
  refine wpAny_bind (wpAny_seqItems gS rfl (wpAny_pure ?_))
  show wpAny _ _ (updateSeq s.heap.objs.size (fun _ => #[]) >>= fun _ =>
    letGo (#[] : Array Value).toList.reverse >>= fun _ =>
    Builtin.List.listExtendWith (.ref s.heap.objs.size) (.ref a) .none) _ _ _
  refine wpAny_bind (wpAny_updateSeq gS rfl ?_)
  have J2 := J1.lset (f := fun _ => #[]) (its := []) (its' := []) (ys := []) (t' := s.toks) upd_same gS rfl .nil (Nat.zero_le _)
  rw [upd_upd] at J2
  refine wpAny_bind (wpAny_letGo ?_)
  have old : ∀ b o, H b = some o → upd H s.heap.objs.size (.lst []) b = some o := fun b o e => by rw [upd_ne (ne_of_none e nS)]; exact e
  exact lot_extend (A1 := X.A.in1) (Rs := wants (fun r z => r = .none ∧ EP X pins σ Q (.ref s.heap.objs.size) z) X.xe) MI FI bI ML FL bL (Room.in1 (Room.in1 rI)) (Room.in1 (Room.in1 rL)) rfl J2 (old _ _ ha) hl (old _ _ ht) hz
    (fun H' e => hL H' fun b o z => e b o (old b o z)) upd_same
    (fun s5 H5 I5 e5 q5 => ⟨rfl, .ref s.heap.objs.size, H5, I5, rfl, hq _ H5 nS (fun b o z => e5 b o (ne_of_none z nS) (old b o z)) q5⟩)
end
end L2

/-! for x in o, o of an own class whose __iter__ gives iter(t), t a tuple of its: the iterator is young. -/
namespace L2
open PySem PySem.Spec PyProof.Rows
/-- a promise that may tell the heap's size at the entry -/
structure FnN (P : Program) (w : World) (K : PySem.W.Frag) (mg : Str → Option Value) (base : Heap) (CX : CXT) (k : Nat) (f : Addr) (fd : FuncData) (ps : List Str) (sp : Nat → Sp) : Prop where
  len : ∀ n vs H Q E, sp n vs H Q E → vs.length = ps.length
  run : ∀ (A : Around) (outer : List Env) (s : Shared) (H : Hp) (args : Args) (us : List Value) (vs : List V) (Q : VK) (E : XK), Room k A → Env0 P w K mg base A outer s H → BindsTo s fd args (ps.zip us) → Vals vs us → sp s.heap.objs.size vs H Q E →
    codeAny (model P w) A (.call (.ref f) args) (CR CX outer P w H s Q E) s
theorem Fun.okN {P : Program} {w : World} {K : PySem.W.Frag} {mg : Str → Option Value} {base : Heap} {x qual : Str} {st : Stmt} {f : Addr} {fd : FuncData} {N ps : List Str} {k : Nat} {sp : Nat → Sp} (F : Fun K x qual st f fd) (S : FnScope N ps (defScope st)) (len : ∀ n vs H Q E, sp n vs H Q E → vs.length = ps.length)
    (hb : ∀ (cdv : Value) (A : Around) (outer : List Env) (s : Shared) (H : Hp) (vs : List V) (Q : VK) (E : XK), Room k (A.deeper (envOfC qual (defScope st) s.heap.objs.size f cdv)) → sp s.heap.objs.size vs H Q E →
      ∃ t, PSs (cxOf CX0 P w K mg base N qual (defScope st) f cdv A outer s H E).nox (defBody st) t ∧ t { nx := fun _ H' => Q .non H', rt := Q } (start N vs) H) : FnN P w K mg base CX0 (k + 1) f fd ps sp := by
  obtain ⟨oc, od, kV, doc, pm, an, cdv, ct, osl, rfl, lk, hcd⟩ := F.ex
  refine ⟨len, fun A outer s H args us vs Q E hr e0 hbd r hsp => LamX.run_ofS lk hcd S hr e0 hbd r (len _ _ _ _ _ hsp) fun hr' => ?_⟩
  obtain ⟨t, h, q⟩ := hb cdv A outer s H vs Q E hr' hsp
  exact ⟨t, h.nox, q⟩
def rIterTN (K : PySem.W.Frag) (n : Nat) : List V → Hp → VK → Prop := fun xs H Q => ∃ (t : Addr) (zs : List V), xs = [.ref t] ∧ SqT K H t zs ∧ ∀ it, H it = none → n ≤ it → Q (.ref it) (upd H it (TitO t it))
section
variable {X : Cx}
theorem c_iterTN : CallR X (.builtin "iter") (rIterTN X.K X.s_0.heap.objs.size) := by
  intro pins s σ H xs us Q I r h
  obtain ⟨t, zs, rfl, hq, q⟩ := h
  obtain ⟨u, rfl, rx⟩ := vals1 r
  cases (show u = Value.ref t from rx)
  obtain ⟨its, rv, pl, hz⟩ := I.tuple hq
  refine Calls.call_function_entry (by decide +kernel) (by decide +kernel) PySem.W.kdk_entry_iter (PySem.W.kdk_args_iter _) ?_
  unfold Builtin.«iter»
  refine wpAny_bind (m := someArgs "iter" 1 2 _) (wpAny_of_eq (a := [Value.ref t]) (by first | rfl | kernel_rfl!) ?_)
  show wpAny _ _ (pyIter (.ref t) >>= _) _ _ _
  refine wpAny_bind (wpAny_pyIter_tuple pl (wpAny_pure ⟨_, rfl, ?_⟩))
  exact ⟨.ref s.heap.objs.size, _, I.laid (t' := s.toks) (fun b u e => Heap.get?_push_of_some _ e) (Nat.le_refl _) (titO_ok ⟨_, Heap.get?_push_size _ rfl, rfl, rfl⟩), rfl, q _ (I.hok.fresh (Nat.le_refl _)) I.sz⟩
def spIterN (C : Addr) (f : Str) : Nat → Sp := fun n vs H Q _ => ∃ a dx fs t zs, vs = [.ref a] ∧ H a = some (.ins C dx fs) ∧ fs.lookup f = some (.ref t) ∧ H t = some (.tup zs) ∧ ∀ it, H it = none → n ≤ it → Q (.ref it) (upd H it (TitO t it))
theorem FnN.plain {P : Program} {w : World} {K : PySem.W.Frag} {mg : Str → Option Value} {base : Heap} {k : Nat} {f C : Addr} {fd : FuncData} {ps : List Str} {g : Str} (F : FnN P w K mg base CX0 k f fd ps (spIterN C g)) : FnOk P w K mg base CX0 k f fd ps (spIterT C g) :=
  ⟨fun vs H Q E h => F.len 0 vs H Q E (let ⟨a, dx, fs, t, zs, h1, h2, h3, h4, q⟩ := h; ⟨a, dx, fs, t, zs, h1, h2, h3, h4, fun it hi _ => q it hi⟩),
   fun A outer s H args us vs Q E hr e0 hb r h => F.run A outer s H args us vs Q E hr e0 hb r (let ⟨a, dx, fs, t, zs, h1, h2, h3, h4, q⟩ := h; ⟨a, dx, fs, t, zs, h1, h2, h3, h4, fun it hi _ => q it hi⟩)⟩
/-- for .. in e, e of such a class -/
def iOwnT (K : PySem.W.Frag) (C : Addr) (f : Str) (te : TE) : TI := fun σ H R => te σ H fun x H1 => ∃ a dx fs t zs, x = .ref a ∧ H1 a = some (.ins C dx fs) ∧ fs.lookup f = some (.ref t) ∧ H1 t = some (.tup zs) ∧ R (Itt K t) H1
variable {kI : Nat} {C fI : Addr} {fdI : FuncData} {psI : List Str} {f : Str} {e tg : Expr} {te : TE}
theorem pi_ownT (MI : SpM X.K C fI "__iter__") (FI : FnN X.prog X.w X.K X.mg X.base CX0 kI fI fdI psI (spIterN C f)) (bI : Binds X.K fdI psI []) (rI : Room kI X.A) (he : PE X e te) : PI X tg e (iOwnT X.K C f te) := by
  refine ⟨fun pins s σ H R I h => ?_⟩
  refine thn (he.run pins s σ H _ I h) fun v s0 ⟨x, HA, IA, rx, a, dx, fs, t, zs, ex, ha, hl, ht, q⟩ => ?_
  subst ex
  cases (show v = Value.ref a from rx)
  obtain ⟨mA, J, _⟩ := ins_get IA.hok ha
  obtain ⟨od, J, _⟩ := J.look
  obtain ⟨m0, hF⟩ := IA.fr
  refine PySem.W.owit_iter hF IA.ok.mod.kin J MI.hs MI.hf ?_
  have rv0 : Vals [V.ref a] [Value.ref a] := .cons rfl .nil
  have hsp : spIterN C f s0.heap.objs.size [.ref a] HA (fun v H' => ∃ it, HA it = none ∧ s0.heap.objs.size ≤ it ∧ v = .ref it ∧ H' = upd HA it (TitO t it)) (fun _ _ _ => False) := ⟨a, dx, fs, t, zs, rfl, ha, hl, ht, fun it hi hn => ⟨it, hi, hn, rfl, rfl⟩⟩
  have hlen := FI.len _ _ _ _ _ hsp
  refine wpAny_call (codeAny_mono (FI.run X.A X.stack s0 HA ⟨[.ref a], []⟩ [.ref a] [.ref a] _ _ rI IA.env0 (by
    have z := bI s0 [.ref a] IA.kIn (by simpa using hlen)
    simpa using z) rv0 hsp) fun r s1 hr1 => ?_)
  cases r with
  | error e => exact hr1.elim
  | ok fl =>
    cases fl with
    | next => exact False.elim hr1
    | brk => exact False.elim hr1
    | cont => exact False.elim hr1
    | ret u =>
      obtain ⟨v, H1, I1, rv, it, hit, hy, ev, eH⟩ := IA.after hr1
      subst ev
      subst eH
      cases (show u = Value.ref it from rv)
      have ti1 : s1.heap.IsTupleIter it t 0 := (I1.hok it _ upd_same).1
      show PySem.W.OwitIt _ _ _ _ _ _
      unfold PySem.W.OwitIt
      refine wpAny_specialOf (name := Str.ofString "__next__") ti1.typeIs PySem.F.slot_tuple_iterator_next.lookup ?_
      dsimp only
      have I2 := ItX.inv_drop I1 upd_same
      have fp := ItX.inv_fp I1 upd_same (Nat.le_trans IA.sz hy)
      rw [ItX.dropH_upd hit] at I2 fp
      exact ⟨it, [it], _, _, HA, rfl, I2, turn_tuple t it, ti1, fun b hb => by rw [List.mem_singleton.mp hb]; exact fp, q⟩
end
end L2

/-! Loops and comprehensions over what is known: lists, tuples, ranges, own classes. -/
namespace AW
open PySem PySem.Spec PyProof.Rows L2
/-- what an iterator gives, as long as ka holds -/
def Gives (J : It) (xs : List V) (ka : Hp → Prop) : Prop := ∀ kn H, Ext kn H → ka kn →
  (∀ i, i < xs.length → J.go i H) ∧ (∀ i, xs.length ≤ i → J.stop i H) ∧ ∀ i x H', J.yld i H x H' → H' = H ∧ (i < xs.length → xs[i]? = some x)
def WI (c : Cw) (wi : Hp → (It → Hp → Prop) → Prop) (kn : Hp) (n : Nat) (R : It → Hp → Nat → Prop) : Prop :=
  ∀ H, Good c kn n H → ∀ R' : It → Hp → Prop, (∀ J kn' n' H', R J kn' n' → Good c kn' n' H' → R' J H') → wi H R'
section
variable {K : PySem.W.Frag} {a : Addr} {xs : List V}
theorem gives_tup : Gives (Itt K a) xs fun kn => kn a = some (.tup xs) := fun kn H e h =>
  ⟨fun i hi => ⟨xs, xs[i], sqt (e _ _ h), List.getElem?_eq_getElem hi⟩, fun i hi => ⟨xs, sqt (e _ _ h), hi⟩, fun i x H' y => ⟨y.1, fun _ => y.2 xs (sqt (e _ _ h))⟩⟩
theorem gives_lst : Gives (Itl K a) xs fun kn => kn a = some (.lst xs) := fun kn H e h =>
  ⟨fun i hi => ⟨xs, xs[i], sql (e _ _ h), List.getElem?_eq_getElem hi⟩, fun i hi => ⟨xs, sql (e _ _ h), hi⟩, fun i x H' y => ⟨y.1, fun _ => y.2 xs (sql (e _ _ h))⟩⟩
theorem gives_rng {lo : Int} {m : Nat} : Gives (Itr lo m) ((List.range m).map fun i => V.int (lo + (i : Nat))) fun _ => True := fun kn H e h =>
  ⟨fun i hi => by rw [List.length_map, List.length_range] at hi; exact hi, fun i hi => by rw [List.length_map, List.length_range] at hi; exact hi,
   fun i x H' y => ⟨y.1, fun hi => by rw [List.length_map, List.length_range] at hi; rw [List.getElem?_map, List.getElem?_range hi, y.2]; rfl⟩⟩
variable {c : Cw} {kn : Hp} {n : Nat} {σ : L2.St} {R : It → Hp → Nat → Prop} {te : TE} {ta : TA}
theorem i_tup (h : W c (te σ) kn n fun x kn1 n1 => ∃ a xs, x = .ref a ∧ kn1 a = some (.tup xs) ∧ R (Itt K a) kn1 n1) : WI c (iTup K te σ) kn n R :=
  fun H g R' q => h H g _ fun x kn1 n1 H1 ⟨a, xs, e, ha, hr⟩ g1 => ⟨a, e, ⟨xs, sqt (g1.ex _ _ ha)⟩, q _ _ _ _ hr g1⟩
theorem i_list (h : W c (te σ) kn n fun x kn1 n1 => ∃ a xs, x = .ref a ∧ kn1 a = some (.lst xs) ∧ R (Itl K a) kn1 n1) : WI c (iList K te σ) kn n R :=
  fun H g R' q => h H g _ fun x kn1 n1 H1 ⟨a, xs, e, ha, hr⟩ g1 => ⟨a, e, ⟨xs, sql (g1.ex _ _ ha)⟩, q _ _ _ _ hr g1⟩
theorem i_rng1 (h : W c (ta σ) kn n fun vs kn1 n1 => ∃ j : Int, vs = [.int j] ∧ -(2 ^ 62) ≤ j ∧ j < 2 ^ 62 ∧ R (Itr 0 j.toNat) kn1 n1) : WI c (iRng1 ta σ) kn n R :=
  fun H g R' q => h H g _ fun vs kn1 n1 H1 ⟨j, e, b1, b2, hr⟩ g1 => ⟨j, e, b1, b2, q _ _ _ _ hr g1⟩
theorem i_rng2 (h : W c (ta σ) kn n fun vs kn1 n1 => ∃ i j : Int, vs = [.int i, .int j] ∧ (-(2 ^ 62) ≤ i ∧ i < 2 ^ 62 ∧ -(2 ^ 62) ≤ j ∧ j < 2 ^ 62) ∧ R (Itr i (j - i).toNat) kn1 n1) : WI c (iRng2 ta σ) kn n R :=
  fun H g R' q => h H g _ fun vs kn1 n1 H1 ⟨i, j, e, b, hr⟩ g1 => ⟨i, j, e, b, q _ _ _ _ hr g1⟩
theorem i_own {C : Addr} {f : Str} (h : W c (te σ) kn n fun x kn1 n1 => ∃ a dx fs t zs, x = .ref a ∧ kn1 a = some (.ins C dx fs) ∧ fs.lookup f = some (.ref t) ∧ kn1 t = some (.tup zs) ∧ R (Itt K t) kn1 n1) : WI c (iOwnT K C f te σ) kn n R :=
  fun H g R' q => h H g _ fun x kn1 n1 H1 ⟨a, dx, fs, t, zs, e, ha, hl, ht, hr⟩ g1 => ⟨a, dx, fs, t, zs, e, g1.ex _ _ ha, hl, g1.ex _ _ ht, q _ _ _ _ hr g1⟩
/-- a loop -/
theorem s_forJ {D : AE} {wi : TI} {gt : TG} {tb : TS}
    (h : WI c (wi σ) kn n fun J kn1 n1 => ∃ (xs : List V) (ka : Hp → Prop) (Pv : Nat → L2.St → Hp → Nat → Prop), Gives J xs ka ∧ Pv 0 σ kn1 n1 ∧ (∀ i σ' kn' n', Pv i σ' kn' n' → ka kn') ∧
      (∀ i x σ' kn' n', xs[i]? = some x → Pv i σ' kn' n' → WG c gt x σ' kn' n' fun σ2 kn2 n2 => WS c tb { D with nx := Pv (i + 1), ct := Pv (i + 1), bk := D.nx } σ2 kn2 n2) ∧
      ∀ σ' kn' n', Pv xs.length σ' kn' n' → D.nx σ' kn' n') : WS c (tFor wi gt tb) D σ kn n := by
  intro H g D' f
  refine h H g _ fun J kn1 n1 H1 hJ g1 => ?_
  obtain ⟨xs, ka, Pv, hG, h0, hk, hs, hd⟩ := hJ
  refine ⟨fun i m σ' H' => m = xs.length - i ∧ i ≤ xs.length ∧ ∃ kn' n', Pv i σ' kn' n' ∧ Good c kn' n' H', ⟨_, rfl, Nat.zero_le _, kn1, n1, h0, g1⟩, ?_⟩
  rintro i m σ' H' ⟨rfl, hi, kn', n', p, g'⟩
  obtain ⟨q1, q2, q3⟩ := hG kn' H' g'.ex (hk _ _ _ _ p)
  by_cases hlt : i < xs.length
  · refine .inr ⟨q1 i hlt, fun σ2 H2 => ∃ kn2 n2, Pv (i + 1) σ2 kn2 n2 ∧ Good c kn2 n2 H2, fun σ2 H2 ⟨kn2, n2, p2, g2⟩ => ⟨xs.length - (i + 1), by omega, rfl, hlt, kn2, n2, p2, g2⟩, fun x H2 y => ?_⟩
    obtain ⟨e, hx⟩ := q3 i x H2 y
    subst e
    refine hs i x σ' kn' n' (hx hlt) p H2 g' _ fun σ3 kn3 n3 H3 h3 g3 => h3 H3 g3 _ ⟨fun σ4 kn4 n4 H4 h4 g4 => ⟨kn4, n4, h4, g4⟩, f.rt, fun σ4 kn4 n4 H4 h4 g4 => f.nx _ _ _ _ h4 g4, fun σ4 kn4 n4 H4 h4 g4 => ⟨kn4, n4, h4, g4⟩⟩
  · have e : i = xs.length := Nat.le_antisymm hi (Nat.le_of_not_lt hlt)
    exact .inl ⟨q2 i (Nat.le_of_not_lt hlt), f.nx _ _ _ _ (hd σ' kn' n' (e ▸ p)) g'⟩
/-- a comprehension of a list -/
theorem w_lc {Q : V → Hp → Nat → Prop} {wi : TI} {gt : TG} {tt : TT} {vs : List Nat}
    (h : WI c (wi σ) kn n fun J kn1 n1 => ∃ (xs : List V) (ka : Hp → Prop) (Pv : Addr → Nat → List V → Hp → Nat → Prop), Gives J xs ka ∧ xs.length ≤ 100000 ∧ (∀ D, kn1 D = none → Pv D 0 [] (upd kn1 D (.lst [])) n1) ∧
      (∀ D i acc kn' n', Pv D i acc kn' n' → ka kn' ∧ kn' D = some (.lst acc) ∧ acc.length ≤ i) ∧
      (∀ D i acc x kn' n', xs[i]? = some x → Pv D i acc kn' n' → WG c gt x (wipe σ vs) kn' n' fun σ2 kn2 n2 => wipe σ2 vs = wipe σ vs ∧ W c (tt σ2) kn2 n2 fun b kn3 n3 =>
        (b = true → W c (te σ2) kn3 n3 fun y kn4 n4 => kn4 D = some (.lst acc) ∧ Pv D (i + 1) (acc ++ [y]) (upd kn4 D (.lst (acc ++ [y]))) n4) ∧ (b = false → Pv D (i + 1) acc kn3 n3)) ∧
      ∀ D acc kn' n', Pv D xs.length acc kn' n' → Q (.ref D) kn' n') : W c (tLc wi gt tt te vs σ) kn n Q := by
  intro H g Q' q
  refine h H g _ fun J kn1 n1 H1 hJ g1 => ?_
  obtain ⟨xs, ka, Pv, hG, hz, h0, hk, hs, hd⟩ := hJ
  intro D hD
  refine ⟨fun i m H' => m = xs.length - i ∧ i ≤ xs.length ∧ ∃ acc kn' n', Pv D i acc kn' n' ∧ Good c kn' n' H', ⟨_, rfl, Nat.zero_le _, [], _, _, h0 D (g1.free hD), g1.new hD⟩, ?_⟩
  rintro i m H' ⟨rfl, hi, acc, kn', n', p, g'⟩
  obtain ⟨k1, k2, k3⟩ := hk _ _ _ _ _ p
  obtain ⟨q1, q2, q3⟩ := hG kn' H' g'.ex k1
  by_cases hlt : i < xs.length
  · refine .inr ⟨q1 i hlt, fun H2 => ∃ acc kn2 n2, Pv D (i + 1) acc kn2 n2 ∧ Good c kn2 n2 H2, fun H2 ⟨acc, kn2, n2, p2, g2⟩ => ⟨xs.length - (i + 1), by omega, rfl, hlt, acc, kn2, n2, p2, g2⟩, fun x H2 y => ?_⟩
    obtain ⟨e, hx⟩ := q3 i x H2 y
    subst e
    refine hs D i acc x kn' n' (hx hlt) p H2 g' _ fun σ3 kn3 n3 H3 h3 g3 => ⟨h3.1, h3.2 H3 g3 _ fun b kn4 n4 H4 h4 g4 => ?_⟩
    cases b with
    | true => exact iteT (h4.1 rfl H4 g4 _ fun y kn5 n5 H5 h5 g5 => ⟨acc, g5.ex _ _ h5.1, by rw [sizeLine_eq]; omega, _, _, _, h5.2, g5.put h5.1 rfl⟩)
    | false => exact iteF ⟨_, _, _, h4.2 rfl, g4⟩
  · have e : i = xs.length := Nat.le_antisymm hi (Nat.le_of_not_lt hlt)
    exact .inl ⟨q2 i (Nat.le_of_not_lt hlt), q _ _ _ _ (hd D acc kn' n' (e ▸ p)) g'⟩
end
end AW

/-! bool(o) by an own __bool__; static methods; loops over lists or tuples; isinstance with a tuple; all. -/
namespace L2
open PySem PySem.Spec PyProof.Rows
theorem bool_new_own {prog : Program} {w : World} {x : Addr} : MeetsIn prog w (Builtin.«bool.__new__» ⟨[.type "bool", .ref x], []⟩) (fun A R s => wpAny (model prog w) A.in1 (truthy (.ref x)) (fun b s' => R (.ok (.ret (.bool b))) { s' with toks := s'.toks }) (fun e s' => R (.error e) s') s) := by
  intro A R s h
  obtain ⟨hp, g, d, tk, os⟩ := s
  have f1 := F.conv_sub_bool
  repeat (any_goals (first | assumption | (with_reducible refine wpAny_mono h (fun b s' hb => ?_) (fun _ _ z => z)) | wp_step))
  all_goals first | exact hb | exact ⟨_, rfl, hb⟩
section
variable {X : Cx} {CX : CXT} {k : Nat} {f C p : Addr} {fd : FuncData} {ps : List Str} {sp : Sp} {E : XK}
/-- bool(o) -/
def rBoolO (C : Addr) (sp : Sp) : List V → Hp → VK → Prop := fun xs H Q => ∃ a dx fs, xs = [.ref a] ∧ H a = some (.ins C dx fs) ∧ sp [.ref a] H (fun v H' => ∃ b, v = .bl b ∧ Q (.bl b) H') (fun _ _ _ => False)
theorem c_boolO (M : SpM X.K C f "__bool__") (F : FnOk X.prog X.w X.K X.mg X.base CX k f fd ps sp) (hr : Room (k + 2) X.A) (hb : Binds X.K fd ps []) (hx : Passes CX X (fun _ _ _ => False)) : CallR X (.type "bool") (rBoolO C sp) := by
  intro pins s σ H xs us Q I r h
  obtain ⟨a, dx, fs, rfl, ha, hq⟩ := h
  obtain ⟨u, rfl, rx⟩ := vals1 r
  cases (show u = Value.ref a from rx)
  obtain ⟨_, J, _⟩ := ins_get I.hok ha
  obtain ⟨_, J, _⟩ := J.look
  obtain ⟨_, hF⟩ := I.fr
  refine callType_newIn PySem.F.called_bool PySem.F.newNe_bool (PySem.F.typeCall_bool_1 _) (PySem.F.newCall_bool_1 _) (fun obj => PySem.F.args_object_init_2 obj _) PySem.F.entry_bool_new bool_new_own ?_
  refine PySem.W.truthy_K hF I.ok.mod.kin J M.hs M.hf (wpAny_mono (callA (A := X.A.in1.in1) (vs := [.ref a]) F hr.in1.in1 rfl hb hx I (.cons rfl .nil) hq) (fun z s' hz => ?_) fun _ _ z => z)
  obtain ⟨v', H', I', rv, b, e, q⟩ := hz
  subst e
  cases (show z = Value.bool b from rv)
  exact ⟨PySem.typeIs_bool _ _, .bl b, H', I', rfl, q⟩
end
end L2
namespace L2
open PySem PySem.Spec PyProof.Rows ClX
/-- C.m is a static method: its record at p, its def at f -/
structure SMet (K : PySem.W.Frag) (C : Addr) (mc : Value) (m : Str) (p f : Addr) : Prop where
  at_ : PySem.W.findCls K (.ref C) mc m = some (.get (.builtin "staticmethod.__get__") (.ref p) .none (.ref C))
  rc : ∃ rest, PySem.W.recIn K p "staticmethod" = some (.ref f :: rest)
  kp : PySem.W.keepIn K (.ref f) = true
section
variable {X : Cx} {CX : CXT} {k : Nat} {f C p : Addr} {mc : Value} {m : Str} {fd : FuncData} {ps : List Str} {sp : Sp} {E : XK} {o e : Expr} {es : List Expr} {pos apos : Pos} {ta : TE} {t : TA} {pl : Sem Bool} {pins : List (Addr × Obj)} {σ : St} {H : Hp} {s : Shared}
theorem getsm_ok {A : Around} {E : Value → Shared → Prop} {Q : Value × List Value → Shared → Prop} (I : Inv X pins σ H s) (r : CRead X.K C mc) (c : SMet X.K C mc m p f) (h : ∀ s', Inv X pins σ H s' → Q (.ref f, []) s') : wpAny (model X.prog X.w) A (getMethod (.ref C) m pl) Q E s := by
  obtain ⟨rest, hp⟩ := c.rc
  exact PySem.W.method_cls I.kIn r.ga (PySem.W.cls_bind I.kIn r.rd c.at_ (wpAny_call (PySem.W.sm_get (s := { s with toks := s.toks + 1 }) I.kIn hp (PySem.W.handed_on rfl (h _ (I.tok _))))))
def tSMeth (C : Addr) (sp : Sp) (E : XK) (ta : TE) (t : TA) : TE := fun σ H Q => ta σ H fun x H1 => x = .ref C ∧ t σ H1 fun vs H2 => sp vs H2 Q E
theorem pe_smeth (he : PE X o ta) (r : CRead X.K C mc) (c : SMet X.K C mc m p f) (F : FnR X.prog X.w X.K X.mg X.base CX k f sp) (hr : Room k X.A) (hx : Passes CX X E) (ha : PA X (e :: es) t)
    (hst : starEach (e :: es) X.env = (false, eval e X.env) :: starEach es X.env := by rfl) (hpl : (backTo pos (starEach es X.env)).any (·.1) = false := by rfl)
    (ht : eval (.Call (.Attribute o m apos) (e :: es) [] pos) X.env = (do
      let ov ← eval o X.env
      standAt apos.atName
      let (f, first) ← holding [ov] (getMethod ov m pl)
      callWith pos f first (backTo pos (starEach (e :: es) X.env)) (backToKw pos (keywordEach [] X.env))) := by rfl) :
    PE X (.Call (.Attribute o m apos) (e :: es) [] pos) (tSMeth C sp E ta t) := by
  refine ⟨fun pins s σ H Q I h => ?_⟩
  refine PySem.W.methodCall_KW (pl := pl) (thn (he.run pins s σ H _ I h) fun u s1 ⟨x, H1, I1, rx, ex, q⟩ => ?_) ht
  subst ex
  obtain rfl : u = Value.ref C := rx
  refine getsm_ok I1 r c fun s2 I2 => ?_
  exact PySem.W.callWith_K (h₀ := X.base) I2.ok.mod.kin c.kp (thn (ha.run pos pins s2 σ H1 _ I2 q) fun us s3 ⟨vs, H2, I3, rv, q2⟩ => ⟨I3.kIn, wpAny_call (run_fnR F hr hx I3 rv q2)⟩) hst hpl
theorem pe_smeth0 (he : PE X o ta) (r : CRead X.K C mc) (c : SMet X.K C mc m p f) (F : FnR X.prog X.w X.K X.mg X.base CX k f sp) (hr : Room k X.A) (hx : Passes CX X E)
    (ht : eval (.Call (.Attribute o m apos) [] [] pos) X.env = (do
      let ov ← eval o X.env
      standAt apos.atName
      let (f, first) ← holding [ov] (getMethod ov m pl)
      callWith pos f first (backTo pos (starEach [] X.env)) (backToKw pos (keywordEach [] X.env))) := by rfl) :
    PE X (.Call (.Attribute o m apos) [] [] pos) (tSMeth C sp E ta tNil) := by
  refine ⟨fun pins s σ H Q I h => ?_⟩
  refine PySem.W.methodCall_KW (pl := pl) (thn (he.run pins s σ H _ I h) fun u s1 ⟨x, H1, I1, rx, ex, q⟩ => ?_) ht
  subst ex
  obtain rfl : u = Value.ref C := rx
  refine getsm_ok I1 r c fun s2 I2 => ?_
  exact PySem.W.callWith_K0 I2.kIn c.kp (wpAny_call (run_fnR (us := []) F hr hx I2 .nil q))
/-- for x in e, e a list or a tuple -/
def iSeq (K : PySem.W.Frag) (te : TE) : TI := fun σ H R => iList K te σ H R ∨ iTup K te σ H R
theorem pi_seq {tg e : Expr} {te : TE} (he : PE X e te) : PI X tg e (iSeq X.K te) := by
  refine ⟨fun pins s σ H R I h => ?_⟩
  rcases h with h | h
  · exact (pi_list he).run pins s σ H R I h
  · exact (pi_tup he).run pins s σ H R I h
def rAllQ (K : PySem.W.Frag) : List V → Hp → VK → Prop := fun vs H Q => ∃ (a : Addr) (bs : List Bool), vs = [V.ref a] ∧ SqL K H a (bs.map V.bl) ∧ Q (.bl (bs.all id)) H
theorem c_allQ (hc : X.calm = true) : CallR X (.builtin "all") (rAllQ X.K) := cr_all hc
def rInQ (K : PySem.W.Frag) (neg : Bool) : R2 := fun x y H Q => ∃ p xs, y = .ref p ∧ (SqL K H p xs ∨ SqT K H p xs) ∧ flatV x = true ∧ xs.all flatV = true ∧ Q (.bl (if neg then !inV x xs else inV x xs)) H
theorem c_inQ : OpR X (compareOp .In) (rInQ X.K false) := op_in_seq
theorem c_notInQ : OpR X (compareOp .NotIn) (rInQ X.K true) := op_notIn_seq
end
end L2
namespace AW
open PySem PySem.Spec PyProof.Rows L2 ClX
section
variable {c : Cw} {kn : Hp} {n : Nat} {σ : L2.St} {Q : V → Hp → Nat → Prop} {K : PySem.W.Frag} {E : XK} {EA : EAK} {B : List V → Hp → AK → AXK → Prop} {C : Addr} {R : It → Hp → Nat → Prop}
theorem r_boolO {a dx : Addr} {fs : List (Str × V)} (hm : MonoX B) (ha : kn a = some (.ins C dx fs)) (h : B [.ref a] kn (fun v k => ∃ b, v = .bl b ∧ Q (.bl b) k n) (fun _ _ _ => False)) : W c (rBoolO C (liftX B) [.ref a]) kn n Q :=
  fun H g Q' q => ⟨a, dx, fs, rfl, g.ex _ _ ha, sp_call (EA := fun _ _ _ _ => False) (Q := fun v k n => ∃ b, v = .bl b ∧ Q (.bl b) k n) hm err_no h H g _ fun v kn1 n1 H1 ⟨b, e, hq⟩ g1 => ⟨b, e, q _ _ _ _ hq g1⟩⟩
theorem w_smeth {ta : TE} {t : TA} (hm : MonoX B) (hE : ErrOk c EA E) (h : W c (ta σ) kn n fun x kn1 n1 => x = .ref C ∧ W c (t σ) kn1 n1 fun vs kn2 n2 => B vs kn2 (fun v k => Q v k n2) (fun cls d k => EA cls d k n2)) : W c (tSMeth C (liftX B) E ta t σ) kn n Q :=
  fun H g Q' q => h H g _ fun x kn1 n1 H1 ⟨e, h1⟩ g1 => ⟨e, h1 H1 g1 _ fun vs kn2 n2 H2 h2 g2 => sp_call hm hE h2 H2 g2 Q' q⟩
/-- a static method with *rest -/
def spStar (m : Nat) (B : List V → Hp → AK → AXK → Prop) : Sp := fun vs H Q E => ∃ ws rest, vs = ws ++ rest ∧ ws.length = m ∧ rest.length ≤ sizeLine ∧ ∀ p, H p = Option.none → liftX B (ws ++ [V.ref p]) (upd H p (.tup rest)) Q E
theorem w_smethS {ta : TE} {t : TA} {m : Nat} (hm : MonoX B) (hE : ErrOk c EA E) (h : W c (ta σ) kn n fun x kn1 n1 => x = .ref C ∧ W c (t σ) kn1 n1 fun vs kn2 n2 => ∃ ws rest, vs = ws ++ rest ∧ ws.length = m ∧ rest.length ≤ 1000 ∧
    ∀ p, kn2 p = none → B (ws ++ [.ref p]) (upd kn2 p (.tup rest)) (fun v k => Q v k n2) (fun cls d k => EA cls d k n2)) : W c (tSMeth C (spStar m B) E ta t σ) kn n Q :=
  fun H g Q' q => h H g _ fun x kn1 n1 H1 ⟨e, h1⟩ g1 => ⟨e, h1 H1 g1 _ fun vs kn2 n2 H2 ⟨ws, rest, e1, e2, e3, h2⟩ g2 => ⟨ws, rest, e1, e2, Nat.le_trans e3 (by rw [sizeLine_eq]; decide), fun p hp => sp_call hm hE (h2 p (g2.free hp)) _ (g2.new hp) Q' q⟩⟩
theorem i_seqV {i : Nat} {a : Addr} {xs : List V} (hv : σ[i]? = some (some (.ref a))) (h : (kn a = some (.lst xs) ∧ R (Itl K a) kn n) ∨ (kn a = some (.tup xs) ∧ R (Itt K a) kn n)) : WI c (iSeq K (tVar i) σ) kn n R := by
  intro H g R' q
  rcases h with ⟨ha, h⟩ | ⟨ha, h⟩
  · exact .inl (i_list (w_var hv ⟨a, xs, rfl, ha, h⟩) H g R' q)
  · exact .inr (i_tup (w_var hv ⟨a, xs, rfl, ha, h⟩) H g R' q)
theorem r_isiT {x : V} {tp : Addr} {cs : List V} {t : Value} {us : List Value} {b : Bool} (h : kn tp = some (.tup cs)) (p : Paired ClsV cs us) (ty : TyX K kn x t) (e : PySem.W.kitAny K t us = some b) (q : Q (.bl b) kn n) : W c (rIsiT K [x, .ref tp]) kn n Q :=
  fun H g _ f => ⟨x, tp, cs, t, us, b, rfl, g.ex _ _ h, p, tyx_ext g.ex ty, e, f _ kn n H q g⟩
theorem r_allQ {a : Addr} {bs : List Bool} (h : kn a = some (.lst (bs.map V.bl))) (q : Q (.bl (bs.all id)) kn n) : W c (rAllQ K [.ref a]) kn n Q := fun H g _ k => ⟨a, bs, rfl, sql (g.ex _ _ h), k _ kn n H q g⟩
theorem r_inQ {x : V} {p : Addr} {xs : List V} {neg : Bool} (h : kn p = some (.lst xs) ∨ kn p = some (.tup xs)) (h1 : flatV x = true) (h2 : xs.all flatV = true) (q : Q (.bl (if neg then !inV x xs else inV x xs)) kn n) : W c (rInQ K neg x (.ref p)) kn n Q :=
  fun H g _ k => ⟨p, xs, rfl, h.imp (fun z => sql (g.ex _ _ z)) (fun z => sqt (g.ex _ _ z)), h1, h2, k _ kn n H q g⟩
end
end AW

/-! The pen: what it draws is not told, but its bounds. -/
namespace AW
open PySem PySem.Spec PyProof.Rows L2 LamX
/-- the pen: a list of the cells' list, the spot, the number that is left over -/
structure PenAt (H : Hp) (p a : Addr) (ns : List Int) (n : Nat) : Prop where
  pen : ∃ i g : Int, H p = some (.lst [.ref a, .int i, .int g]) ∧ 0 ≤ i ∧ i ≤ n ∧ 0 ≤ g
  cells : H a = some (.lst (ns.map V.int))
  pa : p ≠ a
theorem PenAt.mono {H : Hp} {p a : Addr} {ns : List Int} {n m : Nat} (h : PenAt H p a ns n) (e : n ≤ m) : PenAt H p a ns m := by
  obtain ⟨⟨i, g, h1, h2, h3, h4⟩, h5, h6⟩ := h
  exact ⟨⟨i, g, h1, h2, by omega, h4⟩, h5, h6⟩
/-- _law_draw -/
def spDraw : Sp := fun vs H Q _ => ∃ (p a : Addr) (ns : List Int) (n : Nat) (many : Int), vs = [.ref p, .int many] ∧ PenAt H p a ns n ∧ n < 1000000 ∧ 0 < many ∧ many < 1180591620717411303424 ∧
  ∀ (k : Int) (H' : Hp), 0 ≤ k → k < many → PenAt H' p a ns (n + 1) → (∀ x o, x ≠ p → H x = some o → H' x = some o) → Q (.int k) H'
theorem nil_eqv (ns : List Int) : PyData.eqv (.list (ns.map PyData.int)) (.list []) = ns.isEmpty := by
  cases ns <;> simp [PyData.eqv, PyData.eqvAll]
theorem dp_ints {K : PySem.W.Frag} {H : Hp} : ∀ ns : List Int, DpAll K H (ns.map V.int) (ns.map PyData.int)
  | [] => .nil
  | n :: r => .cons (.int n) (dp_ints r)
theorem mul_bd {a b A B : Int} (h1 : 0 ≤ a) (h2 : a ≤ A) (h3 : 0 ≤ b) (h4 : b ≤ B) : 0 ≤ a * b ∧ a * b ≤ A * B :=
  ⟨Int.mul_nonneg h1 h3, Int.mul_le_mul h2 h4 h3 (Int.le_trans h1 h2)⟩
theorem at_mod (ns : List Int) (i : Int) (h : 0 < ns.length) : ∃ z, atI (ns.map V.int) (i % ((ns.map V.int).length : Int)) = some (.int z) := by
  rw [List.length_map]
  have h1 : 0 ≤ i % (ns.length : Int) := Int.emod_nonneg _ (by omega)
  have h2 : i % (ns.length : Int) < ns.length := Int.emod_lt_of_pos _ (by omega)
  obtain ⟨j, hj⟩ : ∃ j : Nat, i % (ns.length : Int) = j := ⟨(i % (ns.length : Int)).toNat, by omega⟩
  have hj2 : j < ns.length := by omega
  rw [hj]
  refine ⟨ns[j], atI_nat ?_⟩
  rw [List.getElem?_map, List.getElem?_eq_getElem hj2]
  rfl
theorem lay_ints : ∀ ns : List Int, PyData.canLayAll0 (ns.map PyData.int) = true
  | [] => by simp [PyData.canLayAll0]
  | n :: r => by simp only [List.map_cons, PyData.canLayAll0, PyData.canLay0, Bool.true_and]; exact lay_ints r
theorem deep_ints : ∀ ns : List Int, PyData.depthAll (ns.map PyData.int) = 0
  | [] => by simp [PyData.depthAll]
  | n :: r => by simp only [List.map_cons, PyData.depthAll, PyData.depth]; rw [deep_ints r]; rfl
theorem shaped_ints (ns : List Int) : SeqAt.shaped (.list (ns.map PyData.int)) = true := by
  unfold SeqAt.shaped
  rw [show PyData.canLay0 (.list (ns.map PyData.int)) = true by simp only [PyData.canLay0]; exact lay_ints ns, show PyData.depth (.list (ns.map PyData.int)) = 1 by simp only [PyData.depth]; rw [deep_ints ns]]
  rfl
theorem weigh_int {i : Int} (h : i.natAbs < 10 ^ 12) : PyData.weight (.int i) ≤ 41 := by
  simp only [PyData.weight]
  split
  · omega
  · rename_i z
    have z0 : i.natAbs ≠ 0 := fun e => z (by rw [beq_iff_eq]; omega)
    have a : i.natAbs < 2 ^ 40 := by omega
    have := (Nat.log2_lt z0).mpr a
    omega
theorem weigh_ints : ∀ ns : List Int, (∀ n ∈ ns, n.natAbs < 10 ^ 12) → PyData.weightAll (ns.map PyData.int) ≤ 42 * ns.length
  | [], _ => by simp [PyData.weightAll]
  | n :: r, h => by
    have h1 := weigh_int (h n List.mem_cons_self)
    have h2 := weigh_ints r fun m hm => h m (List.mem_cons_of_mem _ hm)
    simp only [List.map_cons, PyData.weightAll, List.length_cons]
    omega
theorem lay0_ints {ns : List Int} (h : ∀ n ∈ ns, n.natAbs < 10 ^ 12) (l : ns.length ≤ 1000) : PyData.layable0 (.list (ns.map PyData.int)) = true := by
  have h1 := weigh_ints ns h
  have h2 : PyData.weight (.list (ns.map PyData.int)) ≤ 2 ^ 20 := by simp only [PyData.weight]; omega
  unfold PyData.layable0
  rw [show PyData.canLay0 (.list (ns.map PyData.int)) = true by simp only [PyData.canLay0]; exact lay_ints ns, show PyData.depth (.list (ns.map PyData.int)) = 1 by simp only [PyData.depth]; rw [deep_ints ns], decide_eq_true h2]
  rfl
theorem show_ints : ∀ ns : List Int, (∀ n ∈ ns, n.natAbs < 10 ^ 12) → PyData.showableAll (ns.map PyData.int) = true
  | [], _ => by simp [PyData.showableAll]
  | n :: r, h => by
    have h0 : n.natAbs.log2 < 1920 := by
      have := h n List.mem_cons_self
      by_cases z : n.natAbs = 0
      · rw [z]; decide
      · exact Nat.lt_trans ((Nat.log2_lt z).mpr (show n.natAbs < 2 ^ 40 by omega)) (by decide)
    simp only [List.map_cons, PyData.showableAll, PyData.showable, decide_eq_true h0, Bool.true_and]
    exact show_ints r fun m hm => h m (List.mem_cons_of_mem _ hm)
theorem nodict_ints : ∀ ns : List Int, PyData.hasDictAll (ns.map PyData.int) = false
  | [] => by simp [PyData.hasDictAll]
  | n :: r => by simp only [List.map_cons, PyData.hasDictAll, PyData.hasDict, Bool.false_or]; exact nodict_ints r
theorem r_reprInts {K : PySem.W.Frag} {c : Cw} {kn : Hp} {n : Nat} {Q : V → Hp → Nat → Prop} {a : Addr} {vs : List V} (ns : List Int) (e : vs = ns.map V.int) (h : kn a = some (.lst vs)) (hb : ∀ n ∈ ns, n.natAbs < 10 ^ 12) (hl : ns.length ≤ 1000) (q : Q (.str (PyData.shown (.list (ns.map PyData.int)))) kn n) : W c (rRepr K [.ref a]) kn n Q := by
  subst e
  refine r_repr (.lst (sql h) (dp_ints ns)) ?_ ?_ ?_ ?_ q
  · simp only [PyData.showable]; exact show_ints ns hb
  · simp only [PyData.hasDict]; exact nodict_ints ns
  · simp only [PyData.depth]; rw [deep_ints ns]; decide
  · exact PyData.shown_fits_of_layable0 (B := 13) (by decide) (by decide) (lay0_ints hb hl) (by simp only [PyData.intsShort]; exact PyData.intsShortAll_ints ns hb)
theorem r_cat {c : Cw} {kn : Hp} {n : Nat} {Q : V → Hp → Nat → Prop} {l b : Addr} {xs zs : List V} (h1 : kn l = some (.lst xs)) (h2 : kn b = some (.lst zs)) (hz : xs.length + zs.length ≤ 1000) (q : ∀ p, kn p = none → Q (.ref p) (upd kn p (.lst (xs ++ zs))) n) : W c (rCat (.ref l) (.ref b)) kn n Q :=
  fun H g _ k => ⟨l, b, xs, zs, rfl, rfl, g.ex _ _ h1, g.ex _ _ h2, Nat.le_trans hz (by rw [sizeLine_eq]; decide), fun p hp => k _ _ _ _ (q p (g.free hp)) (g.new hp)⟩
theorem w_append {K : PySem.W.Frag} {c : Cw} {kn : Hp} {n i : Nat} {σ : L2.St} {Q : V → Hp → Nat → Prop} {l : Addr} {xs0 : List V} {t : TA} (hv : σ[i]? = some (some (.ref l))) (h0 : kn l = some (.lst xs0))
    (h : W c (t σ) kn n fun vs kn1 n1 => ∃ y xs, vs = [y] ∧ kn1 l = some (.lst xs) ∧ xs.length ≤ 1000 ∧ Q .non (upd kn1 l (.lst (xs ++ [y]))) n1) : W c (tBM K "list" rAppend (tVar i) t σ) kn n Q :=
  fun H g Q' q => ⟨.ref l, hv, .inl ⟨rfl, _, sql (g.ex _ _ h0)⟩, h H g _ fun vs kn1 n1 H1 ⟨y, xs, e, e1, hl, hq⟩ g1 => ⟨l, xs, y, rfl, e, g1.ex _ _ e1, Nat.lt_of_le_of_lt hl (by rw [sizeLine_eq]; decide), q _ _ _ _ hq (g1.put e1 rfl)⟩⟩
theorem Good.grow {c : Cw} {kn H H' : Hp} {n : Nat} {q : Addr} {o : HO} (g : Good c kn n H) (e : Ext H H') (h0 : H q = none) (h1 : H' q = some o) (ht : isTbl o = false := by rfl) : Good c (upd kn q o) n H' := by
  refine ⟨fun x u hx => ?_, c.step n kn H H' g.inv g.res fun x u hx _ => e x u hx, fun x r => ?_, nt_upd g.nt ht⟩
  · by_cases z : x = q
    · rw [z, upd_same] at hx; cases hx; rw [z]; exact h1
    · rw [upd_ne z] at hx; exact e x u (g.ex x u hx)
  · rw [upd_ne (fun z => c.live n H x g.inv r (by rw [z]; exact h0))]
    exact g.res x r
/-- the pen and its cells alone are known -/
def penKn (H : Hp) (p a : Addr) : Hp := fun x => if x = p ∨ x = a then H x else none
theorem TabS.keep {H H' : Hp} {P : Addr} {q : Str} (e : ∀ b o, H b = some o → isMut o = false → H' b = some o) (h : TabS H P q) : TabS H' P q := by
  obtain ⟨ps, h1, h2, h3⟩ := h
  refine ⟨ps, e _ _ h1 rfl, h2, fun pos cv hc => ?_⟩
  obtain ⟨c, e1, e2⟩ := h3 pos cv hc
  exact ⟨c, e1, e _ _ e2 rfl⟩
theorem Tabs.keep {T : List (Addr × Str)} {H H' : Hp} (e : ∀ b o, H b = some o → isMut o = false → H' b = some o) (h : Tabs T H) : Tabs T H' := fun p hp => TabS.keep e (h p hp)
def penC (p a : Addr) (ns : List Int) (T : List (Addr × Str)) : Cw where
  inv n H := PenAt H p a ns n ∧ Tabs T H
  res x := x = p ∨ x = a ∨ ∃ t ∈ T, x = t.1
  live n H x h r := by
    obtain ⟨⟨⟨i, g, h1, _⟩, h2, _⟩, hT⟩ := h
    rcases r with rfl | rfl | ⟨t, ht, rfl⟩
    · rw [h1]; exact fun z => nomatch z
    · rw [h2]; exact fun z => nomatch z
    · obtain ⟨ps, h3, _⟩ := hT t ht
      rw [h3]; exact fun z => nomatch z
  step n kn H H' h r k := by
    obtain ⟨⟨⟨i, g, h1, h1'⟩, h2, h3⟩, hT⟩ := h
    exact ⟨⟨⟨i, g, k _ _ h1 (.inl (r _ (.inl rfl))), h1'⟩, k _ _ h2 (.inl (r _ (.inr (.inl rfl)))), h3⟩, Tabs.keep (fun b o e m => k b o e (.inr m)) hT⟩
  up n m H h l := ⟨h.1.mono l, h.2⟩
section
variable {p a : Addr} {ns : List Int} {T : List (Addr × Str)} {kn : Hp} {n : Nat} {σ : L2.St} {Q : V → Hp → Nat → Prop} {E : XK} {EA : EAK} {B : List V → Hp → AK → AXK → Prop} {t : TA}
theorem w_draw (h : W (penC p a ns T) (t σ) kn n fun vs kn1 n1 => ∃ many, vs = [.ref p, .int many] ∧ n1 < 1000000 ∧ 0 < many ∧ many < 1180591620717411303424 ∧ ∀ k : Int, 0 ≤ k → k < many → Q (.int k) kn1 (n1 + 1)) : W (penC p a ns T) (tCall spDraw [] E t σ) kn n Q :=
  fun H g Q' q => h H g _ fun vs kn1 n1 H1 h1 g1 => by
    obtain ⟨many, rfl, b1, b2, b3, h2⟩ := h1
    refine ⟨p, a, ns, n1, many, rfl, g1.inv.1, b1, b2, b3, fun k H' k0 k1 hp hk => q _ _ _ _ (h2 k k0 k1) ⟨fun x o e => hk x o (fun z => ?_) (g1.ex x o e), ⟨hp, Tabs.keep (fun b o e m => hk b o (fun z => ?_) e) g1.inv.2⟩, g1.res, g1.nt⟩⟩
    · have := g1.res x (.inl z)
      rw [e] at this
      cases this
    · obtain ⟨i, g, hP, _⟩ := g1.inv.1.pen
      rw [z, hP] at e
      cases e
      cases m
/-- a promise of a def that draws m times at most -/
def liftP (T : List (Addr × Str)) (m : Nat) (B : List V → Hp → AK → AXK → Prop) : Sp := fun vs H Q E => ∃ p a ns n kn ws, vs = .ref p :: ws ∧ Good (penC p a ns T) kn n H ∧ n + m < 1000000 ∧
  B ws kn (fun v k => ∀ H', Good (penC p a ns T) k (n + m) H' → Q v H') (fun cls d k => ∀ H', Good (penC p a ns T) k (n + m) H' → E cls d H')
theorem w_callP {m : Nat} (hm : MonoX B) (hE : ErrOk (penC p a ns T) EA E) (h : W (penC p a ns T) (t σ) kn n fun vs kn1 n1 => ∃ ws, vs = .ref p :: ws ∧ n1 + m < 1000000 ∧ B ws kn1 (fun v k => Q v k (n1 + m)) (fun cls d k => EA cls d k (n1 + m))) : W (penC p a ns T) (tCall (liftP T m B) [] E t σ) kn n Q :=
  fun H g Q' q => h H g _ fun vs kn1 n1 H1 h1 g1 => by
    obtain ⟨ws, rfl, hb, h2⟩ := h1
    refine ⟨p, a, ns, n1, kn1, ws, by simp, g1, hb, hm _ _ _ _ _ _ (fun v k hq H' g' => q _ _ _ _ hq g') (fun cls d k hq H' g' => hE _ _ _ _ _ hq g') h2⟩
theorem takes_len {X : Cx} {W : WX} {m : Nat} (tk : L2.Takes X W) (h : X.N.length = m := by rfl) : L2.Takes X (fun cls d σ H => σ.length = m → W cls d σ H) :=
  fun u s' ⟨a, B, sI, pins, σ, H, cls, d, e, I, nb, up, sky, na, os, ag, w⟩ => tk u s' ⟨a, B, sI, pins, σ, H, cls, d, e, I, nb, up, sky, na, os, ag, w (I.len.trans h)⟩
/-- the abstract meaning of def heard(ask): [what was found], or (.., the error's field) -/
def EAh (B : Addr) (word : Str) (Q : V → Hp → Nat → Prop) : EAK := fun cls d kn n => cls = .ref B ∧ ∃ dd fs y, d = some dd ∧ kn dd = some (.xd fs) ∧ fs.lookup ("part" : Str) = some y ∧
  ∀ q kn2, Ext kn kn2 → kn q = none → kn2 q = some (.tup [.str word, y]) → Q (.ref q) kn2 n
def TTh (B : Addr) (word : Str) : (XK → Hp → VK → Prop) → Hp → VK → Prop := fun tl H Q => ∃ (c : Cw) (kn : Hp) (n : Nat) (QA : V → Hp → Nat → Prop), Good c kn n H ∧ (∀ v kn' n' H', QA v kn' n' → Good c kn' n' H' → Q v H') ∧
  ∀ E, ErrOk c (EAh B word QA) E → W c (fun H' Q' => tl E H' Q') kn n fun v kn1 n1 => ∀ q, kn1 q = none → QA (.ref q) (upd kn1 q (.lst [v])) n1
theorem good_lam {H H1 : Hp} (g : Good (penC p a ns T) kn n H) (e : ExtN H H1) (hT : Tabs T H1) : Good (penC p a ns T) kn n H1 := by
  obtain ⟨⟨⟨i, k, h1, h1'⟩, h2, h3⟩, _⟩ := g.inv
  refine ⟨fun x o hx => e x o (g.ex x o hx) (fun ps z => ?_), ⟨⟨⟨i, k, e _ _ h1 (fun _ z => nomatch z), h1'⟩, e _ _ h2 (fun _ z => nomatch z), h3⟩, hT⟩, g.res, g.nt⟩
  have := g.nt x o hx
  rw [z] at this
  cases this
theorem w_lam {B : Addr} {word : Str} {tt : XK → TE}
    (h : ∀ E, ErrOk (penC p a ns T) (EAh B word Q) E → W (penC p a ns T) (tt E σ) kn n fun v kn1 n1 => ∀ q, kn1 q = none → Q (.ref q) (upd kn1 q (.lst [v])) n1) : W (penC p a ns T) (tLam T (TTh B word) tt σ) kn n Q :=
  fun H g Q' q => ⟨g.inv.2, fun H1 e hT => ⟨penC p a ns T, kn, n, Q, good_lam g e hT, q, h⟩⟩
theorem fin_at {c : Cw} {kn : Hp} {n m : Nat} {P : Hp → Prop} (le : n ≤ m) (f : ∀ H', Good c kn m H' → P H') : ∀ H', Good c kn n H' → P H' := fun H' g => f H' (g.up le)
end
end AW

/-! raise .. from None in a handler; an error with two fields; a classmethod. -/
namespace L2
open PySem PySem.Spec PyProof.Rows
theorem Fun.okH {P : Program} {w : World} {K : PySem.W.Frag} {mg : Str → Option Value} {base : Heap} {x qual : Str} {st : Stmt} {f : Addr} {fd : FuncData} {N ps : List Str} {k : Nat} {sp : Sp} (F : Fun K x qual st f fd) (S : FnScope N ps (defScope st)) (len : ∀ vs H Q E, sp vs H Q E → vs.length = ps.length)
    (hbody : ∀ (cdv : Value) (A : Around) (outer : List Env) (s : Shared) (H : Hp) (vs : List V) (Q : VK) (E : XK) (p : Addr × Obj), L2H.RoomH k (A.deeper (envOfC qual (defScope st) s.heap.objs.size f cdv)) → sp vs H Q E →
      ∃ t, PSs (L2H.cxH CX0 P w K mg base N qual (defScope st) f cdv A outer s H E p) (defBody st) t ∧ t { nx := fun _ H' => Q .non H', rt := Q } (start N vs) H) : L2H.FnH P w K mg base CX0 (k + 1) f fd ps sp := by
  obtain ⟨oc, od, kV, doc, pm, an, cdv, ct, osl, rfl, lk, hcd⟩ := F.ex
  exact L2H.fn_ofH lk hcd S len fun A outer s H vs Q E p hp hr hsp => hbody cdv A outer s H vs Q E p hr hsp
/-- an error class whose __init__ sets two fields -/
def spX2 (K : PySem.W.Frag) (f g : Str) : Sp := fun vs H Q _ => ∃ (a C : Addr) (y z : V), vs = [.ref a, y, z] ∧ OexC K C ∧ PySem.W.findIn K (.ref C) f = some none ∧ PySem.W.findIn K (.ref C) g = some none ∧ H a = some (exo a C none) ∧
  ∀ dx, H dx = none → dx ≠ a → Q .non (upd (upd (upd H dx (exd dx [(f, y)])) a (exo a C (some dx))) dx (exd dx [(g, z), (f, y)]))
theorem x2_end {H : Hp} {a d : Addr} {o1 o2 o3 o4 o5 : HO} (ha : H a = none) (hd : d ≠ a) : upd (del (upd (upd (upd (upd H a o1) d o2) a o3) d o5) a) d o4 = upd H d o4 := by
  funext x
  by_cases h1 : x = d
  · rw [h1, upd_same, upd_same]
  · rw [upd_ne h1, upd_ne h1]
    by_cases h2 : x = a
    · rw [h2, del_same, ha]
    · rw [del_ne h2, upd_ne h1, upd_ne h2, upd_ne h1, upd_ne h2]
end L2
namespace AW
open PySem PySem.Spec PyProof.Rows L2
section
variable {c : Cw} {kn : Hp} {n : Nat} {σ : L2.St} {K : PySem.W.Frag} {D : AE} {E : XK} {EA : EAK}
theorem s_raise2 {C : Addr} {f g : Str} {ta : TA} (oc : OexC K C) (hf : PySem.W.findIn K (.ref C) f = some none) (hg : PySem.W.findIn K (.ref C) g = some none) (hE : ErrOk c EA E)
    (h : W c (ta σ) kn n fun vs kn1 n1 => ∃ y z, vs = [y, z] ∧ ∀ d, kn1 d = none → EA (.ref C) (some d) (upd kn1 d (.xd [(g, z), (f, y)])) n1) :
    WS c (fun _ σ H => tMkO C (spX2 K f g) [] ta σ H fun cls d H' => E cls d H') D σ kn n :=
  fun H g0 D' fit => h H g0 _ fun vs kn1 n1 H1 ⟨y, z, e, h1⟩ g1 => by
    subst e
    refine ⟨Nat.le_add_left 2 998, fun a ha => ⟨a, C, y, z, rfl, oc, hf, hg, upd_same, fun d hd hda => ⟨rfl, d, [(g, z), (f, y)], ?_, upd_same, ?_, ?_⟩⟩⟩
    · rw [upd_ne (Ne.symm hda), upd_same]
    · rw [upd_ne hda] at hd
      exact hd
    · rw [upd_ne hda] at hd
      rw [x2_end ha hda]
      exact hE _ _ _ _ _ (h1 d (g1.free hd)) (g1.new hd)
/-- try .. except C: suite (that ends in another error) -/
theorem s_tryO {cv : Value} {tb : WX → TS} {ts : Addr → Value → Option Addr → TS} {Wout : WX}
    (h : ∀ H (D' : Ends), Good c kn n H → Fits c D D' → tb (wOnly K cv ts Wout D') D' σ H) : WS c (fun D' σ H => tb (wOnly K cv ts Wout D') D' σ H) D σ kn n :=
  fun H g D' fit => h H D' g fit
end
end AW
namespace L2
open PySem PySem.Spec PyProof.Rows ClX
section
variable {X : Cx} {CX : CXT} {k : Nat} {f C p : Addr} {mc : Value} {m : Str} {fd : FuncData} {ps : List Str} {B : List V → Hp → AW.AK → AW.AXK → Prop} {E : XK}
end
end L2

/-! Own errors made: as values, and in a raise whose error may be caught and followed by another. -/
namespace L2
open PySem PySem.Spec PyProof.Rows
theorem Fun.okXN {P : Program} {w : World} {K : PySem.W.Frag} {mg : Str → Option Value} {base : Heap} {x qual : Str} {st : Stmt} {f : Addr} {fd : FuncData} {N ps : List Str} {k : Nat} {sp : Sp} (F : Fun K x qual st f fd) (S : FnScope N ps (defScope st)) (len : ∀ vs H Q E, sp vs H Q E → vs.length = ps.length)
    (hbody : ∀ (cdv : Value) (A : Around) (outer : List Env) (s : Shared) (H : Hp) (vs : List V) (Q : VK) (E : XK), Room k (A.deeper (envOfC qual (defScope st) s.heap.objs.size f cdv)) → sp vs H Q E →
      ∃ t, PSs (cxOf (L2N.CX P w) P w K mg base N qual (defScope st) f cdv A outer s H E) (defBody st) t ∧ t { nx := fun _ H' => Q .non H', rt := Q } (start N vs) H) : FnOk P w K mg base (L2N.CX P w) (k + 1) f fd ps sp := by
  obtain ⟨oc, od, kV, doc, pm, an, cdv, ct, osl, rfl, lk, hcd⟩ := F.ex
  exact ⟨len, fun A outer s H args us vs Q E hr e0 hb r hsp => LamX.run_ofS lk hcd S hr e0 hb r (len _ _ _ _ hsp) fun hr' => hbody cdv A outer s H vs Q E hr' hsp⟩
theorem passLN {X : Cx} : Passes (L2N.CX X.prog X.w) X E0 := fun pins σ H s e s' _ h => by
  obtain ⟨a, B, H', cls, d, _, _, _, _, _, _, _, z⟩ := h
  exact z.elim
section
variable {X : Cx} {CX : CXT} {k : Nat} {C fI : Addr} {fd : FuncData} {ps : List Str} {sp : Sp} {ds : List Value} {dvs : List V} {pins : List (Addr × Obj)} {σ : St} {H : Hp} {s : Shared} {us : List Value} {vs : List V}
theorem oex_core (T : OexC X.K C) (iC : PySem.W.findIn X.K (.ref C) "__init__" = some (some (.ref fI))) (tI : PySem.W.typeIn X.K (.ref fI) = some (.type "function")) (F : FnOk X.prog X.w X.K X.mg X.base CX k fI fd ps sp) (hr : Room (k + 1) X.A) (hb : Binds X.K fd ps ds) (hd : Vals dvs ds)
    (hx : Passes CX X (fun _ _ _ => False)) (I : Inv X pins σ H s) (rv : Vals vs us) (hl : vs.length ≤ 1000) {QQ : Addr → Hp → Prop} {R : Value → Shared → Prop}
    (hsp : ∀ a, H a = none → sp (.ref a :: (vs ++ dvs)) (upd H a (exo a C none)) (fun v H2 => v = .non ∧ QQ a H2) (fun _ _ _ => False))
    (fin : ∀ (a : Addr) (s2 s' : Shared) (H2 : Hp), H a = none → s.heap.objs.size ≤ a → (∀ b o, s.heap.get? b = some o → s2.heap.get? b = some o) → Inv X pins σ (upd H a (exo a C none)) s2 → s2.os = s.os →
      s'.os = s2.os → AllBare s'.gens → Un (frs X.stack) [] (upd H a (exo a C none)) H2 s2.heap s'.heap → HOk X.prog X.w H2 s'.heap → QQ a H2 → R (.ref a) s') :
    wpAny (model X.prog X.w) X.A (call (.ref C) us) R X.xe s := by
  obtain ⟨hp, g, d, t, os⟩ := s
  obtain ⟨nm, q, N, bs, bm, sn, sub, ab, col, dd, k0, k1, k2, k3, k5, lk, hbm⟩ := T.cls
  have hlu : us.length ≤ 1000 := by rw [← rv.length]; exact hl
  have keeps : ∀ b o, hp.get? b = some o → ((hp.push (PySem.W.kdv_tup us)).push (HandSPX.excO C hp.objs.size)).get? b = some o := fun b o e => Heap.get?_push_of_some _ (Heap.get?_push_of_some _ e)
  have hn : H (hp.objs.size + 1) = none := I.hok.fresh (Nat.le_succ _)
  have hsz : (hp.push (PySem.W.kdv_tup us)).objs.size = hp.objs.size + 1 := by simp [Heap.push]
  have I2 : Inv X pins σ (upd H (hp.objs.size + 1) (exo (hp.objs.size + 1) C none)) ⟨(hp.push (PySem.W.kdv_tup us)).push (HandSPX.excO C hp.objs.size), g, d, t, os⟩ :=
    I.laid (t' := t) keeps (Nat.le_succ _) (exo_ok (t1 := hp.objs.size) (by rw [← hsz]; exact Heap.get?_push_size _ rfl))
  refine wpAny_call ?_
  refine HandSPX.call_own PySem.F.excBase_ValueError (fun Y => HandSPX.refsVE_contains Y _ hbm) (I.kIn _ _ lk) (PySem.W.looks_findIn I.kIn iC) (fun self => PySem.W.bind_fn I.kIn self tI) (Nat.le_trans hlu (by rw [sizeLine_eq]; decide)) ?_
  have rr : Vals (V.ref (hp.objs.size + 1) :: (vs ++ dvs)) (Value.ref (hp.objs.size + 1) :: us ++ ds) := .cons rfl (rv.append hd)
  have hlen : (Value.ref (hp.objs.size + 1) :: us ++ ds).length = ps.length := by rw [← rr.length]; exact F.len _ _ _ _ (hsp _ hn)
  have e2 := I2.env0
  refine codeAny_mono (F.run (X.A.under (.builtin "type.__call__" { pos := .ref C :: us })) X.stack _ _ ⟨.ref (hp.objs.size + 1) :: us, []⟩ (.ref (hp.objs.size + 1) :: us ++ ds) (.ref (hp.objs.size + 1) :: (vs ++ dvs)) _ _ (hr.make C us []) ⟨e2.frames, e2.mod, e2.bs, e2.bsz, e2.funs, e2.frf, e2.hok, e2.bare⟩ (hb _ (.ref (hp.objs.size + 1) :: us) I2.kIn hlen) rr (hsp _ hn)) fun r s' hq => ?_
  cases r with
  | error e => exact hx pins σ _ _ e s' I2 hq
  | ok fl =>
    cases fl with
    | ret u =>
      obtain ⟨v, H2, os', bare, un, hok, rel, ev, q⟩ := hq
      subst ev
      exact ⟨rel, fin _ _ _ _ hn (Nat.le_succ _) keeps I2 rfl os' bare un hok q⟩
    | next => exact False.elim hq
    | brk => exact False.elim hq
    | cont => exact False.elim hq
variable {x : Str} {e : Expr} {es : List Expr} {ta : TA} {p pos : Pos}
/-- an own error made, as a value -/
def tMkV (C : Addr) (sp : Sp) (dvs : List V) (ta : TA) : TE := fun σ H Q => ta σ H fun vs H1 => vs.length ≤ 1000 ∧ ∀ a, H1 a = none → sp (.ref a :: (vs ++ dvs)) (upd H1 a (exo a C none)) (fun v H2 => v = .non ∧ Q (.ref a) H2) (fun _ _ _ => False)
theorem pe_oexV (T : OexC X.K C) (iC : PySem.W.findIn X.K (.ref C) "__init__" = some (some (.ref fI))) (tI : PySem.W.typeIn X.K (.ref fI) = some (.type "function")) (F : FnOk X.prog X.w X.K X.mg X.base CX k fI fd ps sp) (hr : Room (k + 1) X.A) (hb : Binds X.K fd ps ds) (hd : Vals dvs ds)
    (hx : Passes CX X (fun _ _ _ => False)) (hg : Gl X x) (hm : X.mg x = some (.ref C)) (ha : PA X (e :: es) ta) (hdb : (x == ("__debug__" : Str)) = false := by decide) (he : starEach (e :: es) X.env = (false, eval e X.env) :: starEach es X.env := by rfl) (hpl : (backTo pos (starEach es X.env)).any (·.1) = false := by rfl) :
    PE X (.Call (.Name x p) (e :: es) [] pos) (tMkV C sp dvs ta) := by
  refine ⟨fun pins s σ H Q I h => wpAny_Call_Name_kw (ld_glob I hg hm ?_ hdb)⟩
  refine PySem.W.callWith_K (h₀ := X.base) I.ok.mod.kin T.kC (thn (ha.run pos pins s σ H _ I h) fun us s1 ⟨vs, H1, I1, r, hl, q⟩ => ⟨I1.kIn, ?_⟩) he hpl
  refine oex_core T iC tI F hr hb hd hx I1 r hl (QQ := fun a H2 => Q (.ref a) H2) q fun a s2 s' H2 hn hs kp I2 os2 os' bare un hok hq => ?_
  exact I2.after ⟨.ref a, H2, os', bare, un, hok, rfl, hq⟩
theorem pmkN_oex (T : OexC X.K C) (iC : PySem.W.findIn X.K (.ref C) "__init__" = some (some (.ref fI))) (tI : PySem.W.typeIn X.K (.ref fI) = some (.type "function")) (F : FnOk X.prog X.w X.K X.mg X.base CX k fI fd ps sp) (hr : Room (k + 1) X.A) (hb : Binds X.K fd ps ds) (hd : Vals dvs ds)
    (hx : Passes CX X (fun _ _ _ => False)) (hg : Gl X x) (hm : X.mg x = some (.ref C)) (ha : PA X (e :: es) ta) (hdb : (x == ("__debug__" : Str)) = false := by decide) (he : starEach (e :: es) X.env = (false, eval e X.env) :: starEach es X.env := by rfl) (hpl : (backTo pos (starEach es X.env)).any (·.1) = false := by rfl) :
    L2N.PMk X (.Call (.Name x p) (e :: es) [] pos) (tMkO C sp dvs ta) := by
  intro pins s σ H Q I h
  refine wpAny_Call_Name_kw (ld_glob I hg hm ?_ hdb)
  refine PySem.W.callWith_K (h₀ := X.base) I.ok.mod.kin T.kC (thn (ha.run pos pins s σ H _ I h) fun us s1 ⟨vs, H1, I1, r, hl, q⟩ => ⟨I1.kIn, ?_⟩) he hpl
  refine oex_core T iC tI F hr hb hd hx I1 r hl (QQ := fun a H2 => ∃ d fs, H2 a = some (exo a C (some d)) ∧ H2 d = some (exd d fs) ∧ H1 d = none ∧ Q (.ref C) (some d) (upd (del H2 a) d (.xd fs))) q fun a s2 s' H2 hn hs kp I2 os2 os' bare un hok hq => ?_
  obtain ⟨d, fs, h1, h2, h3, hq⟩ := hq
  obtain ⟨hp, g1, d1, t1, os1⟩ := s1
  obtain ⟨hp2, g2, d2, t2, osx⟩ := s2
  obtain ⟨h', g', d', t', os3⟩ := s'
  obtain ⟨t0, G, IG, kG, nG, gG, nH⟩ := mk_end0 I1 hs kp un hok (os'.trans os2) bare h1 h2 h3
  refine ⟨a, _, _, ⟨G, g', d', t', os3⟩, _, _, _, rfl, IG, kG, nG, gG, ⟨rfl, rfl, fun vs hv => ?_⟩, rfl, rfl, nH, rfl, bare, ?_, hq⟩
  · cases hv
    rfl
  · exact raises_own T.exC T.tyC
end
end L2
namespace AW
open L2
theorem takesN_len {X : Cx} {W : WX} {m : Nat} (tk : L2N.Takes X W) (h : X.N.length = m := by rfl) : L2N.Takes X (fun cls d σ H => σ.length = m → W cls d σ H) :=
  fun u s' ⟨a, B, sI, pins, σ, H, cls, d, e, I, nb, up, sky, na, os, ag, w⟩ => tk u s' ⟨a, B, sI, pins, σ, H, cls, d, e, I, nb, up, sky, na, os, ag, w (I.len.trans h)⟩
end AW

/-! C(.., k = v) at the abstract layer. -/
namespace L2
open PySem PySem.Spec PyProof.Rows
/-- o.m(k = v, ..), no positional argument -/
def tMethKW (C : Addr) (m : Str) (b : Nat) (sp : Sp) (gV : List V → List V → List V) (E : XK) (ta : TE) (tk : TA) : TE := fun σ H Q => ta σ H fun x H1 => ∃ a dx fs, x = .ref a ∧ H1 a = some (.ins C dx fs) ∧ fs.lookup m = none ∧ tk σ H1 fun zs H2 => zs.length = b ∧ sp (gV [x] zs) H2 Q E
section
variable {X : Cx} {CX : CXT} {k : Nat} {f C : Addr} {fd : FuncData} {ps ks : List Str} {sp : Sp} {E : XK} {m : Str} {apos pos : Pos} {o : Expr} {kws : List Keyword} {ta : TE} {tk : TA} {g : List Value → List Value → List Value} {gV : List V → List V → List V}
theorem pe_methKW {pl : Sem Bool} (he : PE X o ta) (c : Cls X.K C) (hm : Meth X.K C m f) (F : FnOk X.prog X.w X.K X.mg X.base CX k f fd ps sp) (hr : Room k X.A) (hb : KBn X.K fd ps 1 ks g gV) (hx : Passes CX X E) (hkw : PK X kws tk)
    (hall : (backToKw pos (keywordEach kws X.env)).all (·.1.isSome) = true := by rfl) (hks : (backToKw pos (keywordEach kws X.env)).filterMap (·.1) = ks := by rfl)
    (hpl : ((backTo pos (starEach [] X.env)).any (·.1) || (backToKw pos (keywordEach kws X.env)).any (·.1.isNone)) = false := by rfl)
    (ht : eval (.Call (.Attribute o m apos) [] kws pos) X.env = (do
      let ov ← eval o X.env
      standAt apos.atName
      let (fn, first) ← holding [ov] (getMethod ov m pl)
      callWith pos fn first (backTo pos (starEach [] X.env)) (backToKw pos (keywordEach kws X.env))) := by rfl) :
    PE X (.Call (.Attribute o m apos) [] kws pos) (tMethKW C m ks.length sp gV E ta tk) := by
  refine ⟨fun pins s σ H Q I h => ?_⟩
  refine PySem.W.methodCall_KW (pl := pl) (thn (he.run pins s σ H _ I h) fun u s1 ⟨x, H1, I1, rx, a, dx, fs, ex, ea, l, q⟩ => ?_) ht
  subst ex
  cases (show u = Value.ref a from rx)
  refine getmeth_ok I1 ea c hm l ?_
  refine PySem.W.callWith_KW0 (first := [.ref a]) (h₀ := X.base) I1.ok.mod.kin hm.kp hall ?_ hpl
  refine thn (hkw.run pos pins s1 σ H1 _ I1 q) fun ws s2 ⟨zs, H2, I2, rz, lz, q2⟩ => ⟨I2.kIn, ?_⟩
  rw [hks]
  have r1 : Vals [V.ref a] [Value.ref a] := .cons rfl .nil
  have lw : ws.length = ks.length := rz.length.symm.trans lz
  refine wpAny_call (codeAny_mono (F.run X.A X.stack s2 H2 ⟨[.ref a], ks.zip ws⟩ (g [.ref a] ws) (gV [.ref a] zs) Q E hr I2.env0 (hb.to s2 [.ref a] ws I2.kIn rfl lw) (hb.rel r1 rz) q2) fun r s' hq => ?_)
  cases r with
  | error e => exact hx pins σ H2 s2 e s' I2 hq
  | ok fl =>
    cases fl with
    | ret u => exact I2.after hq
    | next => exact False.elim hq
    | brk => exact False.elim hq
    | cont => exact False.elim hq
end
end L2
namespace AW
open PySem PySem.Spec PyProof.Rows L2
section
variable {c : Cw} {kn : Hp} {n : Nat} {σ : L2.St} {Q : V → Hp → Nat → Prop} {E : XK} {EA : EAK} {B : List V → Hp → AK → AXK → Prop} {C : Addr} {a b : Nat} {gV : List V → List V → List V} {t tk : TA}
theorem w_makeN (hm : MonoX B) (hE : ErrOk c EA E) (h : W c (t σ) kn n fun vs kn1 n1 => W c (tk σ) kn1 n1 fun zs kn2 n2 => vs.length = a ∧ zs.length = b ∧ ∀ x dx, kn2 x = none → kn2 dx = none → dx ≠ x →
    B (gV (.ref x :: vs) zs) (upd (upd kn2 dx (.own x)) x (.ins C dx [])) (fun v k => v = .non ∧ Q (.ref x) k n2) (fun cls d k => EA cls d k n2)) : W c (tMakeN C a b (liftX B) gV E t tk σ) kn n Q :=
  fun H g Q' q => h H g _ fun vs kn1 n1 H1 h1 g1 => h1 H1 g1 _ fun zs kn2 n2 H2 ⟨l1, l2, h2⟩ g2 => ⟨l1, l2, fun x dx hx hdx hne => by
    have hx2 : upd H2 dx (.own x) x = none := by rw [upd_ne (Ne.symm hne)]; exact hx
    exact sp_call (c := c) (n := n2) (Q := fun v k m => v = .non ∧ Q (.ref x) k m) hm hE (h2 x dx (g2.free hx) (g2.free hdx) hne) _ ((g2.new hdx).new hx2) (fun v H3 => v = .non ∧ Q' (.ref x) H3) fun v k m H3 hq g3 => ⟨hq.1, q _ _ _ _ hq.2 g3⟩⟩
theorem w_makeK (hm : MonoX B) (hE : ErrOk c EA E) (h : W c (t σ) kn n fun vs kn1 n1 => W c (tk σ) kn1 n1 fun zs kn2 n2 => vs.length = a ∧ zs.length = b ∧ ∀ x dx, kn2 x = none → kn2 dx = none → dx ≠ x →
    B (gV (.ref x :: vs) zs) (upd (upd kn2 dx (.own x)) x (.ins C dx [])) (fun v k => v = .non ∧ Q (.ref x) k n2) (fun cls d k => EA cls d k n2)) : W c (tMakeK C a b (liftX B) gV E t tk σ) kn n Q :=
  fun H g Q' q => h H g _ fun vs kn1 n1 H1 h1 g1 => h1 H1 g1 _ fun zs kn2 n2 H2 ⟨l1, l2, h2⟩ g2 => ⟨l1, l2, fun x dx hx hdx hne => by
    have hx2 : upd H2 dx (.own x) x = none := by rw [upd_ne (Ne.symm hne)]; exact hx
    exact sp_call (c := c) (n := n2) (Q := fun v k m => v = .non ∧ Q (.ref x) k m) hm hE (h2 x dx (g2.free hx) (g2.free hdx) hne) _ ((g2.new hdx).new hx2) (fun v H3 => v = .non ∧ Q' (.ref x) H3) fun v k m H3 hq g3 => ⟨hq.1, q _ _ _ _ hq.2 g3⟩⟩
theorem w_methKW {m : Str} {ta : TE} (hm : MonoX B) (hE : ErrOk c EA E) (h : W c (ta σ) kn n fun x kn1 n1 => ∃ a dx fs, x = .ref a ∧ kn1 a = some (.ins C dx fs) ∧ fs.lookup m = none ∧
    W c (tk σ) kn1 n1 fun zs kn2 n2 => zs.length = b ∧ B (gV [.ref a] zs) kn2 (fun v k => Q v k n2) (fun cls d k => EA cls d k n2)) : W c (tMethKW C m b (liftX B) gV E ta tk σ) kn n Q :=
  fun H g Q' q => h H g _ fun x kn1 n1 H1 h1 g1 => by
    obtain ⟨a, dx, fs, rfl, ha, hl, h2⟩ := h1
    exact ⟨a, dx, fs, rfl, g1.ex _ _ ha, hl, h2 H1 g1 _ fun zs kn2 n2 H2 ⟨lz, h3⟩ g2 => ⟨lz, sp_call hm hE h3 H2 g2 Q' q⟩⟩
end
end AW

/-! Own errors as values: made with keywords, made without an own __init__, their class asked, their fields read. -/
namespace PySem
namespace XVal
open Builtin PyProof.Rows
section
variable {prog : Program} {w : World} {A : Around} {EE : Value → Shared → Prop} {R : Result → Shared → Prop} {hp : Heap} {ge : Array GenState} {dr : Drawn} {tk : Nat} {ox : OsState}
variable {nm q : Str} {C N : Addr} {bs bm bmB : List Value} {hdct : Bool} {sn : List Str} {sub : List Value} {ab : Bool} {col : Option Bool} {dd : Option Addr} {k0 k1 k2 k3 k5 : Option Value} {B newId initId : String}
variable {xs : List Value} {kws : List (Str × Value)}
theorem new_checked {M : Model} (F : ExcBaseFacts B newId initId bmB) (sameT : ∀ T : String, bm.contains (.type T) = bmB.contains (.type T)) {Q : Unit → Shared → Prop}
    (gC : hp.get? C = some (excClassObj nm q C N bs bm hdct sn sub ab col dd k0 k1 k2 k3 k5 newId)) (go : Q () ⟨hp, ge, dr, tk, ox⟩) : wpAny M A (checkBuiltinCall newId ⟨.ref C :: xs, kws⟩) Q EE ⟨hp, ge, dr, tk, ox⟩ := by
  have inB : (Value.ref C :: bm).contains (.type B) = true := by rw [List.contains_cons, sameT, F.hasB, Bool.or_true]
  have st := F.noStar
  simp only [checkBuiltinCall, F.newKind, F.newSplit, F.newRow]
  repeat (first | refine wpAny_loadPart_at gC ?_ | (refine wpAny_isSubtype_exc gC ?_; rw [inB]) | refine wpAny_staticBase_exc gC ?_ | refine wpAny_madeBy_exc gC ?_ | simp only [bne_self_eq_false, Bool.false_eq_true, if_false] | wp_step)
  exact go
theorem new_made (F : ExcBaseFacts B newId initId bmB) (sameT : ∀ T : String, bm.contains (.type T) = bmB.contains (.type T)) (small : xs.length ≤ sizeLine)
    (gC : hp.get? C = some (excClassObj nm q C N bs bm hdct sn sub ab col dd k0 k1 k2 k3 k5 newId))
    (go : R (.ok (.ret (.ref (hp.objs.size + 1)))) ⟨(hp.push (PySem.W.kdv_tup xs)).push (HandSPX.excO C hp.objs.size), ge, dr, tk, ox⟩) :
    codeAny (model prog w) A (.builtin newId ⟨.ref C :: xs, kws⟩) R ⟨hp, ge, dr, tk, ox⟩ := by
  have en := F.ends
  have inB : (Value.ref C :: bm).contains (.type B) = true := by rw [List.contains_cons, sameT, F.hasB, Bool.or_true]
  have noA : (Value.ref C :: bm).contains (.type "AttributeError") = false := by rw [List.contains_cons, sameT, F.noAttr]; rfl
  have noN : (Value.ref C :: bm).contains (.type "NameError") = false := by rw [List.contains_cons, sameT, F.noName]; rfl
  have small := small
  refine codeAny_builtinAt F.entry ?_
  unfold Builtin.«BaseException.__new__»
  refine wpAt_bind ?_
  show wpAt _ _ _ (stack >>= _) _ _ _
  refine wpAt_bind (wpAt_stack fun pp bb => wpAt_of_wpAny ?_)
  wp_walk
  refine wpAt_of_wpAny ?_
  rw [F.owner]
  repeat (first | with_reducible refine wpAny_madeHere_exc F.canon gC ?_ | with_reducible refine wpAny_loadPart_at gC ?_ | (with_reducible refine wpAny_isSubtype_exc gC ?_; first | rw [inB] | rw [noA] | rw [noN]) | wp_step)
  show R _ _
  rw [Heap.size_push]
  exact go
theorem type_called (F : ExcBaseFacts B newId initId bmB) (sameT : ∀ T : String, bm.contains (.type T) = bmB.contains (.type T)) (small : xs.length ≤ sizeLine) {fI : Addr} {Q : Fin → Shared → Prop}
    (gC : hp.get? C = some (excClassObj nm q C N bs bm hdct sn sub ab col dd k0 k1 k2 k3 k5 newId))
    (gi : W.Looks (model prog w) hp (typeLookup (.ref C) "__init__") (some (.ref fI))) (gb : ∀ self, W.Looks (model prog w) hp (bindSpecial (.ref fI) self) (.ref fI, [self]))
    (go : codeAny (model prog w) A (.call (.ref fI) ⟨.ref (hp.objs.size + 1) :: xs, kws⟩)
      (fun r s' => match r with | .ok (.ret v) => v = .none ∧ Q (.done (.ret (.ref (hp.objs.size + 1)))) s' | .ok _ => False | .error e => EE e s')
      ⟨(hp.push (PySem.W.kdv_tup xs)).push (HandSPX.excO C hp.objs.size), ge, dr, tk, ox⟩) :
    wpAny (model prog w) A (Builtin.«type.__call__» ⟨.ref C :: xs, kws⟩) Q EE ⟨hp, ge, dr, tk, ox⟩ := by
  repeat (first | with_reducible refine wpAny_loadPart_at gC ?_ | with_reducible refine wpAny_madeBy_exc gC ?_ | wp_step)
  refine codeAny_call_builtin_code (Code.quiet_builtin _ F.quiet) (new_checked F sameT gC ?_)
  refine new_made F sameT small gC ?_
  show wpAny _ _ _ _ _ _
  have kk : ∀ b o, hp.get? b = some o → ((hp.push (PySem.W.kdv_tup xs)).push (HandSPX.excO C hp.objs.size)).get? b = some o := fun b o e => Heap.get?_push_of_some _ (Heap.get?_push_of_some _ e)
  have gC2 := kk _ _ gC
  have ge2 : ((hp.push (PySem.W.kdv_tup xs)).push (HandSPX.excO C hp.objs.size)).get? (hp.objs.size + 1) = some (HandSPX.excO C hp.objs.size) := by heap_get
  have inC : (Value.ref C :: bm).contains (.ref C) = true := by simp
  have i2 := gi.keeps kk
  have b2 := (gb (.ref (hp.objs.size + 1))).keeps kk
  unfold isInstance
  repeat (first | with_reducible refine wpAny_loadPart_at ge2 ?_ | (with_reducible refine wpAny_isSubtype_exc gC2 ?_; rw [inC]) | wp_step)
  show wpAny _ _ (typeLookup (.ref C) _) _ _ _
  refine i2.at ?_
  refine wpAny_holding (wpAny_bind (b2.at ?_))
  refine wpAny_bind (wpAny_call (codeAny_mono go fun r s' z => ?_))
  rcases r with e | (v | _ | _ | _) <;> first | exact z | exact z.elim | skip
  obtain ⟨rfl, z⟩ := z
  first
    | exact wpAny_pure (wpAny_pure z)
    | (wp_walk; exact z)
theorem called_kw (F : ExcBaseFacts B newId initId bmB) (sameT : ∀ T : String, bm.contains (.type T) = bmB.contains (.type T)) (small : xs.length ≤ sizeLine) {fI : Addr}
    (gC : hp.get? C = some (excClassObj nm q C N bs bm hdct sn sub ab col dd k0 k1 k2 k3 k5 newId))
    (gi : W.Looks (model prog w) hp (typeLookup (.ref C) "__init__") (some (.ref fI))) (gb : ∀ self, W.Looks (model prog w) hp (bindSpecial (.ref fI) self) (.ref fI, [self]))
    (go : codeAny (model prog w) (A.under (.builtin "type.__call__" ⟨.ref C :: xs, kws⟩)) (.call (.ref fI) ⟨.ref (hp.objs.size + 1) :: xs, kws⟩) (W.InitBack (hp.objs.size + 1) R)
      ⟨(hp.push (PySem.W.kdv_tup xs)).push (HandSPX.excO C hp.objs.size), ge, dr, tk, ox⟩) :
    codeAny (model prog w) A (.call (.ref C) ⟨xs, kws⟩) R ⟨hp, ge, dr, tk, ox⟩ := by
  have l1 := tc_lookup
  have l2 := tc_bind (.ref C)
  have isTy : (⟨hp, ge, dr, tk, ox⟩ : Shared).TypeIs (.ref C) "type" := ⟨_, gC, rfl⟩
  refine codeAny_of_tree ?_
  show wpAny _ _ (callAny (.ref C) _) _ _ _
  repeat (any_goals (first | assumption | with_reducible refine wpAny_loadPart_at gC ?_ | wp_step))
  refine ⟨rfl, ?_⟩
  refine codeAny_call_builtin_at (Code.quiet_builtin _ (by decide +kernel)) entry_typeCall (wpAny_check_type_call_sub gC (type_called F sameT small gC gi gb ?_))
  refine codeAny_mono go fun r s' z => ?_
  rcases r with e | (v | _ | _ | _) <;> exact z
end
end XVal
end PySem
namespace L2
open PySem PySem.Spec PyProof.Rows
section
variable {X : Cx} {CX : CXT} {k : Nat} {C fI : Addr} {fd : FuncData} {ps ks : List Str} {sp : Sp} {pins : List (Addr × Obj)} {σ : St} {H : Hp} {s : Shared} {ws : List Value} {zs : List V} {g : List Value → List Value → List Value} {gV : List V → List V → List V}
/-- C(k = v, ..), an own error with its own __init__ -/
def tMkK (C : Addr) (m : Nat) (sp : Sp) (gV : List V → List V → List V) (tk : TA) : TE := fun σ H Q => tk σ H fun zs H1 => zs.length = m ∧ ∀ a, H1 a = none → sp (gV [.ref a] zs) (upd H1 a (exo a C none)) (fun v H2 => v = .non ∧ Q (.ref a) H2) (fun _ _ _ => False)
theorem oexK_core (T : OexC X.K C) (iC : PySem.W.findIn X.K (.ref C) "__init__" = some (some (.ref fI))) (tI : PySem.W.typeIn X.K (.ref fI) = some (.type "function")) (F : FnOk X.prog X.w X.K X.mg X.base CX k fI fd ps sp) (hr : Room (k + 1) X.A) (hb : KBn X.K fd ps 1 ks g gV)
    (hx : Passes CX X (fun _ _ _ => False)) (I : Inv X pins σ H s) (rz : Vals zs ws) (lz : zs.length = ks.length) {Q : VK}
    (hsp : ∀ a, H a = none → sp (gV [.ref a] zs) (upd H a (exo a C none)) (fun v H2 => v = .non ∧ Q (.ref a) H2) (fun _ _ _ => False)) :
    wpAny (model X.prog X.w) X.A (call (.ref C) [] (ks.zip ws)) (EP X pins σ Q) X.xe s := by
  obtain ⟨hp, ge, dr, tk, os⟩ := s
  obtain ⟨nm, q, N, bs, bm, sn, sub, ab, col, dd, k0, k1, k2, k3, k5, lk, hbm⟩ := T.cls
  have keeps : ∀ b o, hp.get? b = some o → ((hp.push (PySem.W.kdv_tup [])).push (HandSPX.excO C hp.objs.size)).get? b = some o := fun b o e => Heap.get?_push_of_some _ (Heap.get?_push_of_some _ e)
  have hn : H (hp.objs.size + 1) = none := I.hok.fresh (Nat.le_succ _)
  have hsz : (hp.push (PySem.W.kdv_tup [])).objs.size = hp.objs.size + 1 := by simp [Heap.push]
  have I2 : Inv X pins σ (upd H (hp.objs.size + 1) (exo (hp.objs.size + 1) C none)) ⟨(hp.push (PySem.W.kdv_tup [])).push (HandSPX.excO C hp.objs.size), ge, dr, tk, os⟩ :=
    I.laid (t' := tk) keeps (Nat.le_succ _) (exo_ok (t1 := hp.objs.size) (by rw [← hsz]; exact Heap.get?_push_size _ rfl))
  refine wpAny_call ?_
  refine XVal.called_kw PySem.F.excBase_ValueError (fun Y => HandSPX.refsVE_contains Y _ hbm) (Nat.zero_le _) (I.kIn _ _ lk) (PySem.W.looks_findIn I.kIn iC) (fun self => PySem.W.bind_fn I.kIn self tI) ?_
  have r1 : Vals [V.ref (hp.objs.size + 1)] [Value.ref (hp.objs.size + 1)] := .cons rfl .nil
  have e2 := I2.env0
  refine codeAny_mono (F.run (X.A.under (.builtin "type.__call__" { pos := .ref C :: [], kw := ks.zip ws })) X.stack _ _ ⟨[.ref (hp.objs.size + 1)], ks.zip ws⟩ (g [.ref (hp.objs.size + 1)] ws) (gV [.ref (hp.objs.size + 1)] zs) _ _ (hr.make C [] (ks.zip ws)) ⟨e2.frames, e2.mod, e2.bs, e2.bsz, e2.funs, e2.frf, e2.hok, e2.bare⟩
    (hb.to _ [.ref (hp.objs.size + 1)] ws I2.kIn rfl (rz.length.symm.trans lz)) (hb.rel r1 rz) (hsp _ hn)) fun r s' hq => ?_
  cases r with
  | error e => exact hx pins σ _ _ e s' I2 hq
  | ok fl =>
    cases fl with
    | ret u =>
      obtain ⟨v, H', I3, rv, ev, q3⟩ := I2.after hq
      subst ev
      exact ⟨rv, ⟨V.ref (hp.objs.size + 1), H', I3, rfl, q3⟩⟩
    | next => exact False.elim hq
    | brk => exact False.elim hq
    | cont => exact False.elim hq
variable {x : Str} {kws : List Keyword} {tk : TA} {p pos : Pos}
theorem pe_oexK (T : OexC X.K C) (iC : PySem.W.findIn X.K (.ref C) "__init__" = some (some (.ref fI))) (tI : PySem.W.typeIn X.K (.ref fI) = some (.type "function")) (F : FnOk X.prog X.w X.K X.mg X.base CX k fI fd ps sp) (hr : Room (k + 1) X.A) (hb : KBn X.K fd ps 1 ks g gV)
    (hx : Passes CX X (fun _ _ _ => False)) (hg : Gl X x) (hm : X.mg x = some (.ref C)) (hkw : PK X kws tk)
    (hall : (backToKw pos (keywordEach kws X.env)).all (·.1.isSome) = true := by rfl) (hks : (backToKw pos (keywordEach kws X.env)).filterMap (·.1) = ks := by rfl) (hdb : (x == ("__debug__" : Str)) = false := by decide)
    (hpl : ((backTo pos (starEach [] X.env)).any (·.1) || (backToKw pos (keywordEach kws X.env)).any (·.1.isNone)) = false := by rfl) :
    PE X (.Call (.Name x p) [] kws pos) (tMkK C ks.length sp gV tk) := by
  refine ⟨fun pins s σ H Q I h => wpAny_Call_Name_kw (ld_glob I hg hm ?_ hdb)⟩
  refine PySem.W.callWith_KW0 (h₀ := X.base) I.ok.mod.kin T.kC hall ?_ hpl
  refine thn (hkw.run pos pins s σ H _ I h) fun ws s2 ⟨zs, H2, I2, rz, l2, q2⟩ => ⟨I2.kIn, ?_⟩
  rw [hks]
  exact oexK_core T iC tI F hr hb hx I2 rz l2 q2
/-- C(), an own error without an own __init__ -/
def tMk0 (C : Addr) : TE := fun _ H Q => ∀ a, H a = none → Q (.ref a) (upd H a (exo a C none))
theorem pe_oex0 (T : OexC X.K C) (iC : PySem.W.findIn X.K (.ref C) "__init__" = some (some (.builtin "ValueError.__init__"))) (hg : Gl X x) (hm : X.mg x = some (.ref C)) (hdb : (x == ("__debug__" : Str)) = false := by decide) :
    PE X (.Call (.Name x p) [] [] pos) (tMk0 C) := by
  refine ⟨fun pins s σ H Q I h => wpAny_Call_Name_kw (ld_glob I hg hm ?_ hdb)⟩
  obtain ⟨hp, ge, dr, tk, os⟩ := s
  obtain ⟨nm, q, N, bs, bm, sn, sub, ab, col, dd, k0, k1, k2, k3, k5, lk, hbm⟩ := T.cls
  refine PySem.W.callWith_K0 I.kIn T.kC ?_
  refine PySem.W.call_B PySem.F.excBase_ValueError (fun Y => HandSPX.refsVE_contains Y _ hbm) (I.kIn _ _ lk) (PySem.W.looks_findIn I.kIn iC) (Nat.zero_le _) fun h' kp he ht => ?_
  have I2 : Inv X pins σ (upd H (hp.objs.size + 1) (exo (hp.objs.size + 1) C none)) ⟨h', ge, dr, tk, os⟩ := I.laid (t' := tk) kp (Nat.le_succ _) (exo_ok (t1 := hp.objs.size + 2) he)
  exact ⟨V.ref (hp.objs.size + 1), _, I2, rfl, h _ (I.hok.fresh (Nat.le_succ _))⟩
/-! ### the class of such a value, its fields -/
theorem exo_inst {K : PySem.W.Frag} {a D : Addr} {d : Option Addr} {fs : List (Str × V)} (I : Inv X pins σ H s) (ea : H a = some (exo a D d)) (ed : ∀ dd, d = some dd → H dd = some (exd dd fs)) :
    ∃ (oe : Obj) (od : Option Obj), PySem.W.InstAt s.heap a oe D od ∧ (d.isSome = od.isSome) ∧ ∀ name, d.isSome = true → ∃ m : Str → Option Value, PySem.W.lookIn name (od.getD oe) = some (m name) ∧ ∀ f, RelO (fs.lookup f) (m f) := by
  obtain ⟨t1, ho⟩ := exo_at I.hok ea
  cases d with
  | none => exact ⟨_, none, ⟨ho, rfl, rfl, True.intro⟩, rfl, fun _ z => nomatch z⟩
  | some dd =>
    obtain ⟨mA, hns, hr⟩ := exd_at I.hok (ed dd rfl)
    obtain ⟨od, h2, hl⟩ := lookIn_ns hns
    exact ⟨_, some od, ⟨ho, rfl, rfl, h2⟩, rfl, fun name _ => ⟨mA, hl name, hr⟩⟩
theorem data_of {K : PySem.W.Frag} {D : Addr} {od : Option Obj} {name : Str} {a z : Value} (hc : (PySem.W.clsIn K D).isSome = true) (ha : PySem.W.findIn K (.ref D) name = some (some a)) (hg : PySem.W.specialIn K a "__get__" = some (some z)) (ht : PySem.W.takesIn K a = some true) :
    PySem.W.findObj K D od name = some (.bind z a) := by
  obtain ⟨cd, hc⟩ := Option.isSome_iff_exists.mp hc
  unfold PySem.W.findObj
  rw [hc, Option.bind_some, ha, Option.bind_some]
  simp [hg, ht]
/-- isinstance(e, c), e an own error that was made -/
def rIsV (K : PySem.W.Frag) : List V → Hp → VK → Prop := fun xs H Q => ∃ (a D : Addr) (d : Option Addr) (fs : List (Str × V)) (c : V) (cv : Value) (b : Bool), xs = [.ref a, c] ∧ ClsV c cv ∧ H a = some (exo a D d) ∧ (∀ dd, d = some dd → H dd = some (exd dd fs)) ∧ ExcC K D ∧ PySem.W.kitOne K (.ref D) cv = some b ∧ Q (.bl b) H
theorem call_isV : CallR X (.builtin "isinstance") (rIsV X.K) := by
  intro pins s σ H xs us Q I r h
  obtain ⟨a, D, d, fs, c, cv, b, rfl, hcv, ea, ed, G, e, q⟩ := h
  obtain ⟨u1, u2, rfl, r1, r2⟩ := vals2 r
  cases (show u1 = Value.ref a from r1)
  have ec := hcv.eq r2
  subst ec
  obtain ⟨oe, od, J, hd, _⟩ := exo_inst (K := X.K) I ea ed
  have hf := data_of (K := X.K) (D := D) (od := od) (name := "__class__") (by obtain ⟨cd, hc, _⟩ := PySem.W.any_some G.hd; rw [hc]; rfl) G.ha G.hn G.ht
  exact PySem.W.kia_one (PySem.W.kxc_kit G hf) I.kIn J e (fun z => nomatch z) fun tk => ⟨.bl b, H, I.tok tk, rfl, q⟩
/-- e.f, e such an error -/
def tXv (K : PySem.W.Frag) (te : TE) (f : Str) : TE := fun σ H Q => te σ H fun x H1 => ∃ (a D dd : Addr) (fs : List (Str × V)) (v : V), x = .ref a ∧ H1 a = some (exo a D (some dd)) ∧ H1 dd = some (exd dd fs) ∧ XfC K D ∧ PySem.W.findIn K (.ref D) f = some none ∧ fs.lookup f = some v ∧ Q v H1
theorem pe_xv {e : Expr} {te : TE} {pos : Pos} {n : Str} (he : PE X e te) (hb : attributeBase e n X.env (eval e X.env) = eval e X.env := by rfl) : PE X (.Attribute e n pos) (tXv X.K te n) := by
  refine ⟨fun pins s σ H Q I h => attr_of hb (thn (he.run pins s σ H _ I h) fun u s1 hh => ?_)⟩
  obtain ⟨x, H1, I1, rx, a, D, dd, fs, v, ex, ea, ed, T, hno, l, q⟩ := hh
  subst ex
  obtain rfl : u = Value.ref a := rx
  obtain ⟨oe, od, J, hd, hl⟩ := exo_inst (K := X.K) I1 ea (fun d' e' => by cases e'; exact ed)
  cases od with
  | none => cases hd
  | some od =>
    obtain ⟨m, h1, h2⟩ := hl n rfl
    obtain ⟨u, hu, ru⟩ := RelO.some_of (v := v) (o := m n) (by rw [← l]; exact h2 n)
    exact HandSPX.exc_get I1.kIn J T.ga T.gg T.exC (PySem.W.findObj_own T.hdC hno rfl (by rw [← hu]; exact h1)) (handed_of ru) ⟨v, H1, I1.tok _, ru, q⟩
end
end L2

/-! Texts of integers: what is read back is what was written. -/
namespace L2
namespace Tx1
open PySem PySem.NumText TL
/-- the text of an integer -/
abbrev dS (i : Int) : Str := Str.ofString (toString i)
theorem dS_nat (n : Nat) : tl (dS n) = numL n := tl_num n
theorem dS_neg {n : Nat} (h : 0 < n) : tl (dS (-(n : Int))) = 45 :: numL n := by
  obtain ⟨m, rfl⟩ : ∃ m, n = m + 1 := ⟨n - 1, by omega⟩
  have e : (toString (-((m + 1 : Nat) : Int))) = "-" ++ toString (((m + 1 : Nat) : Int)) := by
    have : (-((m + 1 : Nat) : Int)) = Int.negSucc m := by omega
    rw [this]
    rfl
  show tl (Str.ofString (toString (-((m + 1 : Nat) : Int)))) = _
  rw [e, tl_ofString, String.toList_append, List.map_append, ← tl_ofString (toString _)]
  rw [tl_num]
  rfl
theorem dS_cases (i : Int) : (∃ n : Nat, i = n ∧ tl (dS i) = numL n) ∨ (∃ n : Nat, 0 < n ∧ i = -(n : Int) ∧ tl (dS i) = 45 :: numL n) := by
  rcases Int.lt_or_le i 0 with h | h
  · refine .inr ⟨i.natAbs, by omega, by omega, ?_⟩
    have e : i = -((i.natAbs : Nat) : Int) := by omega
    have := dS_neg (n := i.natAbs) (by omega)
    rw [← e] at this
    exact this
  · refine .inl ⟨i.natAbs, by omega, ?_⟩
    have e : i = ((i.natAbs : Nat) : Int) := by omega
    have := dS_nat i.natAbs
    rw [← e] at this
    exact this
theorem numL_no45 (n : Nat) : ¬ 45 ∈ numL n := numL_free (.inl (by decide))
theorem dS_free {c : Nat} (h : c ≠ 45) (h2 : c < 48 ∨ 57 < c) (i : Int) : ¬ c ∈ tl (dS i) := by
  rcases dS_cases i with ⟨n, _, e⟩ | ⟨n, _, _, e⟩ <;> rw [e]
  · exact numL_free h2
  · intro hm
    rcases List.mem_cons.1 hm with hm | hm
    · exact h hm
    · exact numL_free h2 hm
theorem ext_str {a b : Str} (h : tl a = tl b) : a = b := by
  have := congrArg (fun l => ({ cps := l.toArray } : Str)) h
  exact (mk_tl a).symm.trans (this.trans (mk_tl b))
theorem dS_inj {i j : Int} (h : dS i = dS j) : i = j := by
  have h := congrArg tl h
  rcases dS_cases i with ⟨n, rfl, e⟩ | ⟨n, hn, rfl, e⟩ <;> rcases dS_cases j with ⟨m, rfl, e2⟩ | ⟨m, hm, rfl, e2⟩ <;> rw [e, e2] at h
  · rw [numL_inj h]
  · exact absurd (h ▸ List.mem_cons_self) (numL_no45 n)
  · exact absurd (h.symm ▸ List.mem_cons_self) (numL_no45 m)
  · rw [numL_inj (List.cons.inj h).2]
/-- the figures of a text without leading zeros -/
def canon (l : List Nat) : List Nat := match l.dropWhile (· == 48) with
  | [] => [48]
  | c :: r => c :: r
theorem toNat_ofNat {c : Nat} (h : 48 ≤ c ∧ c ≤ 57) : (Char.ofNat c).toNat = c := by
  obtain ⟨h1, h2⟩ := h
  have : ∀ c : Nat, c < 58 → (Char.ofNat c).toNat = c := by decide
  exact this c (by omega)
theorem mem_dropWhile {p : Nat → Bool} {c : Nat} : ∀ {l : List Nat}, c ∈ l.dropWhile p → c ∈ l
  | [], h => h
  | a :: l, h => by
    rw [List.dropWhile_cons] at h
    split at h
    · exact List.mem_cons_of_mem _ (mem_dropWhile h)
    · exact h
theorem numL_val_canon {l : List Nat} (h : AllDigits l) : numL (digitsVal l) = canon l := by
  unfold numL canon
  rw [toDigits_all l h]
  have hd : ∀ c ∈ l.dropWhile (· == 48), 48 ≤ c ∧ c ≤ 57 := fun c hc => h c (mem_dropWhile hc)
  revert hd
  generalize l.dropWhile (· == 48) = d
  intro hd
  cases d with
  | nil => rfl
  | cons c r =>
    show List.map Char.toNat (List.map Char.ofNat (c :: r)) = c :: r
    rw [List.map_map]
    exact (List.map_congr_left (fun a ha => toNat_ofNat (hd a ha))).trans (List.map_id _)
theorem len_dropWhile_le {p : Nat → Bool} : ∀ l : List Nat, (l.dropWhile p).length ≤ l.length
  | [] => Nat.le_refl _
  | a :: l => by
    rw [List.dropWhile_cons]
    split
    · have := len_dropWhile_le (p := p) l
      simp only [List.length_cons]
      omega
    · exact Nat.le_refl _
theorem canon_eq {l : List Nat} (hne : l ≠ []) : canon l = l ↔ (l = [48] ∨ l.head? ≠ some 48) := by
  cases l with
  | nil => exact absurd rfl hne
  | cons a r =>
    by_cases ha : a = 48
    · subst ha
      constructor
      · intro h
        left
        unfold canon at h
        rw [List.dropWhile_cons] at h
        simp only [BEq.rfl, if_true] at h
        have hl := len_dropWhile_le (p := (· == 48)) r
        revert h
        generalize hd : r.dropWhile (· == 48) = d
        rw [hd] at hl
        intro h
        cases d with
        | nil => exact h.symm
        | cons c t =>
          exfalso
          have := congrArg List.length h
          simp only [List.length_cons] at this hl
          omega
      · rintro (h | h)
        · rw [h]; rfl
        · exact absurd rfl h
    · constructor
      · intro _
        right
        simpa using ha
      · intro _
        unfold canon
        rw [List.dropWhile_cons]
        have : (a == 48) = false := by simpa using ha
        simp [this]
theorem val_lt : ∀ (k : Nat) (l : List Nat), AllDigits l → l.length ≤ k → digitsVal l < 10 ^ k := by
  intro k
  induction k with
  | zero =>
    intro l h hl
    have : l = [] := List.length_eq_zero_iff.1 (by omega)
    subst this
    decide
  | succ k ih =>
    intro l h hl
    rcases List.eq_nil_or_concat l with rfl | ⟨r, c, rfl⟩
    · show 0 < _
      exact Nat.pos_of_ne_zero (by simp)
    · rw [List.concat_eq_append] at h hl ⊢
      have hr := ih r (fun x hx => h x (List.mem_append_left _ hx)) (by simp at hl; omega)
      have hc := h c (List.mem_append_right _ (List.mem_singleton.2 rfl))
      rw [digitsVal_snoc]
      have : 10 ^ (k + 1) = 10 ^ k * 10 := rfl
      omega
end Tx1
end L2

namespace L2
namespace Tx1
open PySem PySem.NumText TL SX
abbrev minusS : Str := S [45]
abbrev plusS : Str := S [43]
theorem subAt_hd (w : Str) (c : Nat) : (decide (0 + (S [c]).length ≤ w.length) && Builtin.Str.subAt w (S [c]) 0) = decide ((tl w).head? = some c) := by
  unfold Builtin.Str.subAt
  have e1 : (S [c]).length = 1 := rfl
  rw [e1]
  obtain ⟨⟨l⟩⟩ := w
  cases l with
  | nil => simp [tl, Str.length]
  | cons a r =>
    simp only [Str.length, tl]
    by_cases h : a = c
    · subst h
      simp [S]
    · simp [S, h]
theorem rp_tl (w : Str) : tl (Txt.removeprefix w minusS) = if (tl w).head? = some 45 then (tl w).drop 1 else tl w := by
  rw [StrLaws.removeprefix_eq, subAt_hd]
  by_cases h : (tl w).head? = some 45
  · simp only [h, decide_true, if_true]
    show List.take _ _ = _
    have e1 : minusS.length = 1 := rfl
    rw [e1]
    apply List.take_of_length_le
    simp [Str.length]
  · simp [h]
theorem dec128 : ∀ c : Nat, c < 128 → Unicode.isDecimal c = (decide (48 ≤ c) && decide (c ≤ 57)) := by decide +kernel
theorem decimal_iff {d : Str} (ha : ∀ c ∈ tl d, c < 128) : Txt.isdecimal d = true ↔ tl d ≠ [] ∧ AllDigits (tl d) := by
  unfold Txt.isdecimal
  obtain ⟨⟨l⟩⟩ := d
  simp only [tl, Str.length] at *
  constructor
  · intro h
    simp at h
    refine ⟨by intro e; subst e; simp at h, fun c hc => ?_⟩
    have := h.2 c hc
    rw [dec128 c (ha c hc)] at this
    simpa using this
  · rintro ⟨h1, h2⟩
    simp
    refine ⟨by cases l with | nil => exact absurd rfl h1 | cons => simp, fun c hc => ?_⟩
    rw [dec128 c (ha c hc)]
    simpa using h2 c hc
/-- the text w is that of the integer n, of twelve figures at most -/
def isN (w : Str) (n : Int) : Prop := w = dS n ∧ n.natAbs < 10 ^ 12
theorem isN_uni {w : Str} {n m : Int} (h : isN w n) (g : isN w m) : n = m := dS_inj (h.1.symm.trans g.1)
theorem ascii_dS (i : Int) : ∀ c ∈ tl (dS i), c < 128 := by
  intro c hc
  rcases dS_cases i with ⟨n, _, e⟩ | ⟨n, _, _, e⟩ <;> rw [e] at hc
  · have := numL_digits n c hc
    omega
  · rcases List.mem_cons.1 hc with rfl | hc
    · decide
    · have := numL_digits n c hc
      omega
theorem head_numL (n : Nat) : (numL n).head? ≠ some 45 := by
  intro h
  exact numL_no45 n (List.mem_of_head? h)
theorem rp_dS {n : Int} : tl (Txt.removeprefix (dS n) minusS) = numL n.natAbs := by
  rw [rp_tl]
  rcases dS_cases n with ⟨m, rfl, e⟩ | ⟨m, hm, rfl, e⟩ <;> rw [e]
  · rw [if_neg (head_numL m)]
    rfl
  · rw [if_pos (show (45 :: numL m).head? = some 45 from rfl)]
    show numL m = _
    congr 1
    omega
theorem rn_no {w : Str} (h : 12 < (Txt.removeprefix w minusS).length ∨ Txt.isdecimal (Txt.removeprefix w minusS) = false) (n : Int) : ¬ isN w n := by
  rintro ⟨rfl, hn⟩
  have hl : (numL n.natAbs).length ≤ 12 := numL_len (by decide) hn
  have e := @rp_dS n
  rcases h with h | h
  · have : (Txt.removeprefix (dS n) minusS).length = (tl (Txt.removeprefix (dS n) minusS)).length := (len_tl _).symm ▸ rfl
    rw [this, e] at h
    omega
  · have : Txt.isdecimal (Txt.removeprefix (dS n) minusS) = true := (decimal_iff (by rw [e]; intro c hc; have := numL_digits _ c hc; omega)).2 (by rw [e]; exact ⟨numL_ne _, numL_digits _⟩)
    rw [h] at this
    exact absurd this (by decide)
theorem lenT (w : Str) : w.length = (tl w).length := by simp [Str.length, tl]
theorem int_dS {n : Int} (hn : n.natAbs < 10 ^ 12) : intText? (dS n) = some n := by
  have hl : (numL n.natAbs).length ≤ 12 := numL_len (by decide) hn
  rcases dS_cases n with ⟨m, rfl, e⟩ | ⟨m, hm, rfl, e⟩
  · exact int_num (by have : (m : Int).natAbs = m := by omega
                      rw [this] at hl; omega)
  · have : (-(m : Int)).natAbs = m := by omega
    rw [this] at hl
    rw [intText_neg e (numL_digits m) (numL_ne m) (by rw [lenT, e]; simp only [List.length_cons]; omega), numL_val]
theorem rn_yes {w : Str} (ha : ∀ c ∈ tl w, c < 128) (hl : (Txt.removeprefix w minusS).length ≤ 12) (hd : Txt.isdecimal (Txt.removeprefix w minusS) = true) : ∃ n, intText? w = some n ∧ n.natAbs < 10 ^ 12 ∧ w.length ≤ 13 ∧ (∀ m, isN w m → m = n) := by
  have e := rp_tl w
  rw [lenT] at hl
  have hd := (decimal_iff (by
    rw [e]
    split
    · exact fun c hc => ha c (List.mem_of_mem_drop hc)
    · exact ha)).1 hd
  revert hl hd
  rw [e]
  by_cases h : (tl w).head? = some 45
  · rw [if_pos h]
    obtain ⟨r, hr⟩ : ∃ r, tl w = 45 :: r := by
      cases hw : tl w with
      | nil => rw [hw] at h; exact absurd h (by decide)
      | cons a r => rw [hw] at h; exact ⟨r, by rw [Option.some.inj h]⟩
    rw [hr]
    simp only [List.drop_succ_cons, List.drop_zero]
    rintro hl ⟨h1, h2⟩
    have hi := intText_neg (x := w) hr h2 h1 (by rw [lenT, hr]; simp only [List.length_cons]; omega)
    refine ⟨_, hi, ?_, by rw [lenT, hr]; simp only [List.length_cons]; omega, fun m hm => ?_⟩
    · have := val_lt 12 r h2 hl
      omega
    · rw [hm.1, int_dS hm.2] at hi
      exact Option.some.inj hi
  · rw [if_neg h]
    rintro hl ⟨h1, h2⟩
    have hi : intText? w = some ((digitsVal (tl w) : Nat) : Int) := intText_digits (x := w) h2 h1 (by rw [lenT]; omega)
    refine ⟨_, hi, ?_, by rw [lenT]; omega, fun m hm => ?_⟩
    · have := val_lt 12 _ h2 hl
      omega
    · have h3 := int_dS hm.2
      rw [← hm.1, hi] at h3
      exact (Option.some.inj h3).symm
/-- the text w is that of a number from 0 on of k figures at most -/
def isC (k : Nat) (w : Str) : Prop := ∃ n : Nat, n < 10 ^ k ∧ w = dS n
theorem cnt_yes {k : Nat} {w : Str} (hd : AllDigits (tl w)) (hne : tl w ≠ []) (hl : w.length ≤ k) (h : tl w = [48] ∨ (tl w).head? ≠ some 48) : isC k w := by
  refine ⟨digitsVal (tl w), val_lt k _ hd (by rw [← lenT]; exact hl), ext_str ?_⟩
  rw [dS_nat, numL_val_canon hd]
  exact ((canon_eq hne).2 h).symm
theorem cnt_no {k : Nat} {w : Str} (hk : 0 < k) (h : isC k w) : AllDigits (tl w) ∧ tl w ≠ [] ∧ w.length ≤ k ∧ (tl w = [48] ∨ (tl w).head? ≠ some 48) := by
  obtain ⟨n, hn, rfl⟩ := h
  rw [lenT, dS_nat]
  refine ⟨numL_digits n, numL_ne n, numL_len hk hn, (canon_eq (numL_ne n)).1 ?_⟩
  rw [← numL_val_canon (numL_digits n), numL_val]
/-- the law's bare text of head -/
def bareOf (h : Str) : Str := if (tl h).head? = some 45 then S ((tl h).drop 1) else h
theorem isN_bare {h : Str} : (isC 12 (bareOf h) ∧ h ≠ S [45, 48]) ↔ ∃ f, isN h f := by
  unfold bareOf
  constructor
  · rintro ⟨⟨n, hn, e⟩, h0⟩
    by_cases hh : (tl h).head? = some 45
    · rw [if_pos hh] at e
      obtain ⟨r, hr⟩ : ∃ r, tl h = 45 :: r := by
        cases hw : tl h with
        | nil => rw [hw] at hh; exact absurd hh (by decide)
        | cons a r => rw [hw] at hh; exact ⟨r, by rw [Option.some.inj hh]⟩
      rw [hr] at e
      have e2 : r = numL n := by
        have := congrArg tl e
        rw [dS_nat] at this
        exact this
      have n0 : 0 < n := by
        apply Nat.pos_of_ne_zero
        rintro rfl
        apply h0
        apply ext_str
        rw [hr, e2]
        rfl
      refine ⟨-(n : Int), ext_str ?_, by omega⟩
      rw [dS_neg n0, hr, e2]
    · rw [if_neg hh] at e
      exact ⟨n, e, by omega⟩
  · rintro ⟨f, rfl, hf⟩
    rcases dS_cases f with ⟨m, rfl, e⟩ | ⟨m, hm, rfl, e⟩
    · rw [if_neg (by rw [e]; exact head_numL m)]
      refine ⟨⟨m, by omega, rfl⟩, fun hx => ?_⟩
      have := congrArg tl hx
      rw [e] at this
      exact numL_no45 m (this ▸ List.mem_cons_self)
    · rw [if_pos (by rw [e]; rfl), e]
      refine ⟨⟨m, by omega, ext_str (by rw [dS_nat]; rfl)⟩, fun hx => ?_⟩
      have := congrArg tl hx
      rw [e] at this
      have h2 := (List.cons.inj this).2
      have : digitsVal (numL m) = digitsVal [48] := by rw [h2]
      rw [numL_val] at this
      have z : digitsVal [48] = 0 := rfl
      omega
end Tx1
end L2

namespace L2
namespace Tx1
open PySem PySem.NumText TL SX
/-- what a text of a stay tells -/
def okT (f n : Int) : Prop := f.natAbs < 10 ^ 12 ∧ 1 ≤ n ∧ n ≤ 400 ∧ f + n < 10 ^ 12
def txt (f n : Int) : Str := dS f ++ plusS ++ dS n
def isT (x : Str) : Prop := ∃ f n, okT f n ∧ x = txt f n
theorem plus_free (i : Int) : ¬ 43 ∈ tl (dS i) := dS_free (by decide) (by decide) i
theorem tl_txt (f n : Int) : tl (txt f n) = tl (dS f) ++ 43 :: tl (dS n) := by
  unfold txt
  rw [tl_append, tl_append]
  show _ ++ [43] ++ _ = _
  rw [List.append_assoc]
  rfl
theorem kind_plus (x : Str) : ¬ Builtin.Str.strKind x < Builtin.Str.strKind plusS := by
  have : Builtin.Str.strKind plusS = 1 := by decide +kernel
  rw [this]
  unfold Builtin.Str.strKind
  split
  · decide
  · split <;> decide
theorem split_txt (f n : Int) : Txt.split (txt f n) plusS = [dS f, dS n] := by
  apply map_tl_inj
  rw [split_spl _ _ (by decide) (kind_plus _), tl_txt]
  show spl [43] 0 [] _ = _
  have h := spl_part1 (s := 43) (S := []) (p := tl (dS f)) (rest := tl (dS n)) (acc := []) (plus_free f)
  simp only [List.singleton_append, List.nil_append] at h
  rw [h, spl_last1 (plus_free n)]
  rfl
theorem split_two {x a b : Str} (h : Txt.split x plusS = [a, b]) : x = a ++ plusS ++ b := by
  have := StrLaws.join_split x plusS
  rw [h, ← StrLaws.glued_eq_join] at this
  rw [← this]
  apply ext_str
  show (Builtin.Str.glued _ _).cps.toList = _
  rw [StrLaws.glued_list]
  rw [tl_append, tl_append]
  simp [StrLaws.glueT, StrLaws.glueL, tl]
theorem part_txt (f n : Int) : Txt.partition (txt f n) plusS = (dS f, plusS, dS n) := partition_app (s := 43) (S := []) rfl (plus_free f)
theorem part_cases (x : Str) : (¬ 43 ∈ tl x ∧ Txt.partition x plusS = (x, Str.empty, Str.empty)) ∨ (∃ h t, x = h ++ plusS ++ t ∧ Txt.partition x plusS = (h, plusS, t)) := by
  by_cases hx : 43 ∈ tl x
  · right
    obtain ⟨p, q, hp, hpq⟩ : ∃ p q, ¬ 43 ∈ p ∧ tl x = p ++ 43 :: q := by
      revert hx
      generalize tl x = l
      intro hx
      induction l with
      | nil => exact absurd hx (by simp)
      | cons a r ih =>
        by_cases ha : a = 43
        · exact ⟨[], r, by simp, by rw [ha]; rfl⟩
        · have hr : 43 ∈ r := by
            rcases List.mem_cons.1 hx with h | h
            · exact absurd h.symm ha
            · exact h
          obtain ⟨p, q, h1, h2⟩ := ih hr
          refine ⟨a :: p, q, ?_, by rw [h2]; rfl⟩
          intro hm
          rcases List.mem_cons.1 hm with h | h
          · exact ha h.symm
          · exact h1 h
    refine ⟨S p, S q, ext_str ?_, ?_⟩
    · rw [tl_append, tl_append, hpq]
      show _ = p ++ [43] ++ q
      rw [List.append_assoc]
      rfl
    · have e : x = S p ++ plusS ++ S q := ext_str (by
        rw [tl_append, tl_append, hpq]
        show _ = p ++ [43] ++ q
        rw [List.append_assoc]
        rfl)
      rw [e]
      exact partition_app (s := 43) (S := []) rfl hp
  · exact .inl ⟨hx, partition_none (s := 43) (S := []) rfl hx⟩
/-- the law's own look: what partition tells of the text -/
theorem isT_part (x : Str) : isT x ↔ ((Txt.partition x plusS).2.1 ≠ Str.empty ∧ ∃ f n, isN (Txt.partition x plusS).1 f ∧ (Txt.partition x plusS).2.2 = dS n ∧ okT f n) := by
  constructor
  · rintro ⟨f, n, ok, rfl⟩
    rw [part_txt]
    refine ⟨?_, f, n, ⟨rfl, ok.1⟩, rfl, ok⟩
    show plusS ≠ Str.empty
    decide
  · rcases part_cases x with ⟨hx, e⟩ | ⟨h, t, rfl, e⟩ <;> rw [e]
    · rintro ⟨h, _⟩
      exact absurd rfl h
    · rintro ⟨_, f, n, ⟨h1, _⟩, h2, ok⟩
      exact ⟨f, n, ok, by rw [show h = dS f from h1, show t = dS n from h2]; rfl⟩
theorem isT_split {x : Str} {a b : Str} {f n : Int} (h : Txt.split x plusS = [a, b]) (ha : isN a f) (hb : isN b n) : x = txt f n := by
  rw [split_two h, ha.1, hb.1]
  rfl
theorem txt_inj {f n g m : Int} (h : txt f n = txt g m) : f = g ∧ n = m := by
  have h := congrArg (fun x => Txt.split x plusS) h
  simp only [split_txt] at h
  exact ⟨dS_inj (List.cons.inj h).1, dS_inj (List.cons.inj (List.cons.inj h).2).1⟩
end Tx1
end L2

/-! Words of texts. -/
namespace L2
open PySem PySem.Spec PyProof.Rows Tx1
section
variable {X : Cx}
def rMRp : V → List V → Hp → VK → Prop := fun x xs H Q => ∃ a b, x = .str a ∧ xs = [.str b] ∧ a.length ≤ sizeLine ∧ Q (.str (Txt.removeprefix a b)) H
theorem m_rp : MtR X "str.removeprefix" rMRp := mt_removeprefix
def rMDec : V → List V → Hp → VK → Prop := fun x xs H Q => ∃ a, x = .str a ∧ xs = [] ∧ True ∧ Q (.bl (Txt.isdecimal a)) H
theorem m_dec : MtR X "str.isdecimal" rMDec := mt_isdecimal
def rLenS : List V → Hp → VK → Prop := fun xs H Q => ∃ a, xs = [.str a] ∧ a.length ≤ sizeLine ∧ Q (.int a.length) H
theorem c_lenS : CallR X (.builtin "len") rLenS := by
  intro pins s σ H xs us Q I r ⟨a, e, hl, q⟩
  exact call_len pins s σ H xs us Q I r ⟨.str a, a.length, e, ⟨hl, rfl⟩, q⟩
def rIntS : List V → Hp → VK → Prop := fun xs H Q => ∃ a n, xs = [.str a] ∧ intText? a = some n ∧ a.length ≤ 640 ∧ Q (.int n) H
theorem c_intS : CallR X (.type "int") rIntS := call_int_str
def rAddT : R2 := fun x y H Q => ∃ i j, x = .str i ∧ y = .str j ∧ i.length + j.length ≤ sizeLine ∧ Q (.str (i ++ j)) H
theorem op_addT : OpR X (binaryOp .Add) rAddT := op_add_str
def rNotInT : R2 := fun x y H Q => ∃ i j, x = .str i ∧ y = .str j ∧ Q (.bl !!(Builtin.Str.occurrences j i 0 j.length 1).isEmpty) H
theorem op_notInT : OpR X (compareOp .NotIn) rNotInT := op_notIn_str
def rMSplit : V → List V → Hp → VK → Prop := fun x xs H Q => ∃ a b, x = .str a ∧ xs = [.str b] ∧ (b.length == 0) = false ∧ a.length + 2 ≤ sizeLine ∧ rNewStrs (Txt.split a b) H Q
def rMPart : V → List V → Hp → VK → Prop := fun x xs H Q => ∃ a b, x = .str a ∧ xs = [.str b] ∧ (b.length == 0) = false ∧ a.length ≤ sizeLine ∧ ∀ p : Addr, H p = none → Q (.ref p) (upd H p (.tup [.str (Txt.partition a b).1, .str (Txt.partition a b).2.1, .str (Txt.partition a b).2.2]))
variable {o e : Expr} {to te : TE} {apos pos : Pos}
theorem pe_splitQ (ho : PE X o to) (he : PE X e te) (hs : starEach [e] X.env = [(false, eval e X.env)] := by rfl) (hb : attributeBase o "split" X.env (eval o X.env) = eval o X.env := by rfl) (hp : (apos.endLine == pos.line) = true := by rfl) :
    PE X (.Call (.Attribute o "split" apos) [e] [] pos) (tM1 rMSplit to te) := pe_split ho he hs hb hp
theorem pe_partQ (ho : PE X o to) (he : PE X e te) (hs : starEach [e] X.env = [(false, eval e X.env)] := by rfl) (hb : attributeBase o "partition" X.env (eval o X.env) = eval o X.env := by rfl) (hp : (apos.endLine == pos.line) = true := by rfl) :
    PE X (.Call (.Attribute o "partition" apos) [e] [] pos) (tM1 rMPart to te) := pe_partition ho he hs hb hp
def rIxZ : R2 := fun x y H Q => ∃ z i c, x = .str z ∧ y = .int i ∧ 0 ≤ i ∧ i < 2 ^ 63 ∧ i < ↑z.length ∧ z.cps[i.toNat]? = some c ∧ Q (.str { cps := #[c] }) H
theorem pe_itemZ {a b : Expr} {ta tb : TE} (ha : PE X a ta) (hb : PE X b tb) (hp : PlainIxT b) : PE X (.Subscript a b pos) (tOp rIxZ ta tb) := pe_item_str ha hb hp
end
end L2
namespace AW
open PySem PySem.Spec PyProof.Rows L2 ClX Tx1
section
variable {c : Cw} {kn : Hp} {n : Nat} {σ : L2.St} {K : PySem.W.Frag} {Q : V → Hp → Nat → Prop} {E : XK} {EA : EAK} {B : List V → Hp → AK → AXK → Prop}
theorem sz {m : Nat} (h : m ≤ 100000) : m ≤ sizeLine := Nat.le_trans h (by rw [sizeLine_eq]; decide)
theorem w_bmS {r : V → List V → Hp → VK → Prop} {to : TE} {t : TA} (h : W c (to σ) kn n fun x kn1 n1 => (∃ a, x = .str a) ∧ W c (t σ) kn1 n1 fun xs kn2 n2 => W c (r x xs) kn2 n2 Q) : W c (tBM K "str" r to t σ) kn n Q :=
  fun H g Q' q => h H g _ fun x kn1 n1 H1 ⟨⟨a, e⟩, h1⟩ g1 => ⟨by subst e; exact rfl, h1 H1 g1 _ fun xs kn2 n2 H2 h2 g2 => h2 H2 g2 Q' q⟩
theorem w_bmS0 {r : V → List V → Hp → VK → Prop} {to : TE} (h : W c (to σ) kn n fun x kn1 n1 => (∃ a, x = .str a) ∧ W c (r x []) kn1 n1 Q) : W c (tBM0 K "str" r to σ) kn n Q :=
  fun H g Q' q => h H g _ fun x kn1 n1 H1 ⟨⟨a, e⟩, h1⟩ g1 => ⟨by subst e; exact rfl, h1 H1 g1 Q' q⟩
theorem w_m1 {r : V → List V → Hp → VK → Prop} {to te : TE} (h : W c (to σ) kn n fun x kn1 n1 => (∃ a, x = .str a) ∧ W c (te σ) kn1 n1 fun y kn2 n2 => W c (r x [y]) kn2 n2 Q) : W c (tM1 r to te σ) kn n Q :=
  fun H g Q' q => h H g _ fun x kn1 n1 H1 ⟨e, h1⟩ g1 => ⟨e, h1 H1 g1 _ fun xs kn2 n2 H2 h2 g2 => h2 H2 g2 Q' q⟩
theorem r_rp {a b : Str} (hl : a.length ≤ 100000) (q : Q (.str (Txt.removeprefix a b)) kn n) : W c (rMRp (.str a) [.str b]) kn n Q := fun H g _ k => ⟨a, b, rfl, rfl, sz hl, k _ kn n H q g⟩
theorem r_dec {a : Str} (q : Q (.bl (Txt.isdecimal a)) kn n) : W c (rMDec (.str a) []) kn n Q := fun H g _ k => ⟨a, rfl, rfl, trivial, k _ kn n H q g⟩
theorem r_lenS {a : Str} (hl : a.length ≤ 100000) (q : Q (.int a.length) kn n) : W c (rLenS [.str a]) kn n Q := fun H g _ k => ⟨a, rfl, sz hl, k _ kn n H q g⟩
theorem r_intS {a : Str} {i : Int} (hi : intText? a = some i) (hl : a.length ≤ 640) (q : Q (.int i) kn n) : W c (rIntS [.str a]) kn n Q := fun H g _ k => ⟨a, i, rfl, hi, hl, k _ kn n H q g⟩
theorem r_addT {a b : Str} (hl : a.length + b.length ≤ 100000) (q : Q (.str (a ++ b)) kn n) : W c (rAddT (.str a) (.str b)) kn n Q := fun H g _ k => ⟨a, b, rfl, rfl, sz hl, k _ kn n H q g⟩
theorem r_notInT {a b : Str} (q : Q (.bl !!(Builtin.Str.occurrences b a 0 b.length 1).isEmpty) kn n) : W c (rNotInT (.str a) (.str b)) kn n Q := fun H g _ k => ⟨a, b, rfl, rfl, k _ kn n H q g⟩
theorem r_split {a b : Str} (hb : (b.length == 0) = false) (hl : a.length + 2 ≤ 100000) (q : ∀ p, kn p = none → Q (.ref p) (upd kn p (.lst ((Txt.split a b).map V.str))) n) : W c (rMSplit (.str a) [.str b]) kn n Q :=
  fun H g _ k => ⟨a, b, rfl, rfl, hb, sz hl, fun p hp => k _ _ n _ (q p (g.free hp)) (g.new hp)⟩
theorem r_part {a b : Str} (hb : (b.length == 0) = false) (hl : a.length ≤ 100000) (q : ∀ p, kn p = none → Q (.ref p) (upd kn p (.tup [.str (Txt.partition a b).1, .str (Txt.partition a b).2.1, .str (Txt.partition a b).2.2])) n) : W c (rMPart (.str a) [.str b]) kn n Q :=
  fun H g _ k => ⟨a, b, rfl, rfl, hb, sz hl, fun p hp => k _ _ n _ (q p (g.free hp)) (g.new hp)⟩
theorem r_ixZ {z : Str} {i : Int} {d : Nat} (h0 : 0 ≤ i) (h1 : i < 2 ^ 63) (h2 : i < z.length) (h3 : z.cps[i.toNat]? = some d) (q : Q (.str { cps := #[d] }) kn n) : W c (rIxZ (.str z) (.int i)) kn n Q := fun H g _ k => ⟨z, i, d, rfl, rfl, h0, h1, h2, h3, k _ kn n H q g⟩
theorem r_slS {z : Str} {lo hi : Option Int} (hl : z.length ≤ 100000) (q : Q (.str (cutS z lo hi)) kn n) : W c (rSlS (.str z) lo hi) kn n Q := fun H g _ k => ⟨z, rfl, sz hl, k _ kn n H q g⟩
/-- a classmethod -/
theorem w_cmeth {C : Addr} {ta : TE} {t : TA} (hm : MonoX B) (hE : ErrOk c EA E) (h : W c (ta σ) kn n fun x kn1 n1 => x = .ref C ∧ W c (t σ) kn1 n1 fun vs kn2 n2 => B (.ref C :: vs) kn2 (fun v k => Q v k n2) (fun cls d k => EA cls d k n2)) : W c (tCMeth C (liftX B) E ta t σ) kn n Q :=
  fun H g Q' q => h H g _ fun x kn1 n1 H1 ⟨e, h1⟩ g1 => ⟨e, h1 H1 g1 _ fun vs kn2 n2 H2 h2 g2 => sp_call hm hE h2 H2 g2 Q' q⟩
def chr1 (d : Nat) : V := .str { cps := #[d] }
theorem gives_str {a : Str} : Gives (Its a) ((TL.tl a).map chr1) fun _ => True := fun kn H e h =>
  ⟨fun i hi => by show i < a.cps.size; simpa [TL.tl] using hi, fun i hi => by show a.cps.size ≤ i; simpa [TL.tl] using hi, fun i x H' y => ⟨y.1, fun hi => by
    obtain ⟨_, d, hd, rfl⟩ := y
    rw [List.getElem?_map]
    have : (TL.tl a)[i]? = some d := by simpa [TL.tl] using hd
    rw [this]
    rfl⟩⟩
theorem i_str {te : TE} {R : It → Hp → Nat → Prop} (h : W c (te σ) kn n fun x kn1 n1 => ∃ z, x = .str z ∧ R (Its z) kn1 n1) : WI c (iStr te σ) kn n R :=
  fun H g R' q => h H g _ fun x kn1 n1 H1 ⟨z, e, hr⟩ g1 => ⟨z, e, q _ _ _ _ hr g1⟩
end
end AW

/-! Lists or tuples, also those of the written part; join, stars, lists repeated, steps of slices; what is never reached. -/
namespace L2
open PySem PySem.Spec PyProof.Rows ClX
section
variable {X : Cx}
/-- what no run comes to -/

theorem pe_never {e : Expr} : PE X e (fun _ _ _ => False) := ⟨fun _ _ _ _ _ _ h => h.elim⟩
def rRepQ : R2 := fun x y H Q => ∃ l k xs, x = .ref l ∧ y = .int k ∧ H l = some (.lst xs) ∧ -(2 ^ 63) ≤ k ∧ k < 2 ^ 63 ∧ xs.length * k.toNat ≤ sizeLine ∧ ∀ p, H p = none → Q (.ref p) (upd H p (.lst (List.replicate k.toNat xs).flatten))
theorem op_repQ : OpR X (binaryOp .Mult) rRepQ := op_rep
def rTupQ (K : PySem.W.Frag) : List V → Hp → VK → Prop := fun xs H Q => ∃ p ys, xs = [.ref p] ∧ ((SqL K H p ys ∧ ∀ l, H l = none → Q (.ref l) (upd H l (.tup ys))) ∨ (SqT K H p ys ∧ Q (.ref p) H))
theorem c_tupQ : CallR X (.type "tuple") (rTupQ X.K) := call_tuple_of
def rJoinQ (K : PySem.W.Frag) : V → List V → Hp → VK → Prop := fun x xs H Q => ∃ a p, ∃ ys : List Str, x = .str a ∧ xs = [.ref p] ∧ (SqL K H p (ys.map V.str) ∨ SqT K H p (ys.map V.str)) ∧ (ys.map (·.length)).sum + ys.length * a.length ≤ 16777216 ∧ Q (.str (Txt.join a ys)) H
theorem pe_joinQ {o e : Expr} {to te : TE} {apos pos : Pos} (ho : PE X o to) (he : PE X e te) (hs : starEach [e] X.env = [(false, eval e X.env)] := by rfl) (hb : attributeBase o "join" X.env (eval o X.env) = eval o X.env := by rfl) (hp : (apos.endLine == pos.line) = true := by rfl) :
    PE X (.Call (.Attribute o "join" apos) [e] [] pos) (tM1 (rJoinQ X.K) to te) := pe_join ho he hs hb hp
/-- the truth of a list or a tuple -/
def tTru (K : PySem.W.Frag) (ta : TE) : TT := fun σ H Q => ta σ H fun x H' => ∃ k, TruV K x H' k ∧ Q k H'
theorem pt_truthQ {a : Expr} {ta : TE} (ha : PE X a ta) (he : ∀ whole, isTrue a X.env whole = (do let v ← whole; standAt a.pos; holding [v] (truthy v))) : PT X a (tTru X.K ta) := pt_truth ha he
/-- the items at a + k, a + 2 k, .. -/
def pick3 {α : Type} (xs : List α) (lo hi st : Option Int) : List α := (sliceRange (sliceBounds lo hi st xs.length).1 (sliceBounds lo hi st xs.length).2.1 (sliceBounds lo hi st xs.length).2.2).filterMap (xs[·]?)
theorem vals_pick {xs : List V} {us : List Value} (r : Vals xs us) : ∀ is : List Nat, Vals (is.filterMap (xs[·]?)) (is.filterMap (us[·]?))
  | [] => .nil
  | i :: is => by
    rw [List.filterMap_cons, List.filterMap_cons]
    cases h : xs[i]? with
    | none => rw [r.none_of h]; exact vals_pick r is
    | some x =>
      obtain ⟨u, hu, ru⟩ := r.get h
      rw [hu]
      exact .cons ru (vals_pick r is)
theorem vals_pick3 {xs : List V} {us : List Value} (r : Vals xs us) (lo hi st : Option Int) : Vals (pick3 xs lo hi st) (slicePick us.toArray lo hi st).toList := by
  have e : (slicePick us.toArray lo hi st).toList = pick3 us lo hi st := by
    unfold slicePick pick3
    simp
  rw [e]
  unfold pick3
  rw [r.length]
  exact vals_pick r _
def tSl3 (K : PySem.W.Frag) (te : TE) (tl th : TO) (k : Int) : TE := fun σ H Q => te σ H fun x H1 => tl σ H1 fun l H2 => th σ H2 fun u H3 => ∃ a xs, x = .ref a ∧ SqL K H3 a xs ∧ ∀ p, H3 p = none → Q (.ref p) (upd H3 p (.lst (pick3 xs l u (some k))))
theorem pe_sl3 {e : Expr} {te : TE} {lo hi : Option Expr} {tl th : TO} {k : Int} {j : Nat} {p1 p2 pos : Pos} (hk : k ≠ 0) (he : PE X e te) (hl : PO X lo tl) (hu : PO X hi th) (hst : PO X (some (.Constant (.int k) j p1)) (tPart (tC (.int k)))) :
    PE X (.Subscript e (.Slice lo hi (some (.Constant (.int k) j p1)) p2) pos) (tSl3 X.K te tl th k) := by
  refine ⟨fun pins s σ H Q I h => ?_⟩
  refine Subscript_ (thn (he.run pins s σ H _ I h) fun v s1 ⟨x, H1, I1, r1, q1⟩ => ?_)
  refine wpAny_Slice (thn (hl.run pins s1 σ H1 _ I1 q1) fun vl s2 ⟨l, H2, I2, pl, q2⟩ => thn (hu.run pins s2 σ H2 _ I2 q2) fun vu s3 ⟨u, H3, I3, pu, q3⟩ => ?_)
  refine thn (hst.run pins s3 σ H3 (fun o H4 => o = some k ∧ H4 = H3) I3 ⟨k, rfl, rfl, rfl⟩) fun vs s4 ⟨o, H4, I4, ps, eo, e4⟩ => ?_
  subst eo e4
  obtain ⟨a, xs, ex, hx, q⟩ := q3
  subst ex
  cases r1
  have I5 : Inv X pins σ H4 { s4 with heap := s4.heap.push { cls := .type "slice", data := .fields #[vl, vu, vs] } } := I4.kept (t' := s4.toks) fun b ob q => Heap.get?_push_of_some _ q
  obtain ⟨its, r, ht, hz⟩ := I5.list hx
  have hlen := r.length
  show wpAny (model X.prog X.w) X.A (subscriptTail e (.Slice lo hi (some (.Constant (.int k) j p1)) p2) (.ref a) (.ref s4.heap.objs.size)) (EP X pins σ Q) X.xe { s4 with heap := s4.heap.push { cls := .type "slice", data := .fields #[vl, vu, vs] } }
  refine tail_any (ops := [.ref a, .ref s4.heap.objs.size]) ht.isList.typeIs (PySem.slot_list_getitem.lookup) ?_ (by with_unfolding_all rfl)
  have hz2 : its.toArray.size ≤ sizeLine := by rw [List.size_toArray]; omega
  refine wpAny_getItem_list_slice ht.isList (Heap.IsSliceOf.new _ vl vu vs) pl pu ps (fun z => hk (Option.some.inj z)) ?_ hz2
  refine ⟨.ref _, _, I5.laid (t' := s4.toks) (o := .lst (pick3 xs l u (some k))) (fun b ob q => Heap.get?_push_of_some _ q) (Nat.le_refl _) ?_, rfl, q _ (I5.hok.fresh (Nat.le_refl _))⟩
  have v := vals_pick3 r l u (some k)
  refine ⟨?_, (slicePick its.toArray l u (some k)).toList, 0, v, ?_⟩
  · rw [v.length, Array.length_toList]
    exact Nat.le_trans (slicePick_size_le _ _ _ _) hz2
  · rw [Array.toArray_toList]
    exact Heap.get?_push_size _ rfl
end
/-- a tuple of the written part -/
def KTup (K : PySem.W.Frag) (a : Addr) (xs : List V) : Prop := ∃ (o : Obj) (its : Array Value) (n : Nat), K.lookup a = some o ∧ o.cls = .type "tuple" ∧ o.data = .seq its n ∧ its.size ≤ sizeLine ∧ Vals xs its.toList
/-- a list or a tuple with these items -/
def SeqV (K : PySem.W.Frag) (kn : Hp) (v : V) (xs : List V) : Prop := ∃ a, v = .ref a ∧ (kn a = some (.lst xs) ∨ kn a = some (.tup xs) ∨ KTup K a xs)
theorem SeqV.ext {K : PySem.W.Frag} {kn kn' : Hp} {v : V} {xs : List V} (e : Ext kn kn') (h : SeqV K kn v xs) : SeqV K kn' v xs := by
  obtain ⟨a, rfl, h | h | h⟩ := h
  · exact ⟨a, rfl, .inl (e _ _ h)⟩
  · exact ⟨a, rfl, .inr (.inl (e _ _ h))⟩
  · exact ⟨a, rfl, .inr (.inr h)⟩
theorem SeqV.ty {K : PySem.W.Frag} {kn : Hp} {v : V} {xs : List V} (h : SeqV K kn v xs) : TyX K kn v (.type "list") ∨ TyX K kn v (.type "tuple") := by
  obtain ⟨a, rfl, h | h | ⟨o, its, n, e, c, _⟩⟩ := h
  · exact .inl (.base (.lst h))
  · exact .inr (.base (.tup h))
  · exact .inr (.kTuple e c)
end L2
namespace AW
open PySem PySem.Spec PyProof.Rows L2 ClX StX
section
variable {c : Cw} {kn : Hp} {n : Nat} {σ : L2.St} {Q : V → Hp → Nat → Prop} {QA : List V → Hp → Nat → Prop} {K : PySem.W.Frag}
theorem r_repQ {l : Addr} {xs : List V} {k : Int} (h : kn l = some (.lst xs)) (h1 : -(2 ^ 63) ≤ k) (h2 : k < 2 ^ 63) (h3 : xs.length * k.toNat ≤ 100000) (q : ∀ p, kn p = none → Q (.ref p) (upd kn p (.lst (List.replicate k.toNat xs).flatten)) n) : W c (rRepQ (.ref l) (.int k)) kn n Q :=
  fun H g _ f => ⟨l, k, xs, rfl, rfl, g.ex _ _ h, h1, h2, sz h3, fun p hp => f _ _ n _ (q p (g.free hp)) (g.new hp)⟩
theorem r_tupL {p : Addr} {xs : List V} (h : kn p = some (.lst xs)) (q : ∀ l, kn l = none → Q (.ref l) (upd kn l (.tup xs)) n) : W c (rTupQ K [.ref p]) kn n Q :=
  fun H g _ f => ⟨p, xs, rfl, .inl ⟨sql (g.ex _ _ h), fun l hl => f _ _ n _ (q l (g.free hl)) (g.new hl)⟩⟩
theorem r_joinQ {a : Str} {p : Addr} {ys : List Str} (h : kn p = some (.lst (ys.map V.str))) (hs : (ys.map (·.length)).sum + ys.length * a.length ≤ 16777216) (q : Q (.str (Txt.join a ys)) kn n) : W c (rJoinQ K (.str a) [.ref p]) kn n Q :=
  fun H g _ f => ⟨a, p, ys, rfl, rfl, .inl (sql (g.ex _ _ h)), hs, f _ kn n H q g⟩
theorem w_star {te : TE} {t : TA} (h : W c (te σ) kn n fun x kn1 n1 => ∃ p xs, x = .ref p ∧ (kn1 p = some (.lst xs) ∨ kn1 p = some (.tup xs)) ∧ W c (t σ) kn1 n1 fun ys kn2 n2 => QA (xs ++ ys) kn2 n2) : W c (tStar K te t σ) kn n QA :=
  fun H g Q' q => h H g _ fun x kn1 n1 H1 ⟨p, xs, e, hp, h1⟩ g1 => ⟨p, xs, e, hp.symm.imp (fun z => sqt (g1.ex _ _ z)) (fun z => sql (g1.ex _ _ z)), h1 H1 g1 _ fun ys kn2 n2 H2 h2 g2 => q _ _ _ _ h2 g2⟩
theorem w_sl3 {te : TE} {tl th : TO} {k : Int} (h : W c (te σ) kn n fun x kn1 n1 => W c (tl σ) kn1 n1 fun l kn2 n2 => W c (th σ) kn2 n2 fun u kn3 n3 => ∃ a xs, x = .ref a ∧ kn3 a = some (.lst xs) ∧ ∀ p, kn3 p = none → Q (.ref p) (upd kn3 p (.lst (pick3 xs l u (some k)))) n3) : W c (tSl3 K te tl th k σ) kn n Q :=
  fun H g Q' q => h H g _ fun x kn1 n1 H1 h1 g1 => h1 H1 g1 _ fun l kn2 n2 H2 h2 g2 => h2 H2 g2 _ fun u kn3 n3 H3 ⟨a, xs, e, ha, h3⟩ g3 => ⟨a, xs, e, sql (g3.ex _ _ ha), fun p hp => q _ _ _ _ (h3 p (g3.free hp)) (g3.new hp)⟩
theorem i_seq3 {i : Nat} {v : V} {xs : List V} {R : It → Hp → Nat → Prop} {kn0 : Hp} (hv : σ[i]? = some (some v)) (e0 : Ext kn0 kn) (hs : SeqV K kn0 v xs) (h : ∀ J ka, Gives J xs ka → (∀ k, Ext kn0 k → ka k) → R J kn n) : WI c (iSeq K (tVar i) σ) kn n R := by
  intro H g R' q
  obtain ⟨a, rfl, ha | ha | hk⟩ := hs
  · exact .inl (i_list (w_var hv ⟨a, xs, rfl, e0 _ _ ha, h _ _ gives_lst fun k e => e _ _ ha⟩) H g R' q)
  · exact .inr (i_tup (w_var hv ⟨a, xs, rfl, e0 _ _ ha, h _ _ gives_tup fun k e => e _ _ ha⟩) H g R' q)
  · refine .inr ⟨.ref a, hv, ⟨a, rfl, ⟨xs, .inr hk⟩, q _ _ _ _ (h (Itt K a) (fun _ => True) (fun kn H e _ => ?_) (fun _ _ => trivial)) g⟩⟩
    exact ⟨fun i hi => ⟨xs, xs[i], .inr hk, List.getElem?_eq_getElem hi⟩, fun i hi => ⟨xs, .inr hk, hi⟩, fun i x H' y => ⟨y.1, fun _ => y.2 xs (.inr hk)⟩⟩
theorem w_tru {ta : TE} {QB : Bool → Hp → Nat → Prop} (h : W c (ta σ) kn n fun x kn1 n1 => ∃ p xs, x = .ref p ∧ (kn1 p = some (.lst xs) ∨ kn1 p = some (.tup xs)) ∧ QB (!xs.isEmpty) kn1 n1) : W c (tTru K ta σ) kn n QB :=
  fun H g Q' q => h H g _ fun x kn1 n1 H1 ⟨p, xs, e, hp, hq⟩ g1 => ⟨_, by
    subst e
    rcases hp with z | z
    · exact .inl ⟨xs, sql (g1.ex _ _ z), rfl⟩
    · exact .inr (.inl ⟨xs, sqt (g1.ex _ _ z), rfl⟩), q _ _ _ _ hq g1⟩
/-- a comprehension of what changes nothing, items that are known one by one -/
theorem w_lcP {wi : TI} {gt : TG} {tt : TT} {te : TE} {vs : List Nat}
    (h : WI c (wi σ) kn n fun J kn1 n1 => ∃ (xs : List V) (ka : Hp → Prop) (f : V → V) (p : V → Bool), Gives J xs ka ∧ xs.length ≤ 100000 ∧ (∀ k, Ext kn1 k → ka k) ∧
      (∀ x ∈ xs, ∀ k, Ext kn1 k → WG c gt x (wipe σ vs) k n1 fun σ2 k2 n2 => k2 = k ∧ n2 = n1 ∧ wipe σ2 vs = wipe σ vs ∧ W c (tt σ2) k n1 fun b k3 n3 => b = p x ∧ k3 = k ∧ n3 = n1 ∧ (p x = true → W c (te σ2) k n1 fun y k4 n4 => y = f x ∧ k4 = k ∧ n4 = n1)) ∧
      ∀ D, kn1 D = none → Q (.ref D) (upd kn1 D (.lst ((xs.filter p).map f))) n1) : W c (tLc wi gt tt te vs σ) kn n Q := by
  refine w_lc (fun H g R' q => h H g R' fun J kn1 n1 H1 hJ g1 => q J kn1 n1 H1 ?_ g1)
  obtain ⟨xs, ka, f, p, hG, hl, hk, hs, hd⟩ := hJ
  have e1 : ∀ {k : Hp} {D : Addr} {o : HO}, k D = none → Ext k (upd k D o) := fun h x u e => know h e
  refine ⟨xs, ka, fun D i acc k m => m = n1 ∧ kn1 D = none ∧ acc = ((xs.take i).filter p).map f ∧ k = upd kn1 D (.lst acc), hG, hl, fun D hD => ⟨rfl, hD, by simp, rfl⟩, ?_, ?_, ?_⟩
  · rintro D i acc k m ⟨rfl, hD, rfl, rfl⟩
    refine ⟨hk _ (e1 hD), upd_same, ?_⟩
    rw [List.length_map]
    exact Nat.le_trans (List.length_filter_le _ _) (by rw [List.length_take]; exact Nat.min_le_left _ _)
  · rintro D i acc x k m hx ⟨rfl, hD, rfl, rfl⟩
    have ht : xs.take (i + 1) = xs.take i ++ [x] := by rw [List.take_add_one, hx]; rfl
    intro H g N' f'
    refine hs x (List.mem_of_getElem? hx) _ (e1 hD) H g N' fun σ2 k2 n2 H2 hq g2 => f' σ2 k2 n2 H2 ?_ g2
    obtain ⟨rfl, rfl, hw, hq⟩ := hq
    refine ⟨hw, hq.mono fun b k3 n3 hb => ?_⟩
    obtain ⟨rfl, rfl, rfl, he⟩ := hb
    refine ⟨fun hp => (he hp).mono fun y k4 n4 hy => ?_, fun hp => ⟨rfl, hD, ?_, rfl⟩⟩
    · obtain ⟨rfl, rfl, rfl⟩ := hy
      refine ⟨upd_same, rfl, hD, ?_, ?_⟩
      · rw [ht, List.filter_append, List.filter_cons_of_pos hp, List.map_append]; rfl
      · funext z
        by_cases hz : z = D
        · rw [hz, upd_same, upd_same]
        · rw [upd_ne hz, upd_ne hz, upd_ne hz]
    · rw [ht, List.filter_append, List.filter_cons_of_neg (by rw [hp]; exact Bool.false_ne_true)]
      simp
  · rintro D acc k m ⟨rfl, hD, rfl, rfl⟩
    rw [List.take_length]
    exact hd D hD
theorem w_yesT {QB : Bool → Hp → Nat → Prop} (q : QB true kn n) : W c (tYes σ) kn n QB := fun H g Q' k => k _ kn n H q g
/-- what no run comes to -/
theorem s_never {D : AE} (h : False) : WS c tNever D σ kn n := h.elim
theorem w_never {Q : V → Hp → Nat → Prop} (h : False) : W c ((fun _ _ _ => False : TE) σ) kn n Q := h.elim
end
end AW

/-! Ranges beyond 2^62. -/
namespace L2
open PySem PySem.Spec PyProof.Rows
theorem lot_int (tg : Expr) (it : Value) (i : Int) (t : Tok) : letOwnedTupleGo tg it (.int i t) = pure () := by
  cases tg <;> cases it <;> rfl
theorem iter_selfL (it : Addr) : Gives (Builtin.«dict_keyiterator.__iter__» { pos := [Value.ref it] }) (.val (.ref it)) := by
  intro prog w A R s h
  unfold Builtin.«dict_keyiterator.__iter__»
  refine wpAny_bind (wpAny_of_eq (a := ((Value.ref it : Value), ([] : List Value))) (by first | rfl | (simp only [slotArgs]; rfl)) ?_)
  exact wpAny_pure h
theorem pyIter_long {P : Program} {w : World} {A : Around} {E : Value → Shared → Prop} {s : Shared} {it : Addr} {x left step : Int} {Q : Value → Shared → Prop} (h : IsLongIter s.heap it x left step) (q : Q (.ref it) s) : wpAny (model P w) A (pyIter (.ref it)) Q E s := by
  have ty : s.TypeIs (.ref it) "longrange_iterator" := ⟨_, h, rfl⟩
  unfold pyIter
  refine wpAny_bind (wpAny_specialOf ty F.slot_longrange_iterator_iter.lookup ?_)
  dsimp only
  refine wpAny_bind (wpAny_callSpecialIfBoundUnlessNone?_slot ty F.slot_longrange_iterator_iter (call_gives F.slot_longrange_iterator_iter ty F.entry_longrange_iterator_iter (F.args_longrange_iterator_iter_1 _) (iter_selfL it) ?_))
  show wpAny _ _ _ _ _ _
  refine wpAny_bind (wpAny_specialOf ty F.slot_longrange_iterator_next.lookup ?_)
  exact wpAny_pure q
theorem turn_long {P : Program} {w : World} {K : PySem.W.Frag} {tg : Expr} (lo : Int) (n : Nat) (it : Addr) : Turn P w K tg (Itr lo n) [it] it (fun i h => i ≤ n ∧ IsLongIter h it (lo + (i : Int) * 1) ((n : Int) - i) 1) := by
  refine ⟨.head _, fun i h e b hb => ?_, fun i h h' e k => ?_, ?_, ?_, ?_⟩
  · rw [List.mem_singleton.1 hb]
    exact ⟨_, e.2, fun v z => nomatch z⟩
  · exact ⟨e.1, k it (.head _) _ e.2⟩
  · intro X hP hw hK hc i pins s σ H E I fp tn go
    subst hP hw hK
    have W := Walks.longrange (prog := X.prog) (w := X.w) (I.ok.hd hc) it lo 1 n
    refine W.item i s _ E go tn.2 fun v h' tk hv hs keep => ?_
    obtain ⟨t, rfl⟩ := hv
    refine ⟨_, rfl, ?_⟩
    rw [lot_int]
    obtain ⟨f1, f2, f3, f4, f5, f6⟩ := fp it (.head _)
    have go : i < n := go
    refine wpAny_pure ⟨.int (lo + i), H, I.turned (fun b o hb e => keep b o (by simp [hb]) e) f1 f2 f4 f5 f6, ?_, ⟨rfl, rfl⟩, ⟨go, hs⟩, fun b hb => by rw [List.mem_singleton.1 hb]; exact f1⟩
    exact ⟨t, by rw [Int.mul_one]⟩
  · intro X hP hw hK hc i pins s σ H E I fp tn st
    subst hP hw hK
    have W := Walks.longrange (prog := X.prog) (w := X.w) (I.ok.hd hc) it lo 1 n
    have st : n ≤ i := st
    obtain rfl : i = n := Nat.le_antisymm tn.1 st
    obtain ⟨f1, f2, f3, f4, f5, f6⟩ := fp it (.head _)
    exact W.done s _ E tn.2 fun h' tk keep => ⟨rfl, I.turned (fun b o hb e => keep b o (by simp [hb]) e) f1 f2 f4 f5 f6⟩
  · intro A i s Q E tn q
    exact pyIter_long tn.2 q
theorem size_1 (a b : Int) : Builtin.Range.rangeSize a b 1 = (((b - a).toNat : Nat) : Int) := by
  unfold Builtin.Range.rangeSize
  rw [if_pos (by decide)]
  split
  · rw [Int.ediv_one]
    omega
  · omega
/-- a range with any ends -/
def iRgA (tr : St → Hp → (Int → Int → Hp → Prop) → Prop) : TI := fun σ H R => tr σ H fun a b H1 => R (Itr a (b - a).toNat) H1
theorem pi_rangeA {X : Cx} {tg e : Expr} {tr : St → Hp → (Int → Int → Hp → Prop) → Prop} (he : PRg X e tr) : PI X tg e (iRgA tr) := by
  refine ⟨fun pins s σ H R I h => ?_⟩
  refine thn (he pins s σ H _ I h) fun x s1 ⟨r, a, b, t, u, v, H', ex, hr, I1, q⟩ => ?_
  subst ex
  have fp := I1.fpOk (b := s1.heap.objs.size) (Nat.le_refl _) (I1.hok.fresh (Nat.le_refl _))
  cases hs : Builtin.Range.small a b 1 with
  | true =>
    refine wpAny_pyIter_range hr hs ?_
    refine ⟨s1.heap.objs.size, [s1.heap.objs.size], _, Itr a (b - a).toNat, H', rfl, I1.kept (t' := s1.toks) fun c o e => Heap.get?_push_of_some _ e, turn_range s1.heap.objs.size a (b - a).toNat, ?_, fun c hc => by rw [List.mem_singleton.1 hc]; exact fp, q⟩
    show IsRangeIter _ _ _ _ _
    rw [size_1]
    have e1 : a + ((0 : Nat) : Int) * 1 = a := by omega
    have e2 : (((b - a).toNat : Nat) : Int) - ((0 : Nat) : Int) = (((b - a).toNat : Nat) : Int) := by omega
    rw [e1, e2]
    exact Heap.get?_push_size _ rfl
  | false =>
    refine wpAny_pyIter_longrange hr hs ?_
    refine ⟨s1.heap.objs.size, [s1.heap.objs.size], _, Itr a (b - a).toNat, H', rfl, I1.kept (t' := s1.toks) fun c o e => Heap.get?_push_of_some _ e, turn_long a (b - a).toNat s1.heap.objs.size, ⟨Nat.zero_le _, ?_⟩, fun c hc => by rw [List.mem_singleton.1 hc]; exact fp, q⟩
    show IsLongIter _ _ _ _ _
    rw [size_1]
    have e1 : a + ((0 : Nat) : Int) * 1 = a := by omega
    have e2 : (((b - a).toNat : Nat) : Int) - ((0 : Nat) : Int) = (((b - a).toNat : Nat) : Int) := by omega
    rw [e1, e2]
    exact Heap.get?_push_size _ rfl
end L2
namespace AW
open PySem PySem.Spec L2
theorem i_rgA {c : Cw} {kn : Hp} {n : Nat} {σ : L2.St} {ta tb : TE} {R : It → Hp → Nat → Prop} (h : W c (ta σ) kn n fun x kn1 n1 => W c (tb σ) kn1 n1 fun y kn2 n2 => ∃ i j, x = .int i ∧ y = .int j ∧ R (Itr i (j - i).toNat) kn2 n2) : WI c (iRgA (tRg2 ta tb) σ) kn n R :=
  fun H g R' q => h H g _ fun x kn1 n1 H1 h1 g1 => h1 H1 g1 _ fun y kn2 n2 H2 ⟨i, j, ex, ey, hr⟩ g2 => ⟨i, j, ex, ey, q _ _ _ _ hr g2⟩
end AW

/-! Tuples and lists of the same things compared: also of things that are no data. -/
namespace L2
open PySem PySem.Spec PyProof.Rows
theorem eqAt_ref {A : Around} {s : Shared} (a : Addr) : SeqAt.EqAt A s (.ref a) (.ref a) true := by
  intro prog w E Q q
  unfold eqBool
  refine wpAny_holding ?_
  rw [if_pos (by simp)]
  exact wpAny_bind (wpAny_rule (wpAny_pure q))
def plainV : V → Bool
  | .ref _ => true
  | v => flatB v
theorem eqAt_plain {A : Around} {s : Shared} {v : V} {u u' : Value} (r : RelV v u) (r' : RelV v u') (h : plainV v = true) : SeqAt.EqAt A s u u' true := by
  cases v with
  | ref a =>
    cases (show u = Value.ref a from r)
    cases (show u' = Value.ref a from r')
    exact eqAt_ref a
  | _ => exact eqAt_same r r' h
def rEqS (K : PySem.W.Frag) (neg : Bool) : R2 := fun x y H Q => ∃ p q xs, x = .ref p ∧ y = .ref q ∧ ((SqT K H p xs ∧ SqT K H q xs)) ∧ (∀ v ∈ xs, plainV v = true) ∧ Q (.bl (!neg)) H
section
variable {X : Cx}
theorem op_eqS (hu : X.A.units < cLine) : OpR X (compareOp .Eq) (rEqS X.K false) := by
  intro pins s σ H x y v u Q I rx ry h
  obtain ⟨p, q, xs, rfl, rfl, ⟨h1, h2⟩, hf, hq⟩ := h
  cases rx
  cases ry
  obtain ⟨its, v1, T1, z1⟩ := I.tuple h1
  obtain ⟨its2, v2, T2, z2⟩ := I.tuple h2
  obtain ⟨⟨c1, dd1, da1, sl1⟩, g1, rfl, n1, rfl⟩ := T1
  obtain ⟨⟨c2, dd2, da2, sl2⟩, g2, rfl, n2, rfl⟩ := T2
  have l1 := v1.length
  have l2 := v2.length
  show wpAny _ _ (richCompare .Eq (.ref p) (.ref q)) _ _ _
  refine wpAny_richCompare_same_or (T := "tuple") ⟨_, g1, rfl⟩ ⟨_, g2, rfl⟩ F.slot_tuple_eq ?_ (.inr hu)
  refine call_meets F.slot_tuple_eq ⟨_, g1, rfl⟩ F.entry_tuple_eq (F.args_tuple_eq_2 _ _) (SeqAt.tuple_eqAt p q its.toArray its2.toArray n1 n2 dd1 dd2 sl1 sl2 fun _ => true) ⟨g1, g2, fun j k1 k2 => ?_, ?_⟩
  · rw [List.size_toArray] at k1 k2
    have hx : j < xs.length := by omega
    obtain ⟨u1, e1, r1⟩ := v1.get (List.getElem?_eq_getElem hx)
    obtain ⟨u2, e2, r2⟩ := v2.get (List.getElem?_eq_getElem hx)
    rw [List.getElem?_eq_getElem k1] at e1
    rw [List.getElem?_eq_getElem k2] at e2
    cases e1
    cases e2
    exact eqAt_plain r1 r2 (hf _ (List.getElem_mem hx))
  · have e : ((List.range (min its.toArray.size its2.toArray.size)).all (fun _ => true) && its.toArray.size == its2.toArray.size) = true := by
      rw [List.size_toArray, List.size_toArray, ← l1, ← l2]
      simp
    rw [e]
    exact ⟨(fun z => nomatch z), ⟨.bl true, H, I, rfl, hq⟩⟩
end
end L2
namespace AW
open PySem PySem.Spec L2
theorem r_eqS {c : Cw} {kn : Hp} {n : Nat} {Q : V → Hp → Nat → Prop} {K : PySem.W.Frag} {p q : Addr} {xs : List V} (h1 : kn p = some (.tup xs)) (h2 : kn q = some (.tup xs)) (hf : ∀ v ∈ xs, plainV v = true) (k : Q (.bl true) kn n) : W c (rEqS K false (.ref p) (.ref q)) kn n Q :=
  fun H g _ z => ⟨p, q, xs, rfl, rfl, ⟨sqt (g.ex _ _ h1), sqt (g.ex _ _ h2)⟩, hf, z _ kn n H k g⟩
end AW

/-! bool of a tuple, repr of a number or None, a dict of one entry. -/
namespace L2
open PySem PySem.Spec PyProof.Rows
section
variable {X : Cx}
def rBoolT (K : PySem.W.Frag) : List V → Hp → VK → Prop := fun xs H Q => ∃ (a : Addr) (zs : List V), xs = [.ref a] ∧ SqT K H a zs ∧ Q (.bl (!zs.isEmpty)) H
theorem c_boolT : CallR X (.type "bool") (rBoolT X.K) := by
  intro pins s σ H xs us Q I r h
  obtain ⟨a, zs, rfl, hq, q⟩ := h
  obtain ⟨u, rfl, rx⟩ := vals1 r
  cases (show u = Value.ref a from rx)
  obtain ⟨its, rv, pl, hz⟩ := I.tuple hq
  have hl := line63
  have hlen := rv.length
  refine callType_newIn PySem.F.called_bool PySem.F.newNe_bool (PySem.F.typeCall_bool_1 _) (PySem.F.newCall_bool_1 _) (fun obj => PySem.F.args_object_init_2 obj _) PySem.F.entry_bool_new bool_new_own ?_
  refine truthy_tuple pl (by simp only [List.size_toArray]; omega) ?_
  refine ⟨PySem.typeIs_bool _ _, .bl (!zs.isEmpty), H, I.tok _, ?_, q⟩
  rw [isEmpty_of rv]
  rfl
def rReprS : List V → Hp → VK → Prop := fun xs H Q => (∃ i : Int, xs = [.int i] ∧ i.natAbs.log2 < 1920 ∧ Q (.str (toString i)) H) ∨ (xs = [.non] ∧ Q (.str "None") H)
theorem c_reprS : CallR X (.builtin "repr") rReprS := by
  intro pins s σ H xs us Q I r h
  rcases h with ⟨i, rfl, hz, q⟩ | ⟨rfl, q⟩
  · obtain ⟨u, rfl, t, rfl⟩ := vals1 r
    exact PySem.P.repr_of_int hz ⟨.str _, H, I.tok _, ⟨_, rfl⟩, q⟩
  · obtain ⟨u, rfl, rx⟩ := vals1 r
    cases (show u = Value.none from rx)
    exact PySem.P.repr_of_none ⟨.str "None", H, I.tok _, ⟨_, rfl⟩, q⟩
end
end L2
namespace AW
open PySem PySem.Spec L2
section
variable {K : PySem.W.Frag} {c : Cw} {kn : Hp} {n : Nat} {σ : L2.St} {Q : V → Hp → Nat → Prop}
theorem r_boolT {p : Addr} {xs : List V} (h : kn p = some (.tup xs)) (q : Q (.bl (!xs.isEmpty)) kn n) : W c (rBoolT K [.ref p]) kn n Q := fun H g _ k => ⟨p, xs, rfl, sqt (g.ex _ _ h), k _ kn n H q g⟩
def reprV : V → Str
  | .int i => Str.ofString (toString i)
  | _ => Str.ofString "None"
theorem r_reprS {v : V} (hv : (∃ i : Int, v = .int i ∧ i.natAbs.log2 < 1920) ∨ v = .non) (q : Q (.str (reprV v)) kn n) : W c (rReprS [v]) kn n Q := fun H g _ k => by
  rcases hv with ⟨i, rfl, hi⟩ | rfl
  · exact .inl ⟨i, rfl, hi, k _ kn n H q g⟩
  · exact .inr ⟨rfl, k _ kn n H q g⟩
/-- {k: v} -/
theorem w_dict1 {tk tv : TE} (h : ∀ p, kn p = none → W c (tk σ) (upd kn p (.dK [])) n fun x kn1 n1 => W c (tv σ) kn1 n1 fun y kn2 n2 => ∃ k, x = kV k ∧ kn2 p = some (.dK []) ∧ Q (.ref p) (upd kn2 p (.dK (mergeK [] [(k, y)]))) n2) : W c (tDisp [(tk, tv)] σ) kn n Q :=
  fun H g Q' q => fun p hp => h p (g.free hp) _ (g.new hp) _ fun x kn1 n1 H1 h1 g1 => h1 H1 g1 _ fun y kn2 n2 H2 ⟨k, e, hd, h2⟩ g2 => ⟨g2.ex _ _ hd, [(k, y)], by rw [e]; rfl, (show 1 ≤ 15 by decide), q _ _ _ _ h2 (g2.put hd rfl)⟩
end
end AW

/-! C.m(k = v, ..) of a static method; repr of a list of tuples in which empty dicts may lie. -/
namespace L2
open PySem PySem.Spec PyProof.Rows ClX
/-- C.m(k = v, ..), no positional argument -/
def tSMethKW (C : Addr) (b : Nat) (sp : Sp) (gV : List V → List V → List V) (E : XK) (ta : TE) (tk : TA) : TE := fun σ H Q => ta σ H fun x H1 => x = .ref C ∧ tk σ H1 fun zs H2 => zs.length = b ∧ sp (gV [] zs) H2 Q E
section
variable {X : Cx} {CX : CXT} {k : Nat} {f C p : Addr} {mc : Value} {fd : FuncData} {ps ks : List Str} {sp : Sp} {E : XK} {m : Str} {apos pos : Pos} {o : Expr} {kws : List Keyword} {ta : TE} {tk : TA} {g : List Value → List Value → List Value} {gV : List V → List V → List V}
theorem pe_smethKW {pl : Sem Bool} (he : PE X o ta) (r : CRead X.K C mc) (c : SMet X.K C mc m p f) (F : FnOk X.prog X.w X.K X.mg X.base CX k f fd ps sp) (hr : Room k X.A) (hb : KBn X.K fd ps 0 ks g gV) (hx : Passes CX X E) (hkw : PK X kws tk)
    (hall : (backToKw pos (keywordEach kws X.env)).all (·.1.isSome) = true := by rfl) (hks : (backToKw pos (keywordEach kws X.env)).filterMap (·.1) = ks := by rfl)
    (hpl : ((backTo pos (starEach [] X.env)).any (·.1) || (backToKw pos (keywordEach kws X.env)).any (·.1.isNone)) = false := by rfl)
    (ht : eval (.Call (.Attribute o m apos) [] kws pos) X.env = (eval o X.env >>= fun ov => standAt apos.atName >>= fun _ => holding [ov] (getMethod ov m pl) >>= fun q => callWith pos q.1 q.2 (backTo pos (starEach [] X.env)) (backToKw pos (keywordEach kws X.env))) := by rfl) :
    PE X (.Call (.Attribute o m apos) [] kws pos) (tSMethKW C ks.length sp gV E ta tk) := ⟨fun pins s σ H Q I h => by
  refine PySem.W.methodCall_KW (pl := pl) (thn (he.run pins s σ H _ I h) fun u sA ⟨x, HA, IA, rx, ex, qA⟩ => ?_) ht
  obtain rfl : u = Value.ref C := by rw [ex] at rx; exact rx
  refine getsm_ok IA r c fun sB IB => ?_
  refine PySem.W.callWith_KW0 (first := []) (h₀ := X.base) IB.ok.mod.kin c.kp hall (thn (hkw.run pos pins sB σ HA _ IB qA) fun ws sC ⟨zs, HC, IC, rz, lz, qC⟩ => ⟨IC.kIn, ?_⟩) hpl
  rw [hks]
  refine wpAny_call (codeAny_mono (F.run X.A X.stack sC HC ⟨[], ks.zip ws⟩ (g [] ws) (gV [] zs) Q E hr IC.env0 (hb.to sC [] ws IC.kIn rfl (rz.length.symm.trans lz)) (hb.rel .nil rz) qC) fun res sD hq => ?_)
  match res, hq with
  | .error e, hq => exact hx pins σ HC sC e sD IC hq
  | .ok (.ret u), hq => exact IC.after hq
  | .ok .next, hq => exact hq.elim
  | .ok .brk, hq => exact hq.elim
  | .ok .cont, hq => exact hq.elim⟩
end
/-! ### repr where empty dicts lie -/
/-- a plain value or an empty dict -/
inductive Dz (H : Hp) : V → PyData → Prop
  | non : Dz H .non .none
  | bl (b : Bool) : Dz H (.bl b) (.bool b)
  | int (i : Int) : Dz H (.int i) (.int i)
  | emp {a : Addr} : H a = some (.dK []) → Dz H (.ref a) (.dict [])
/-- tuples (text, such a value) -/
inductive DzAll (K : PySem.W.Frag) (H : Hp) : List V → List PyData → Prop
  | nil : DzAll K H [] []
  | cons {a : Addr} {t : Str} {y : V} {d : PyData} {vs : List V} {ds : List PyData} : SqT K H a [.str t, y] → Dz H y d → DzAll K H vs ds → DzAll K H (.ref a :: vs) (.tuple [.str t, d] :: ds)
section
variable {X : Cx} {pins : List (Addr × Obj)} {σ : St} {H : Hp} {s : Shared}
theorem Dz.reads (I : Inv X pins σ H s) {v : V} {u : Value} {d : PyData} (h : Dz H v d) (r : RelV v u) : ∃ as, Reads s.heap u d as ∧ sysModules ∉ as := by
  cases h with
  | non => cases r; exact ⟨_, .none, by simp⟩
  | bl b => cases r; exact ⟨_, .bool b, by simp⟩
  | int i => obtain ⟨t, rfl⟩ := r; exact ⟨_, .int i t, by simp⟩
  | emp ha =>
    cases r
    obtain ⟨_, hs, vs, rel, o, es, ep, ho, hx, hd, he⟩ := dk_of I.hok ha
    have e0 : vs = [] := by cases rel; rfl
    subst e0
    have e1 : es.toList = [] := by
      have hp := he.2.1
      generalize es.toList = l at hp
      cases l with
      | nil => rfl
      | cons x r => first | cases hp | exact hp.elim | simp [Pairs] at hp
    refine ⟨_, .dict (as := []) (bs := []) (kvs := []) ho hx.1 hd (by rw [e1]; exact .nil) (by rw [e1]; exact .nil), fun hm => ?_⟩
    rcases List.mem_cons.1 hm with e | e
    · rw [← e] at hs; simp at hs
    · cases e
theorem DzAll.reads (I : Inv X pins σ H s) : ∀ {vs : List V} {us : List Value} {ds : List PyData}, DzAll X.K H vs ds → Vals vs us → ∃ as, ReadsAll s.heap us ds as ∧ sysModules ∉ as
  | _, _, _, .nil, r => by cases r; exact ⟨_, .nil, by simp⟩
  | _, _, _, .cons ha hy hr, r => by
    cases r with
    | cons ru rs =>
      cases ru
      obtain ⟨its, rv, ⟨o, ho, hc, n, hd⟩, _⟩ := I.tuple ha
      cases rv with
      | cons r1 r2 =>
        cases r2 with
        | cons r2 r3 =>
          cases r3
          obtain ⟨t, rfl⟩ := r1
          obtain ⟨as, q1, n1⟩ := hy.reads I r2
          obtain ⟨bs, q2, n2⟩ := DzAll.reads I hr rs
          refine ⟨_, .cons (.tuple ho hc hd (.cons (.str _ t) (.cons q1 .nil))) q2, fun hm => ?_⟩
          rcases List.mem_append.1 hm with e | e
          · simp only [List.nil_append, List.append_nil] at e
            exact n1 e
          · exact n2 e
end
def rReprZ (K : PySem.W.Frag) : List V → Hp → VK → Prop := fun xs H Q => rRepr K xs H Q ∨
  ∃ (a : Addr) (vs : List V) (ds : List PyData), xs = [.ref a] ∧ SqL K H a vs ∧ vs ≠ [] ∧ DzAll K H vs ds ∧ PyData.showableAll ds = true ∧ PyData.depth (.list ds) ≤ 64 ∧ (PyData.shown (.list ds)).length ≤ sizeLine ∧ Q (.str (PyData.shown (.list ds))) H
theorem c_reprZ {X : Cx} (hG : X.A.guards = some []) (hu : X.A.units + 128 < cLine) : CallR X (.builtin "repr") (rReprZ X.K) := by
  intro pins s σ H xs us Q I r h
  rcases h with h | ⟨a, vs, ds, rfl, hl, hne, hz, h1, h3, h4, q⟩
  · exact c_repr hG hu pins s σ H xs us Q I r h
  obtain ⟨u, rfl, rx⟩ := vals1 r
  cases (show u = Value.ref a from rx)
  obtain ⟨its, rv, ⟨o, n, ho, hc, _, hd⟩, _⟩ := I.list hl
  obtain ⟨as, hr, hs⟩ := hz.reads I rv
  have h4' : (listText (PyData.shownAll ds)).length ≤ sizeLine := by simpa only [PyData.shown] using h4
  obtain ⟨bs, hb, hk⟩ := ReprAllK.of_readsAll (prog := X.prog) (w := X.w) hr h1 (fun _ => hs) fun t ht => Nat.le_trans (listText_mem_le ht) h4'
  have nb : a ∉ bs := not_mem_of_deeper (.list ho hc hd hr) (by simp only [PyData.depth]; omega) hb
  simp only [PyData.depth] at h3
  simp only [PyData.shown] at q
  cases its with
  | nil => cases rv; exact absurd rfl hne
  | cons z zs =>
    refine call_repr_slot (by omega) ⟨o, ho, hc⟩ PySem.F.slot_list_repr.toG (call_list_reprK ho hc hd nb (by simpa using hk.length_eq) (fun i y e => hk.item i y (by simpa using e)) hG (fun b _ => Clear.nil b) (by show X.A.units + 1 + _ < cLine; omega) (fun _ _ e => e) (fun h' u tk hk' => ?_) h4')
    exact ⟨_, _, rfl, .str _, H, I.kept hk', ⟨u, rfl⟩, q⟩
end L2
namespace AW
open PySem PySem.Spec PyProof.Rows L2
section
variable {c : Cw} {kn : Hp} {n : Nat} {σ : L2.St} {Q : V → Hp → Nat → Prop} {E : XK} {EA : EAK} {B : List V → Hp → AK → AXK → Prop} {C : Addr} {b : Nat} {gV : List V → List V → List V} {ta : TE} {tk : TA} {K : PySem.W.Frag}
theorem w_smethKW (hm : MonoX B) (hE : ErrOk c EA E) (h : W c (ta σ) kn n fun x kn1 n1 => x = .ref C ∧ W c (tk σ) kn1 n1 fun zs kn2 n2 => zs.length = b ∧ B (gV [] zs) kn2 (fun v k => Q v k n2) (fun cls d k => EA cls d k n2)) : W c (tSMethKW C b (liftX B) gV E ta tk σ) kn n Q :=
  fun H g Q' q => h H g _ fun x kn1 n1 H1 ⟨e, h1⟩ g1 => ⟨e, h1 H1 g1 _ fun zs kn2 n2 H2 ⟨l, h2⟩ g2 => ⟨l, sp_call hm hE h2 H2 g2 Q' q⟩⟩
theorem dz_ext {H H' : Hp} (e : Ext H H') {v : V} {d : PyData} (h : Dz H v d) : Dz H' v d := by
  cases h with
  | non => exact .non
  | bl b => exact .bl b
  | int i => exact .int i
  | emp ha => exact .emp (e _ _ ha)
/-- the tuples stand in what is known -/
inductive DzK (k : Hp) : List V → List PyData → Prop
  | nil : DzK k [] []
  | cons {a : Addr} {t : Str} {y : V} {d : PyData} {vs : List V} {ds : List PyData} : k a = some (.tup [.str t, y]) → Dz k y d → DzK k vs ds → DzK k (.ref a :: vs) (.tuple [.str t, d] :: ds)
theorem DzK.all {k H : Hp} (e : Ext k H) : ∀ {vs : List V} {ds : List PyData}, DzK k vs ds → DzAll K H vs ds
  | _, _, .nil => .nil
  | _, _, .cons a y r => .cons (sqt (e _ _ a)) (dz_ext e y) (r.all e)
theorem r_reprZ {a : Addr} {vs : List V} {ds : List PyData} (h : kn a = some (.lst vs)) (hne : vs ≠ []) (hz : DzK kn vs ds) (h1 : PyData.showableAll ds = true) (h3 : PyData.depth (.list ds) ≤ 64) (h4 : (PyData.shown (.list ds)).length ≤ sizeLine)
    (q : Q (.str (PyData.shown (.list ds))) kn n) : W c (rReprZ K [.ref a]) kn n Q :=
  fun H g Q' k => .inr ⟨a, vs, ds, rfl, sql (g.ex _ _ h), hne, hz.all g.ex, h1, h3, h4, k _ kn n H q g⟩
theorem r_reprD {a : Addr} {d : PyData} (hd : Dp K kn (.ref a) d) (h1 : d.showable = true) (h2 : d.hasDict = false) (h3 : d.depth ≤ 64) (h4 : d.shown.length ≤ sizeLine) (q : Q (.str d.shown) kn n) : W c (rReprZ K [.ref a]) kn n Q :=
  fun H g Q' k => .inl (r_repr hd h1 h2 h3 h4 q H g Q' k)
end
end AW

/-! Lists that are not the table of modules; repr of a plain value, of a list or tuple of such, of a dict of one list, and of a list of all these. -/
namespace L2
open PySem PySem.Spec PyProof.Rows
/-- [e, ..], and it is not the table of modules -/
def tLstB (t : TA) : TE := fun σ H Q => t σ H fun xs H1 => xs.length ≤ sizeLine ∧ ∀ p, H1 p = none → (p == sysModules) = false → Q (.ref p) (upd H1 p (.lst xs))
theorem pe_lstB {X : Cx} {es : List Expr} {t : TA} {pos : Pos} (h : PA X es t) : PE X (.List es pos) (tLstB t) := by
  refine ⟨fun pins s σ H Q I hq => ?_⟩
  refine wpAny_List_spliced (thn (h.run pos pins s σ H _ I hq) fun us s1 ⟨xs, H1, I1, r, z, q⟩ => ⟨by rw [← r.length]; exact z, ?_⟩)
  have hf : H1 s1.heap.objs.size = none := I1.hok.fresh (Nat.le_refl _)
  have ns : (s1.heap.objs.size == sysModules) = false := beq_eq_false_iff_ne.mpr (Nat.ne_of_gt I1.big)
  exact ⟨.ref s1.heap.objs.size, upd H1 s1.heap.objs.size (.lst xs), I1.laid (t' := s1.toks) (fun b u e => Heap.get?_push_of_some _ e) (Nat.le_refl _) ⟨z, us, 0, r, Heap.get?_push_size _ rfl⟩, rfl, q _ hf ns⟩
/-- a plain value -/
inductive Da : V → PyData → Prop
  | non : Da .non .none
  | bl (b : Bool) : Da (.bl b) (.bool b)
  | int (i : Int) : Da (.int i) (.int i)
  | str (x : Str) : Da (.str x) (.str x)
inductive DaAll : List V → List PyData → Prop
  | nil : DaAll [] []
  | cons {v : V} {d : PyData} {vs : List V} {ds : List PyData} : Da v d → DaAll vs ds → DaAll (v :: vs) (d :: ds)
/-- such a value, a list or tuple of such, a dict of one such list -/
inductive Dq (H : Hp) : V → PyData → Prop
  | at {v : V} {d : PyData} : Da v d → Dq H v d
  | lst {a : Addr} {xs : List V} {ds : List PyData} : H a = some (.lst xs) → (a == sysModules) = false → DaAll xs ds → Dq H (.ref a) (.list ds)
  | tup {a : Addr} {xs : List V} {ds : List PyData} : H a = some (.tup xs) → DaAll xs ds → Dq H (.ref a) (.tuple ds)
  | dic {a b : Addr} {x : Str} {xs : List V} {ds : List PyData} : H a = some (.dK [(.inr x, .ref b)]) → H b = some (.lst xs) → (b == sysModules) = false → DaAll xs ds → Dq H (.ref a) (.dict [(.str x, .list ds)])
inductive DqAll (H : Hp) : List V → List PyData → Prop
  | nil : DqAll H [] []
  | cons {v : V} {d : PyData} {vs : List V} {ds : List PyData} : Dq H v d → DqAll H vs ds → DqAll H (v :: vs) (d :: ds)
section
variable {X : Cx} {pins : List (Addr × Obj)} {σ : St} {H : Hp} {s : Shared}
theorem Da.reads {h : Heap} {v : V} {u : Value} {d : PyData} (x : Da v d) (r : RelV v u) : Reads h u d [] := by
  cases x with
  | non => cases r; exact .none
  | bl b => cases r; exact .bool b
  | int i => obtain ⟨t, rfl⟩ := r; exact .int i t
  | str x => obtain ⟨t, rfl⟩ := r; exact .str x t
theorem DaAll.reads {h : Heap} : ∀ {vs : List V} {us : List Value} {ds : List PyData}, DaAll vs ds → Vals vs us → ReadsAll h us ds []
  | _, _, _, .nil, r => by cases r; exact .nil
  | _, _, _, .cons x y, r => by
    cases r with
    | cons ru rs => exact .cons (x.reads ru) (y.reads rs)
theorem lst_reads (I : Inv X pins σ H s) {a : Addr} {xs : List V} {ds : List PyData} (h : H a = some (.lst xs)) (z : DaAll xs ds) : Reads s.heap (.ref a) (.list ds) [a] := by
  obtain ⟨its, rv, ⟨o, n, ho, hc, _, hd⟩, _⟩ := I.list (.inl (.inl h) : SqL X.K H a xs)
  exact .list ho hc hd (by simpa using z.reads rv)
theorem Dq.reads (I : Inv X pins σ H s) {v : V} {u : Value} {d : PyData} (h : Dq H v d) (r : RelV v u) : ∃ as, Reads s.heap u d as ∧ sysModules ∉ as := by
  have nm : ∀ {a : Addr}, (a == sysModules) = false → sysModules ∉ [a] := fun z m => by
    rw [List.mem_singleton] at m
    rw [← m] at z
    simp at z
  cases h with
  | «at» x => exact ⟨[], x.reads r, by simp⟩
  | lst ha hs hz =>
    cases r
    exact ⟨_, lst_reads I ha hz, nm hs⟩
  | tup ha hz =>
    cases r
    obtain ⟨its, rv, ⟨o, ho, hc, n, hd⟩, _⟩ := I.tuple (.inl (.inl ha) : SqT X.K H _ _)
    exact ⟨_, .tuple ho hc hd (by simpa using hz.reads rv), by simp⟩
  | @dic a b x xs ds ha hb hs hz =>
    cases r
    obtain ⟨_, hm, vs, rel, o, es, ep, ho, hx, hd, he⟩ := dk_of I.hok ha
    obtain ⟨hk, hp, _⟩ := he
    cases rel with
    | cons r1 r2 =>
      cases r2
      obtain ⟨e1, e2⟩ := r1
      have el := hp
      generalize hg : es.toList = l at el
      cases el with
      | cons i1 i2 i3 =>
        cases i3
        have i1 := i1
        rw [← e1] at i1
        have i2 := i2.trans (show _ = Value.ref _ from e2)
        rcases keyIs_shape (show keyIs (Sum.inr _) _ = true from i1) with ⟨i, t, h1, h2⟩ | ⟨y, t, h1, h2⟩
        · cases h1
        · cases h1
          obtain ⟨hkey⟩ : Nonempty (es.toList.map (·.key) = [Value.str x t]) := ⟨by rw [hg]; exact congrArg (fun z => [z]) h2⟩
          obtain ⟨hval⟩ : Nonempty (es.toList.map (·.val) = [Value.ref b]) := ⟨by rw [hg]; exact congrArg (fun z => [z]) i2⟩
          refine ⟨_, .dict ho hx.1 hd (by rw [hkey]; exact .cons (.str _ t) .nil) (by rw [hval]; exact .cons (lst_reads I hb hz) .nil), fun m => ?_⟩
          simp only [List.append_nil, List.cons_append, List.nil_append, List.mem_cons, List.mem_nil_iff, or_false] at m
          rcases m with m | m
          · rw [← m] at hm; simp at hm
          · rw [← m] at hs; simp at hs
theorem DqAll.reads (I : Inv X pins σ H s) : ∀ {vs : List V} {us : List Value} {ds : List PyData}, DqAll H vs ds → Vals vs us → ∃ as, ReadsAll s.heap us ds as ∧ sysModules ∉ as
  | _, _, _, .nil, r => by cases r; exact ⟨_, .nil, by simp⟩
  | _, _, _, .cons x y, r => by
    cases r with
    | cons ru rs =>
      obtain ⟨as, h1, h2⟩ := x.reads I ru
      obtain ⟨bs, h3, h4⟩ := y.reads I rs
      exact ⟨_, .cons h1 h3, fun m => (List.mem_append.1 m).elim h2 h4⟩
end
/-- repr of such a value, or of a list of such -/
def rReprQ : List V → Hp → VK → Prop := fun xs H Q => (∃ v d, xs = [v] ∧ Dq H v d ∧ d.showable = true ∧ d.depth ≤ 64 ∧ d.shown.length ≤ sizeLine ∧ Q (.str d.shown) H) ∨
  ∃ (a : Addr) (vs : List V) (ds : List PyData), xs = [.ref a] ∧ H a = some (.lst vs) ∧ (a == sysModules) = false ∧ DqAll H vs ds ∧ PyData.showableAll ds = true ∧ PyData.depth (.list ds) ≤ 64 ∧ (PyData.shown (.list ds)).length ≤ sizeLine ∧ Q (.str (PyData.shown (.list ds))) H
theorem c_reprQ {X : Cx} (hG : X.A.guards = some []) (hu : X.A.units + 128 < cLine) : CallR X (.builtin "repr") rReprQ := by
  intro pins s σ H xs us Q I r h
  rcases h with ⟨v, d, rfl, hd, h1, h3, h4, q⟩ | ⟨a, vs, ds, rfl, ha, hs, hz, h1, h3, h4, q⟩
  · obtain ⟨u, rfl, rx⟩ := vals1 r
    have big : ∀ {a : Addr} {as : List Addr}, Reads s.heap (.ref a) d as → sysModules ∉ as → wpAny (model X.prog X.w) X.A (call (.builtin "repr") [.ref a]) (EP X pins σ Q) X.xe s := fun hr hm =>
      repr_of_reads' hr h1 (fun _ => hm) hG (by omega) (fun _ _ z => z) (fun h' u tk hk => ⟨.str d.shown, H, I.kept hk, ⟨u, rfl⟩, q⟩) h4
    cases hd with
    | «at» x =>
      cases x with
      | non => cases rx; exact PySem.P.repr_of_none ⟨.str _, H, I.tok _, ⟨_, rfl⟩, q⟩
      | bl b => cases rx; exact PySem.P.repr_of_bool ⟨.str _, H, I.tok _, ⟨_, rfl⟩, q⟩
      | int i => obtain ⟨t, rfl⟩ := rx; exact PySem.P.repr_of_int (by simpa only [PyData.showable, decide_eq_true_eq] using h1) ⟨.str _, H, I.tok _, ⟨_, rfl⟩, q⟩
      | str y => obtain ⟨t, rfl⟩ := rx; exact PySem.P.repr_of_str ⟨.str _, H, I.tok _, ⟨_, rfl⟩, q⟩ h4
    | lst ha hs hz =>
      obtain ⟨as, hr, hm⟩ := Dq.reads I (.lst ha hs hz) rx
      cases rx
      exact big hr hm
    | tup ha hz =>
      obtain ⟨as, hr, hm⟩ := Dq.reads I (.tup ha hz) rx
      cases rx
      exact big hr hm
    | dic ha hb hs hz =>
      obtain ⟨as, hr, hm⟩ := Dq.reads I (.dic ha hb hs hz) rx
      cases rx
      exact big hr hm
  · obtain ⟨u, rfl, rx⟩ := vals1 r
    cases (show u = Value.ref a from rx)
    obtain ⟨its, rv, ⟨o, n, ho, hc, _, hd⟩, _⟩ := I.list (.inl (.inl ha) : SqL X.K H a vs)
    obtain ⟨as, hr, hm⟩ := hz.reads I rv
    refine repr_of_reads' (.list ho hc hd (by simpa using hr)) (by simpa only [PyData.showable] using h1) (fun _ m => ?_) hG (by omega) (fun _ _ z => z) (fun h' u tk hk => ⟨.str _, H, I.kept hk, ⟨u, rfl⟩, q⟩) h4
    rcases List.mem_cons.1 m with e | e
    · rw [← e] at hs; simp at hs
    · exact hm e
/-- a text so many times -/
def rRepS : R2 := fun x y H Q => ∃ z n, x = .str z ∧ y = .int n ∧ PySem.MulOk z n ∧ Q (.str (Txt.mul z n)) H
theorem op_repS {X : Cx} : OpR X (binaryOp .Mult) rRepS := by
  intro pins s σ H x y u w Q I r1 r2 h
  obtain ⟨z, n, rfl, rfl, hok, q⟩ := h
  obtain ⟨t, rfl⟩ := r1
  obtain ⟨t2, rfl⟩ := r2
  exact PySem.SB.mul hok fun t' k => ⟨.str _, H, I.tok _, ⟨_, rfl⟩, q⟩
end L2

/-! Pieces that several laws' own defs have. -/
namespace AW
open PySem PySem.Spec L2 LamX
section
variable {c : Cw} {kn : Hp} {n : Nat} {σ : L2.St} {Q : V → Hp → Nat → Prop} {K : PySem.W.Frag}
/-- a value that changes nothing -/
theorem w_pure {t : TE} (v0 : V) (h : W c (t σ) kn n fun v k m => v = v0 ∧ k = kn ∧ m = n) (q : Q v0 kn n) : W c (t σ) kn n Q :=
  h.mono fun v k m ⟨e1, e2, e3⟩ => by subst e1 e2 e3; exact q
theorem w_revL {te : TE} (h : W c (te σ) kn n fun x kn1 n1 => ∃ a xs, x = .ref a ∧ kn1 a = some (.lst xs) ∧ ∀ p, kn1 p = none → Q (.ref p) (upd kn1 p (.lst xs.reverse)) n1) : W c (tRevL K te σ) kn n Q :=
  fun H g Q' q => h H g _ fun x kn1 n1 H1 ⟨a, xs, e, hx, hq⟩ g1 => ⟨a, xs, e, sql (g1.ex _ _ hx), fun p hp => q _ _ _ _ (hq p (g1.free hp)) (g1.new hp)⟩
end
/-- [n for n in range(s) if draw(pen, 2) == 0] -/
theorem w_lcOver {p a : Addr} {ns : List Int} {TT : List (Addr × Str)} {kn : Hp} {n : Nat} {σ : L2.St} {Q : V → Hp → Nat → Prop} {s jp js m : Nat} (h4 : σ[js]? = some (some (.int (s : Int)))) (h1 : ∀ v : V, ((wipe σ [m]).set m (some v))[jp]? = some (some (.ref p))) (h6 : ∀ v : V, ((wipe σ [m]).set m (some v))[m]? = some (some v)) (hw : ∀ v : V, wipe ((wipe σ [m]).set m (some v)) [m] = wipe σ [m])
    (hs : s ≤ 100) (hn : n + s + 1 < 1000000)
    (h : ∀ (D : Addr) (ys : List Nat) (n' : Nat), kn D = none → (∀ y ∈ ys, y < s) → ys.length ≤ s → n' ≤ n + s → Q (.ref D) (upd kn D (.lst (ys.map fun (i : Nat) => V.int i))) n') :
    W (penC p a ns TT) (tLc (iRng1 (tCons (tVar js) tNil)) (gName m) (tTest (tOp rEq (tCall spDraw [] E0 (tCons (tVar jp) (tCons (tC (.int 2)) tNil))) (tC (.int 0)))) (tVar m) [m] σ) kn n Q := by
  refine w_lc (i_rng1 (w_cons (w_var h4 (w_nil ⟨_, rfl, by omega, by omega, ?_⟩))))
  rw [Int.toNat_natCast]
  refine ⟨_, (fun _ => True), fun D i acc k m => k = upd kn D (.lst acc) ∧ kn D = none ∧ m ≤ n + i ∧ i ≤ s ∧ ∃ ys : List Nat, acc = (ys.map fun (i : Nat) => V.int i) ∧ ys.length ≤ i ∧ ∀ y ∈ ys, y < s, gives_rng, by rw [List.length_map, List.length_range]; omega, fun D hD => ⟨rfl, hD, by omega, by omega, [], rfl, Nat.le_refl 0, fun y hy => (by cases hy)⟩, ?_, ?_, ?_⟩
  · rintro D i acc k m ⟨rfl, hD, _, _, ys, rfl, hl, _⟩
    exact ⟨trivial, upd_same, by rw [List.length_map]; exact hl⟩
  · rintro D i acc x k m hx ⟨rfl, hD, hm, _, ys, rfl, hl, hy⟩
    have hi : i < s := by
      have := (List.getElem?_eq_some_iff.1 hx).1
      rw [List.length_map, List.length_range] at this
      exact this
    obtain rfl : x = V.int (i : Int) := by
      rw [List.getElem?_map, List.getElem?_range hi] at hx
      rw [← Option.some.inj hx]
      exact congrArg V.int (show (0 : Int) + ((i : Nat) : Int) = ((i : Nat) : Int) by omega)
    refine g_name ⟨hw _, w_test (w_op (w_draw (w_cons (w_var (h1 _) (w_cons (w_c (w_nil ⟨2, rfl, by omega, by decide, by decide, fun k2 k20 k21 => w_c (r_eq rfl ⟨_, rfl, fun _ => ?_, fun _ => ?_⟩)⟩)))))))⟩
    · refine w_var (h6 _) ⟨upd_same, ?_, hD, by omega, by omega, ys ++ [i], by rw [List.map_append]; rfl, by rw [List.length_append]; show _ + 1 ≤ _; omega, fun y hy2 => ?_⟩
      · funext b
        by_cases hb : b = D
        · rw [hb, upd_same, upd_same]
        · rw [upd_ne hb, upd_ne hb, upd_ne hb]
      · rcases List.mem_append.1 hy2 with z | z
        · exact hy y z
        · rw [List.mem_singleton.1 z]
          exact hi
    · exact ⟨rfl, hD, by omega, by omega, ys, rfl, by omega, hy⟩
  · rintro D acc k m ⟨rfl, hD, hm, hs2, ys, rfl, hl, hy⟩
    rw [List.length_map, List.length_range] at hm hl
    exact h D ys m hD hy (by omega) (by omega)
section
variable {c : Cw} {kn : Hp} {n : Nat} {σ : L2.St} {Q : V → Hp → Nat → Prop}
/-- a comprehension without a test that changes nothing, its items one by one -/
theorem w_lcV {wi : TI} {gt : TG} {te : TE} {vs : List Nat}
    (h : WI c (wi σ) kn n fun J kn1 n1 => ∃ (xs : List V) (ka : Hp → Prop) (ys : List V), Gives J xs ka ∧ xs.length ≤ 100000 ∧ ys.length = xs.length ∧ (∀ k, Ext kn1 k → ka k) ∧
      (∀ (i : Nat) (x y : V), xs[i]? = some x → ys[i]? = some y → ∀ k, Ext kn1 k → WG c gt x (wipe σ vs) k n1 fun σ2 k2 n2 => k2 = k ∧ n2 = n1 ∧ wipe σ2 vs = wipe σ vs ∧ W c (te σ2) k n1 fun v k4 n4 => v = y ∧ k4 = k ∧ n4 = n1) ∧
      ∀ D, kn1 D = none → Q (.ref D) (upd kn1 D (.lst ys)) n1) : W c (tLc wi gt tYes te vs σ) kn n Q := by
  refine w_lc (fun H g R' q => h H g R' fun J kn1 n1 H1 hJ g1 => q J kn1 n1 H1 ?_ g1)
  obtain ⟨xs, ka, ys, hG, hl, hy, hk, hs, hd⟩ := hJ
  have e1 : ∀ {k : Hp} {D : Addr} {o : HO}, k D = none → Ext k (upd k D o) := fun h x u e => know h e
  refine ⟨xs, ka, fun D i acc k m => m = n1 ∧ kn1 D = none ∧ acc = ys.take i ∧ k = upd kn1 D (.lst acc), hG, hl, fun D hD => ⟨rfl, hD, by simp, rfl⟩, ?_, ?_, ?_⟩
  · rintro D i acc k m ⟨rfl, hD, rfl, rfl⟩
    exact ⟨hk _ (e1 hD), upd_same, by rw [List.length_take]; exact Nat.min_le_left _ _⟩
  · rintro D i acc x k m hx ⟨rfl, hD, rfl, rfl⟩
    have hi : i < ys.length := by rw [hy]; exact (List.getElem?_eq_some_iff.1 hx).1
    intro H g N' f'
    refine hs i x _ hx (List.getElem?_eq_getElem hi) _ (e1 hD) H g N' fun σ2 k2 n2 H2 hq g2 => f' σ2 k2 n2 H2 ?_ g2
    obtain ⟨rfl, rfl, hw, hq⟩ := hq
    refine ⟨hw, w_yesT ⟨fun _ => hq.mono fun y k4 n4 hy2 => ?_, fun z => nomatch z⟩⟩
    obtain ⟨rfl, rfl, rfl⟩ := hy2
    refine ⟨upd_same, rfl, hD, ?_, ?_⟩
    · rw [List.take_add_one, List.getElem?_eq_getElem hi]; rfl
    · funext z
      by_cases hz : z = D
      · rw [hz, upd_same, upd_same]
      · rw [upd_ne hz, upd_ne hz, upd_ne hz]
  · rintro D acc k m ⟨rfl, hD, rfl, rfl⟩
    rw [← hy, List.take_length]
    exact hd D hD
/-- a comprehension without a test whose items are made anew -/
theorem w_lcN {wi : TI} {gt : TG} {te : TE} {vs : List Nat} (R : Nat → V → Hp → Prop) (hE : ∀ i v k k', Ext k k' → R i v k → R i v k') (hP : ∀ i v k D zs o, k D = some (.lst zs) → R i v k → R i v (upd k D o))
    (h : WI c (wi σ) kn n fun J kn1 n1 => ∃ (xs : List V) (ka : Hp → Prop), Gives J xs ka ∧ xs.length ≤ 100000 ∧ (∀ k, Ext kn1 k → ka k) ∧
      (∀ (i : Nat) (x : V), xs[i]? = some x → ∀ k, Ext kn1 k → WG c gt x (wipe σ vs) k n1 fun σ2 k2 n2 => k2 = k ∧ n2 = n1 ∧ wipe σ2 vs = wipe σ vs ∧ W c (te σ2) k n1 fun v k4 n4 => n4 = n1 ∧ Ext k k4 ∧ R i v k4) ∧
      ∀ D k (ys : List V), Ext kn1 k → kn1 D = none → k D = some (.lst ys) → ys.length = xs.length → (∀ (i : Nat) (y : V), ys[i]? = some y → R i y k) → Q (.ref D) k n1) : W c (tLc wi gt tYes te vs σ) kn n Q := by
  refine w_lc (fun H g R' q => h H g R' fun J kn1 n1 H1 hJ g1 => q J kn1 n1 H1 ?_ g1)
  obtain ⟨xs, ka, hG, hl, hk, hs, hd⟩ := hJ
  have e1 : ∀ {k : Hp} {D : Addr} {o : HO}, k D = none → Ext k (upd k D o) := fun h x u e => know h e
  refine ⟨xs, ka, fun D i acc k m => m = n1 ∧ kn1 D = none ∧ Ext kn1 k ∧ k D = some (.lst acc) ∧ acc.length = i ∧ ∀ (j : Nat) (y : V), acc[j]? = some y → R j y k, hG, hl, fun D hD => ⟨rfl, hD, e1 hD, upd_same, rfl, fun j y hj => (by cases hj)⟩, ?_, ?_, ?_⟩
  · rintro D i acc k m ⟨rfl, hD, ek, kD, hl, hr⟩
    exact ⟨hk _ ek, kD, Nat.le_of_eq hl⟩
  · rintro D i acc x k m hx ⟨rfl, hD, ek, kD, hl, hr⟩
    intro H g N' f'
    refine hs i x hx _ ek H g N' fun σ2 k2 n2 H2 hq g2 => f' σ2 k2 n2 H2 ?_ g2
    obtain ⟨rfl, rfl, hw, hq⟩ := hq
    refine ⟨hw, w_yesT ⟨fun _ => hq.mono fun y k4 n4 hy2 => ?_, fun z => nomatch z⟩⟩
    obtain ⟨rfl, e4, hy⟩ := hy2
    have kD4 := e4 _ _ kD
    refine ⟨kD4, rfl, hD, fun z o hz => ?_, upd_same, by rw [List.length_append, hl]; rfl, fun j y' hj => ?_⟩
    · rw [upd_ne (fun e => by rw [e, hD] at hz; cases hz)]
      exact e4 _ _ (ek _ _ hz)
    · refine hP _ _ _ _ _ _ kD4 ?_
      rcases Nat.lt_or_ge j acc.length with z | z
      · rw [List.getElem?_append_left z] at hj
        exact hE _ _ _ _ e4 (hr j y' hj)
      · rw [List.getElem?_append_right z] at hj
        have : j - acc.length = 0 := by
          rcases Nat.eq_zero_or_pos (j - acc.length) with e | e
          · exact e
          · rw [List.getElem?_eq_none (by show 1 ≤ _; omega)] at hj; cases hj
        rw [this] at hj
        cases hj
        have : j = i := by omega
        rw [this]
        exact hy
  · rintro D acc k m ⟨rfl, hD, ek, kD, hl, hr⟩
    exact hd D k acc ek hD kD hl hr
end
end AW

/-! Own errors as values, repr of data with dicts: the abstract layer. -/
namespace AW
open PySem PySem.Spec PyProof.Rows L2
/-- an own error with its fields -/
structure ErrAt (k : Hp) (a C : Addr) (fs : List (Str × V)) : Prop where
  at_ : ∃ d, k a = some (exo a C (some d)) ∧ k d = some (exd d fs)
theorem ErrAt.ext {k k' : Hp} {a C : Addr} {fs : List (Str × V)} (e : Ext k k') (h : ErrAt k a C fs) : ErrAt k' a C fs := by
  obtain ⟨d, h1, h2⟩ := h
  exact ⟨d, e _ _ h1, e _ _ h2⟩
theorem x1_top {H : Hp} {a d : Addr} {o1 o2 o3 : HO} : upd (upd (upd H a o1) d o2) a o3 = upd (upd H d o2) a o3 := by
  funext x
  by_cases h1 : x = a
  · rw [h1, upd_same, upd_same]
  · rw [upd_ne h1, upd_ne h1]
    by_cases h2 : x = d
    · rw [h2, upd_same, upd_same]
    · rw [upd_ne h2, upd_ne h2, upd_ne h1]
theorem x2_top {H : Hp} {a d : Addr} {o1 o2 o3 o4 : HO} (hd : d ≠ a) : upd (upd (upd (upd H a o1) d o2) a o3) d o4 = upd (upd H d o4) a o3 := by
  funext x
  by_cases h1 : x = d
  · rw [h1, upd_same, upd_ne hd, upd_same]
  · rw [upd_ne h1]
    by_cases h2 : x = a
    · rw [h2, upd_same, upd_same]
    · rw [upd_ne h2, upd_ne h1, upd_ne h2, upd_ne h2, upd_ne h1]
theorem dq_ext {H H' : Hp} (e : Ext H H') {v : V} {d : PyData} (h : Dq H v d) : Dq H' v d := by
  cases h with
  | «at» x => exact .at x
  | lst h1 h2 h3 => exact .lst (e _ _ h1) h2 h3
  | tup h1 h2 => exact .tup (e _ _ h1) h2
  | dic h1 h2 h3 h4 => exact .dic (e _ _ h1) (e _ _ h2) h3 h4
theorem dqa_ext {H H' : Hp} (e : Ext H H') : ∀ {vs : List V} {ds : List PyData}, DqAll H vs ds → DqAll H' vs ds
  | _, _, .nil => .nil
  | _, _, .cons x y => .cons (dq_ext e x) (dqa_ext e y)
section
variable {K : PySem.W.Frag} {c : Cw} {kn : Hp} {n : Nat} {σ : L2.St} {Q : V → Hp → Nat → Prop} {C : Addr} {f g : Str} {ta tk : TA}
theorem w_lstB (h : W c (ta σ) kn n fun xs kn1 n1 => xs.length ≤ 1000 ∧ ∀ q, kn1 q = none → (q == sysModules) = false → Q (.ref q) (upd kn1 q (.lst xs)) n1) : W c (tLstB ta σ) kn n Q :=
  fun H gd Q' q => h H gd _ fun xs kn1 n1 H1 h1 g1 => ⟨Nat.le_trans h1.1 (by rw [sizeLine_eq]; decide), fun p hp hs => q _ _ _ _ (h1.2 p (g1.free hp) hs) (g1.new hp)⟩
theorem mk1_end {H1 kn1 : Hp} {n1 : Nat} {a dx : Addr} {y : V} {R : Hp → Prop} (g1 : Good c kn1 n1 H1) (ha : H1 a = none) (hd : H1 dx = none) (hda : dx ≠ a)
    (h : ∀ k', Ext kn1 k' → kn1 a = none → ErrAt k' a C [(f, y)] → ∀ H', Good c k' n1 H' → R H') : R (upd (upd (upd H1 a (exo a C none)) dx (exd dx [(f, y)])) a (exo a C (some dx))) := by
  rw [x1_top]
  have ha2 : upd H1 dx (exd dx [(f, y)]) a = none := by rw [upd_ne (Ne.symm hda)]; exact ha
  have g2 := g1.new (o := exd dx [(f, y)]) hd
  have g3 := g2.new (o := exo a C (some dx)) ha2
  have ka2 := g2.free ha2
  refine h _ (fun x o hx => ?_) (g1.free ha) ⟨dx, upd_same, by rw [upd_ne hda, upd_same]⟩ _ g3
  rw [upd_ne (fun z => by rw [z, g1.free ha] at hx; cases hx), upd_ne (fun z => by rw [z, g1.free hd] at hx; cases hx)]
  exact hx
/-- C(y) -/
theorem w_mkV1 (oc : OexC K C) (hf : PySem.W.findIn K (.ref C) f = some none) (h : W c (ta σ) kn n fun vs kn1 n1 => ∃ y, vs = [y] ∧ ∀ a k', Ext kn1 k' → kn1 a = none → ErrAt k' a C [(f, y)] → Q (.ref a) k' n1) : W c (tMkV C (spX1 K f) [] ta σ) kn n Q :=
  fun H gd Q' q => h H gd _ fun vs kn1 n1 H1 ⟨y, e, h1⟩ g1 => by
    subst e
    refine ⟨Nat.le_add_left 1 999, fun a ha => ⟨a, C, y, rfl, oc, hf, upd_same, fun dx hd hda => ⟨rfl, ?_⟩⟩⟩
    rw [upd_ne hda] at hd
    exact mk1_end (R := fun H' => Q' (.ref a) H') g1 ha hd hda fun k' e ka at' H' g' => q _ _ _ _ (h1 a k' e ka at') g'
/-- C(y, z) -/
theorem w_mkV2 (oc : OexC K C) (hf : PySem.W.findIn K (.ref C) f = some none) (hg : PySem.W.findIn K (.ref C) g = some none) (h : W c (ta σ) kn n fun vs kn1 n1 => ∃ y z, vs = [y, z] ∧ ∀ a k', Ext kn1 k' → kn1 a = none → ErrAt k' a C [(g, z), (f, y)] → Q (.ref a) k' n1) : W c (tMkV C (spX2 K f g) [] ta σ) kn n Q :=
  fun H gd Q' q => h H gd _ fun vs kn1 n1 H1 ⟨y, z, e, h1⟩ g1 => by
    subst e
    refine ⟨Nat.le_add_left 2 998, fun a ha => ⟨a, C, y, z, rfl, oc, hf, hg, upd_same, fun dx hd hda => ⟨rfl, ?_⟩⟩⟩
    rw [upd_ne hda] at hd
    rw [x2_top hda]
    have ha2 : upd H1 dx (exd dx [(g, z), (f, y)]) a = none := by rw [upd_ne (Ne.symm hda)]; exact ha
    have g2 := g1.new (o := exd dx [(g, z), (f, y)]) hd
    refine q _ _ _ _ (h1 a _ (fun x o hx => ?_) (g1.free ha) ⟨dx, upd_same, by rw [upd_ne hda, upd_same]⟩) (g2.new (o := exo a C (some dx)) ha2)
    rw [upd_ne (fun z => by rw [z, g1.free ha] at hx; cases hx), upd_ne (fun z => by rw [z, g1.free hd] at hx; cases hx)]
    exact hx
/-- C(f = y) -/
theorem w_mkK1 {gV : List V → List V → List V} (hv : ∀ (x y : V), gV [x] [y] = [x, y]) (oc : OexC K C) (hf : PySem.W.findIn K (.ref C) f = some none) (h : W c (tk σ) kn n fun vs kn1 n1 => ∃ y, vs = [y] ∧ ∀ a k', Ext kn1 k' → kn1 a = none → ErrAt k' a C [(f, y)] → Q (.ref a) k' n1) : W c (tMkK C 1 (spX1 K f) gV tk σ) kn n Q :=
  fun H gd Q' q => h H gd _ fun vs kn1 n1 H1 ⟨y, e, h1⟩ g1 => by
    subst e
    refine ⟨rfl, fun a ha => ⟨a, C, y, hv _ _, oc, hf, upd_same, fun dx hd hda => ⟨rfl, ?_⟩⟩⟩
    rw [upd_ne hda] at hd
    exact mk1_end (R := fun H' => Q' (.ref a) H') g1 ha hd hda fun k' e ka at' H' g' => q _ _ _ _ (h1 a k' e ka at') g'
/-- C(g = z, f = y), the other way about -/
theorem w_mkK2 {gV : List V → List V → List V} (hv : ∀ (x y z : V), gV [x] [z, y] = [x, y, z]) (oc : OexC K C) (hf : PySem.W.findIn K (.ref C) f = some none) (hg : PySem.W.findIn K (.ref C) g = some none) (h : W c (tk σ) kn n fun vs kn1 n1 => ∃ y z, vs = [z, y] ∧ ∀ a k', Ext kn1 k' → kn1 a = none → ErrAt k' a C [(g, z), (f, y)] → Q (.ref a) k' n1) : W c (tMkK C 2 (spX2 K f g) gV tk σ) kn n Q :=
  fun H gd Q' q => h H gd _ fun vs kn1 n1 H1 ⟨y, z, e, h1⟩ g1 => by
    subst e
    refine ⟨rfl, fun a ha => ⟨a, C, y, z, hv _ _ _, oc, hf, hg, upd_same, fun dx hd hda => ⟨rfl, ?_⟩⟩⟩
    rw [upd_ne hda] at hd
    rw [x2_top hda]
    have ha2 : upd H1 dx (exd dx [(g, z), (f, y)]) a = none := by rw [upd_ne (Ne.symm hda)]; exact ha
    have g2 := g1.new (o := exd dx [(g, z), (f, y)]) hd
    refine q _ _ _ _ (h1 a _ (fun x o hx => ?_) (g1.free ha) ⟨dx, upd_same, by rw [upd_ne hda, upd_same]⟩) (g2.new (o := exo a C (some dx)) ha2)
    rw [upd_ne (fun z => by rw [z, g1.free ha] at hx; cases hx), upd_ne (fun z => by rw [z, g1.free hd] at hx; cases hx)]
    exact hx
/-- C() -/
theorem w_mk0 (h : ∀ a, kn a = none → Q (.ref a) (upd kn a (exo a C none)) n) : W c (tMk0 C σ) kn n Q :=
  fun H gd Q' q a ha => q _ _ _ _ (h a (gd.free ha)) (gd.new ha)
/-- e.f -/
theorem w_xv {te : TE} (h : W c (te σ) kn n fun x kn1 n1 => ∃ a D fs v, x = .ref a ∧ ErrAt kn1 a D fs ∧ XfC K D ∧ PySem.W.findIn K (.ref D) f = some none ∧ fs.lookup f = some v ∧ Q v kn1 n1) : W c (tXv K te f σ) kn n Q :=
  fun H gd Q' q => h H gd _ fun x kn1 n1 H1 ⟨a, D, fs, v, e, ⟨d, h1, h2⟩, xf, hn, l, hq⟩ g1 => ⟨a, D, d, fs, v, e, g1.ex _ _ h1, g1.ex _ _ h2, xf, hn, l, q _ _ _ _ hq g1⟩
/-- an own error, with or without fields -/
def IsErr (k : Hp) (a C : Addr) : Prop := ∃ d fs, k a = some (exo a C d) ∧ ∀ dd, d = some dd → k dd = some (exd dd fs)
theorem IsErr.ext {k k' : Hp} {a C : Addr} (e : Ext k k') (h : IsErr k a C) : IsErr k' a C := by
  obtain ⟨d, fs, h1, h2⟩ := h
  exact ⟨d, fs, e _ _ h1, fun dd z => e _ _ (h2 dd z)⟩
theorem ErrAt.is {k : Hp} {a C : Addr} {fs : List (Str × V)} (h : ErrAt k a C fs) : IsErr k a C := by
  obtain ⟨d, h1, h2⟩ := h
  exact ⟨some d, fs, h1, fun dd z => by cases z; exact h2⟩
theorem r_isV {a D : Addr} {cc : V} {cv : Value} {b : Bool} (h : IsErr kn a D) (hc : ClsV cc cv) (xc : ExcC K D) (hk : PySem.W.kitOne K (.ref D) cv = some b) (q : Q (.bl b) kn n) : W c (rIsV K [.ref a, cc]) kn n Q :=
  fun H gd Q' k => by
    obtain ⟨d, fs, h1, h2⟩ := h
    exact ⟨a, D, d, fs, cc, cv, b, rfl, hc, gd.ex _ _ h1, fun dd z => gd.ex _ _ (h2 dd z), xc, hk, k _ kn n H q gd⟩
theorem r_reprQ {v : V} {d : PyData} (hd : Dq kn v d) (h1 : d.showable = true) (h3 : d.depth ≤ 64) (h4 : d.shown.length ≤ sizeLine) (q : Q (.str d.shown) kn n) : W c (rReprQ [v]) kn n Q :=
  fun H gd Q' k => .inl ⟨v, d, rfl, dq_ext gd.ex hd, h1, h3, h4, k _ kn n H q gd⟩
theorem r_reprQL {a : Addr} {vs : List V} {ds : List PyData} (ha : kn a = some (.lst vs)) (hs : (a == sysModules) = false) (hz : DqAll kn vs ds) (h1 : PyData.showableAll ds = true) (h3 : PyData.depth (.list ds) ≤ 64) (h4 : (PyData.shown (.list ds)).length ≤ sizeLine) (q : Q (.str (PyData.shown (.list ds))) kn n) : W c (rReprQ [.ref a]) kn n Q :=
  fun H gd Q' k => .inr ⟨a, vs, ds, rfl, gd.ex _ _ ha, hs, dqa_ext gd.ex hz, h1, h3, h4, k _ kn n H q gd⟩
end
/-- which classes are which -/
def kitTab (K : PySem.W.Frag) (cs : List Addr) : List (List (Option Bool)) := cs.map fun t => cs.map fun c => PySem.W.kitOne K (.ref t) (.ref c)
theorem kitTab_at {K : PySem.W.Frag} {cs : List Addr} {T : List (List Bool)} (h : kitTab K cs = T.map (·.map some)) {i j : Nat} {a b : Addr} (ha : cs[i]? = some a) (hb : cs[j]? = some b) {x : Bool} (hx : (T[i]?).bind (·[j]?) = some x) : PySem.W.kitOne K (.ref a) (.ref b) = some x := by
  have e := congrArg (fun z => (z[i]?).bind (·[j]?)) h
  unfold kitTab at e
  simp only [List.getElem?_map, ha, Option.map_some, Option.bind_some, hb] at e
  cases hT : T[i]? with
  | none => rw [hT] at hx; cases hx
  | some r =>
    rw [hT] at hx e
    simp only [Option.map_some, Option.bind_some, List.getElem?_map] at hx e
    rw [hx] at e
    exact Option.some.inj (by simpa using e)
theorem r_repS {c : Cw} {kn : Hp} {n : Nat} {Q : V → Hp → Nat → Prop} {z : Str} {i : Int} (h : PySem.MulOk z i) (q : Q (.str (Txt.mul z i)) kn n) : W c (rRepS (.str z) (.int i)) kn n Q := fun H g _ k => ⟨z, i, rfl, rfl, h, k _ kn n H q g⟩
end AW
namespace AW
def kitR : List (List Bool) := [[true, false, false, false, false, false, false, false, false, false, false, false, false, false, false, false, false, false, false, false, false, false, false, false, false, false, false, false], [true, true, false, false, false, false, false, false, false, false, false, false, false, false, false, false, false, false, false, false, false, false, false, false, false, false, false, false], [true, false, true, false, false, false, false, false, false, false, false, false, false, false, false, false, false, false, false, false, false, false, false, false, false, false, false, false], [true, false, false, true, false, false, false, false, false, false, false, false, false, false, false, false, false, false, false, false, false, false, false, false, false, false, false, false], [true, true, false, false, true, false, false, false, false, false, false, false, false, false, false, false, false, false, false, false, false, false, false, false, false, false, false, false], [true, true, false, false, false, true, false, false, false, false, false, false, false, false, false, false, false, false, false, false, false, false, false, false, false, false, false, false], [true, true, false, false, false, false, true, false, false, false, false, false, false, false, false, false, false, false, false, false, false, false, false, false, false, false, false, false], [true, true, false, false, false, false, false, true, false, false, false, false, false, false, false, false, false, false, false, false, false, false, false, false, false, false, false, false], [true, true, false, false, false, false, false, false, true, false, false, false, false, false, false, false, false, false, false, false, false, false, false, false, false, false, false, false], [true, true, false, false, false, false, false, false, false, true, false, false, false, false, false, false, false, false, false, false, false, false, false, false, false, false, false, false], [true, true, false, false, false, false, false, false, false, false, true, false, false, false, false, false, false, false, false, false, false, false, false, false, false, false, false, false], [true, true, false, false, false, false, false, false, false, false, false, true, false, false, false, false, false, false, false, false, false, false, false, false, false, false, false, false], [true, true, false, false, false, false, false, false, false, false, false, false, true, false, false, false, false, false, false, false, false, false, false, false, false, false, false, false], [true, true, false, false, false, false, false, false, false, false, false, false, false, true, false, false, false, false, false, false, false, false, false, false, false, false, false, false], [true, true, false, false, false, false, false, false, false, false, false, false, false, false, true, false, false, false, false, false, false, false, false, false, false, false, false, false], [true, true, false, false, false, false, false, false, false, false, false, false, false, false, false, true, false, false, false, false, false, false, false, false, false, false, false, false], [true, true, false, false, false, false, false, false, false, false, false, false, false, false, false, false, true, false, false, false, false, false, false, false, false, false, false, false], [true, true, false, false, false, false, false, false, false, false, false, false, false, false, false, false, false, true, false, false, false, false, false, false, false, false, false, false], [true, false, true, false, false, false, false, false, false, false, false, false, false, false, false, false, false, false, true, false, false, false, false, false, false, false, false, false], [true, false, true, false, false, false, false, false, false, false, false, false, false, false, false, false, false, false, false, true, false, false, false, false, false, false, false, false], [true, false, true, false, false, false, false, false, false, false, false, false, false, false, false, false, false, false, false, false, true, false, false, false, false, false, false, false], [true, false, true, false, false, false, false, false, false, false, false, false, false, false, false, false, false, false, false, false, false, true, false, false, false, false, false, false], [true, false, true, false, false, false, false, false, false, false, false, false, false, false, false, false, false, false, false, false, false, false, true, false, false, false, false, false], [true, false, true, false, false, false, false, false, false, false, false, false, false, false, false, false, false, false, false, false, false, false, false, true, false, false, false, false], [true, false, true, false, false, false, false, false, false, false, false, false, false, false, false, false, false, false, false, false, false, false, false, false, true, false, false, false], [true, false, false, true, false, false, false, false, false, false, false, false, false, false, false, false, false, false, false, false, false, false, false, false, false, true, false, false], [true, false, false, true, false, false, false, false, false, false, false, false, false, false, false, false, false, false, false, false, false, false, false, false, false, false, true, false], [true, false, false, true, false, false, false, false, false, false, false, false, false, false, false, false, false, false, false, false, false, false, false, false, false, false, false, true]]
end AW

namespace NN
open PySem PySem.Spec PyProof.Rows L2 LamX AW ClX
def codeTab : Obj → Option Addr
  | ⟨.type "code", _, .fields vs, _⟩ => match (vs[11]? : Option Value) with | some (.ref P) => some P | _ => none
  | _ => none
def codeB (o : Obj) (c P : Addr) : Bool := PySem.W.codeHdIn [(c, o)] c P
theorem codeB_in {K : PySem.W.Frag} {o : Obj} {c P : Addr} (h : K.lookup c = some o) (e : codeB o c P = true) : PySem.W.codeHdIn K c P = true := by
  have q : ([(c, o)] : PySem.W.Frag).lookup c = some o := by simp [List.lookup]
  unfold codeB PySem.W.codeHdIn at e
  rw [q] at e
  unfold PySem.W.codeHdIn
  rw [h]
  exact e
theorem mem_look {β : Type} : ∀ {l : List (Addr × β)} {a : Addr} {b : β}, l.lookup a = some b → (a, b) ∈ l
  | [], _, _, e => by cases e
  | (c, x) :: r, a, b, e => by
    rw [List.lookup_cons] at e
    cases hb : a == c with
    | true => rw [hb] at e; cases e; rw [eq_of_beq hb]; exact .head _
    | false => rw [hb] at e; exact .tail _ (mem_look e)
theorem none_of {K : Params → PySem.W.Frag} {as : List Addr} {e : ∀ P, as = (K P).map (·.1)} {ts : List Addr} {w : World} {h : Heap} (_ : (PySem.W.kmHook K as e ts).says w h) {a : Addr} (ha : decide (a ∈ as) = false) : (K w.params).lookup a = none := by
  cases q : (K w.params).lookup a with
  | none => rfl
  | some o =>
    have m : a ∈ as := by rw [e w.params]; exact List.mem_map.mpr ⟨(a, o), mem_look q, rfl⟩
    exact absurd m (of_decide_eq_false ha)
def top (i : Nat) : Stmt := PySem.Challenge.pw_nodeadnight_k01_errors_and_their_fields.main.body.getD i (.Pass ⟨0, 0, 0, 0⟩)
abbrev s_BadLengths___init__ : Stmt := inClass (top 5) 0
theorem sc_BadLengths___init__ : FnScope ["self", "part"] ["self", "part"] (defScope s_BadLengths___init__) :=
  ⟨rfl, rfl, rfl, by decide +kernel, rfl, by decide +kernel, by decide +kernel⟩
abbrev s_BadDays___init__ : Stmt := inClass (top 6) 0
theorem sc_BadDays___init__ : FnScope ["self", "part"] ["self", "part"] (defScope s_BadDays___init__) :=
  ⟨rfl, rfl, rfl, by decide +kernel, rfl, by decide +kernel, by decide +kernel⟩
abbrev s_BadStay___init__ : Stmt := inClass (top 7) 0
theorem sc_BadStay___init__ : FnScope ["self", "part"] ["self", "part"] (defScope s_BadStay___init__) :=
  ⟨rfl, rfl, rfl, by decide +kernel, rfl, by decide +kernel, by decide +kernel⟩
abbrev s_BadRule___init__ : Stmt := inClass (top 8) 0
theorem sc_BadRule___init__ : FnScope ["self", "part"] ["self", "part"] (defScope s_BadRule___init__) :=
  ⟨rfl, rfl, rfl, by decide +kernel, rfl, by decide +kernel, by decide +kernel⟩
abbrev s_BadBook___init__ : Stmt := inClass (top 9) 0
theorem sc_BadBook___init__ : FnScope ["self", "part"] ["self", "part"] (defScope s_BadBook___init__) :=
  ⟨rfl, rfl, rfl, by decide +kernel, rfl, by decide +kernel, by decide +kernel⟩
abbrev s_BadStretch___init__ : Stmt := inClass (top 10) 0
theorem sc_BadStretch___init__ : FnScope ["self", "part"] ["self", "part"] (defScope s_BadStretch___init__) :=
  ⟨rfl, rfl, rfl, by decide +kernel, rfl, by decide +kernel, by decide +kernel⟩
abbrev s_BadCalendar___init__ : Stmt := inClass (top 11) 0
theorem sc_BadCalendar___init__ : FnScope ["self", "part"] ["self", "part"] (defScope s_BadCalendar___init__) :=
  ⟨rfl, rfl, rfl, by decide +kernel, rfl, by decide +kernel, by decide +kernel⟩
abbrev s_BadDoor___init__ : Stmt := inClass (top 12) 0
theorem sc_BadDoor___init__ : FnScope ["self", "part"] ["self", "part"] (defScope s_BadDoor___init__) :=
  ⟨rfl, rfl, rfl, by decide +kernel, rfl, by decide +kernel, by decide +kernel⟩
abbrev s_BadName___init__ : Stmt := inClass (top 13) 0
theorem sc_BadName___init__ : FnScope ["self", "value"] ["self", "value"] (defScope s_BadName___init__) :=
  ⟨rfl, rfl, rfl, by decide +kernel, rfl, by decide +kernel, by decide +kernel⟩
abbrev s_BadCount___init__ : Stmt := inClass (top 14) 0
theorem sc_BadCount___init__ : FnScope ["self", "value"] ["self", "value"] (defScope s_BadCount___init__) :=
  ⟨rfl, rfl, rfl, by decide +kernel, rfl, by decide +kernel, by decide +kernel⟩
abbrev s_BadWish___init__ : Stmt := inClass (top 15) 0
theorem sc_BadWish___init__ : FnScope ["self", "at"] ["self", "at"] (defScope s_BadWish___init__) :=
  ⟨rfl, rfl, rfl, by decide +kernel, rfl, by decide +kernel, by decide +kernel⟩
abbrev s_BadRow___init__ : Stmt := inClass (top 16) 0
theorem sc_BadRow___init__ : FnScope ["self", "at"] ["self", "at"] (defScope s_BadRow___init__) :=
  ⟨rfl, rfl, rfl, by decide +kernel, rfl, by decide +kernel, by decide +kernel⟩
abbrev s_BadText___init__ : Stmt := inClass (top 17) 0
theorem sc_BadText___init__ : FnScope ["self", "line", "word"] ["self", "line", "word"] (defScope s_BadText___init__) :=
  ⟨rfl, rfl, rfl, by decide +kernel, rfl, by decide +kernel, by decide +kernel⟩
abbrev s_BadLine___init__ : Stmt := inClass (top 18) 0
theorem sc_BadLine___init__ : FnScope ["self", "word"] ["self", "word"] (defScope s_BadLine___init__) :=
  ⟨rfl, rfl, rfl, by decide +kernel, rfl, by decide +kernel, by decide +kernel⟩
abbrev s_Taken___init__ : Stmt := inClass (top 19) 0
theorem sc_Taken___init__ : FnScope ["self", "name"] ["self", "name"] (defScope s_Taken___init__) :=
  ⟨rfl, rfl, rfl, by decide +kernel, rfl, by decide +kernel, by decide +kernel⟩
abbrev s_NoGuest___init__ : Stmt := inClass (top 20) 0
theorem sc_NoGuest___init__ : FnScope ["self", "name"] ["self", "name"] (defScope s_NoGuest___init__) :=
  ⟨rfl, rfl, rfl, by decide +kernel, rfl, by decide +kernel, by decide +kernel⟩
abbrev s_NotLet___init__ : Stmt := inClass (top 21) 0
theorem sc_NotLet___init__ : FnScope ["self", "stay"] ["self", "stay"] (defScope s_NotLet___init__) :=
  ⟨rfl, rfl, rfl, by decide +kernel, rfl, by decide +kernel, by decide +kernel⟩
abbrev s_Outside___init__ : Stmt := inClass (top 22) 0
theorem sc_Outside___init__ : FnScope ["self", "stay"] ["self", "stay"] (defScope s_Outside___init__) :=
  ⟨rfl, rfl, rfl, by decide +kernel, rfl, by decide +kernel, by decide +kernel⟩
abbrev s_Full___init__ : Stmt := inClass (top 23) 0
theorem sc_Full___init__ : FnScope ["self", "night"] ["self", "night"] (defScope s_Full___init__) :=
  ⟨rfl, rfl, rfl, by decide +kernel, rfl, by decide +kernel, by decide +kernel⟩
abbrev s_Loose___init__ : Stmt := inClass (top 24) 0
theorem sc_Loose___init__ : FnScope ["self", "name"] ["self", "name"] (defScope s_Loose___init__) :=
  ⟨rfl, rfl, rfl, by decide +kernel, rfl, by decide +kernel, by decide +kernel⟩
abbrev s_TooMany___init__ : Stmt := inClass (top 25) 0
theorem sc_TooMany___init__ : FnScope ["self", "what", "most"] ["self", "what", "most"] (defScope s_TooMany___init__) :=
  ⟨rfl, rfl, rfl, by decide +kernel, rfl, by decide +kernel, by decide +kernel⟩
abbrev s_Dead___init__ : Stmt := inClass (top 26) 0
theorem sc_Dead___init__ : FnScope ["self", "bar"] ["self", "bar"] (defScope s_Dead___init__) :=
  ⟨rfl, rfl, rfl, by decide +kernel, rfl, by decide +kernel, by decide +kernel⟩
abbrev s__law_pen : Stmt := top 30
theorem sc__law_pen : FnScope ["script"] ["script"] (defScope s__law_pen) :=
  ⟨rfl, rfl, rfl, by decide +kernel, rfl, by decide +kernel, by decide +kernel⟩
abbrev s__law_draw : Stmt := top 31
theorem sc__law_draw : FnScope ["pen", "many", "digit", "spot", "cell", "great", "mixed"] ["pen", "many"] (defScope s__law_draw) :=
  ⟨rfl, rfl, rfl, by decide +kernel, rfl, by decide +kernel, by decide +kernel⟩
abbrev s__law_pick : Stmt := top 32
theorem sc__law_pick : FnScope ["pen", "some"] ["pen", "some"] (defScope s__law_pick) :=
  ⟨rfl, rfl, rfl, by decide +kernel, rfl, by decide +kernel, by decide +kernel⟩
abbrev s__law_value : Stmt := top 33
theorem sc__law_value : FnScope ["pen", "some"] ["pen"] (defScope s__law_value) :=
  ⟨rfl, rfl, rfl, by decide +kernel, rfl, by decide +kernel, by decide +kernel⟩
abbrev s__law_raised : Stmt := top 34
theorem sc__law_raised : FnScope ["error", "sign", "is_so"] ["error"] (defScope s__law_raised) :=
  ⟨rfl, rfl, rfl, by decide +kernel, rfl, by decide +kernel, by decide +kernel⟩
abbrev s__law_signs : Stmt := top 35
theorem sc__law_signs : FnScope ["caught", "found"] ["caught"] (defScope s__law_signs) :=
  ⟨rfl, rfl, rfl, by decide +kernel, rfl, by decide +kernel, by decide +kernel⟩
abbrev s__law_inputs : Stmt := top 36
theorem sc__law_inputs : FnScope ["thing", "made", "found", "error", "sign", "one", "two", "three", "four", "last"] ["thing"] (defScope s__law_inputs) :=
  ⟨rfl, rfl, rfl, by decide +kernel, rfl, by decide +kernel, by decide +kernel⟩
abbrev s__law_others : Stmt := top 37
theorem sc__law_others : FnScope ["thing", "one", "two", "three", "found"] ["thing"] (defScope s__law_others) :=
  ⟨rfl, rfl, rfl, by decide +kernel, rfl, by decide +kernel, by decide +kernel⟩
abbrev s_law : Stmt := top 38
theorem sc_law : FnScope ["script", "pen", "turn", "thing", "more", "group", "rows", "error", "sign", "field", "text", "many", "dead", "placed", "groups"] ["script"] (defScope s_law) :=
  ⟨rfl, rfl, rfl, by decide +kernel, rfl, by decide +kernel, by decide +kernel⟩
structure Tx (K : PySem.W.Frag) (mg : Str → Option Value) where
  c_StayError : Addr
  c_BadInput : Addr
  c_Refused : Addr
  c_NoAnswer : Addr
  c_BadLengths : Addr
  f_BadLengths___init__ : Addr
  d_BadLengths___init__ : FuncData
  c_BadDays : Addr
  f_BadDays___init__ : Addr
  d_BadDays___init__ : FuncData
  c_BadStay : Addr
  f_BadStay___init__ : Addr
  d_BadStay___init__ : FuncData
  c_BadRule : Addr
  f_BadRule___init__ : Addr
  d_BadRule___init__ : FuncData
  c_BadBook : Addr
  f_BadBook___init__ : Addr
  d_BadBook___init__ : FuncData
  c_BadStretch : Addr
  f_BadStretch___init__ : Addr
  d_BadStretch___init__ : FuncData
  c_BadCalendar : Addr
  f_BadCalendar___init__ : Addr
  d_BadCalendar___init__ : FuncData
  c_BadDoor : Addr
  f_BadDoor___init__ : Addr
  d_BadDoor___init__ : FuncData
  c_BadName : Addr
  f_BadName___init__ : Addr
  d_BadName___init__ : FuncData
  c_BadCount : Addr
  f_BadCount___init__ : Addr
  d_BadCount___init__ : FuncData
  c_BadWish : Addr
  f_BadWish___init__ : Addr
  d_BadWish___init__ : FuncData
  c_BadRow : Addr
  f_BadRow___init__ : Addr
  d_BadRow___init__ : FuncData
  c_BadText : Addr
  f_BadText___init__ : Addr
  d_BadText___init__ : FuncData
  c_BadLine : Addr
  f_BadLine___init__ : Addr
  d_BadLine___init__ : FuncData
  c_Taken : Addr
  f_Taken___init__ : Addr
  d_Taken___init__ : FuncData
  c_NoGuest : Addr
  f_NoGuest___init__ : Addr
  d_NoGuest___init__ : FuncData
  c_NotLet : Addr
  f_NotLet___init__ : Addr
  d_NotLet___init__ : FuncData
  c_Outside : Addr
  f_Outside___init__ : Addr
  d_Outside___init__ : FuncData
  c_Full : Addr
  f_Full___init__ : Addr
  d_Full___init__ : FuncData
  c_Loose : Addr
  f_Loose___init__ : Addr
  d_Loose___init__ : FuncData
  c_TooMany : Addr
  f_TooMany___init__ : Addr
  d_TooMany___init__ : FuncData
  c_Dead : Addr
  f_Dead___init__ : Addr
  d_Dead___init__ : FuncData
  c_NoDeed : Addr
  c_NoHouse : Addr
  f__law_pen : Addr
  d__law_pen : FuncData
  f__law_draw : Addr
  d__law_draw : FuncData
  f__law_pick : Addr
  d__law_pick : FuncData
  f__law_value : Addr
  d__law_value : FuncData
  f__law_raised : Addr
  d__law_raised : FuncData
  f__law_signs : Addr
  d__law_signs : FuncData
  f__law_inputs : Addr
  d__law_inputs : FuncData
  f__law_others : Addr
  d__law_others : FuncData
  f_law : Addr
  d_law : FuncData
  g_StayError : mg "StayError" = some (.ref c_StayError)
  x_StayError : OexC K c_StayError
  xf_StayError : XfC K c_StayError
  xc_StayError : ExcC K c_StayError
  in0_StayError : PySem.W.findIn K (.ref c_StayError) "__init__" = some (some (.builtin "ValueError.__init__"))
  g_BadInput : mg "BadInput" = some (.ref c_BadInput)
  x_BadInput : OexC K c_BadInput
  xf_BadInput : XfC K c_BadInput
  xc_BadInput : ExcC K c_BadInput
  in0_BadInput : PySem.W.findIn K (.ref c_BadInput) "__init__" = some (some (.builtin "ValueError.__init__"))
  g_Refused : mg "Refused" = some (.ref c_Refused)
  x_Refused : OexC K c_Refused
  xf_Refused : XfC K c_Refused
  xc_Refused : ExcC K c_Refused
  in0_Refused : PySem.W.findIn K (.ref c_Refused) "__init__" = some (some (.builtin "ValueError.__init__"))
  g_NoAnswer : mg "NoAnswer" = some (.ref c_NoAnswer)
  x_NoAnswer : OexC K c_NoAnswer
  xf_NoAnswer : XfC K c_NoAnswer
  xc_NoAnswer : ExcC K c_NoAnswer
  in0_NoAnswer : PySem.W.findIn K (.ref c_NoAnswer) "__init__" = some (some (.builtin "ValueError.__init__"))
  g_BadLengths : mg "BadLengths" = some (.ref c_BadLengths)
  x_BadLengths : OexC K c_BadLengths
  xf_BadLengths : XfC K c_BadLengths
  xc_BadLengths : ExcC K c_BadLengths
  nx_BadLengths_part : PySem.W.findIn K (.ref c_BadLengths) "part" = some none
  fi_BadLengths___init__ : PySem.W.findIn K (.ref c_BadLengths) "__init__" = some (some (.ref f_BadLengths___init__))
  isf_BadLengths___init__ : PySem.W.isFn K (.ref f_BadLengths___init__) = true
  F_BadLengths___init__ : Fun K "__init__" "BadLengths.__init__" s_BadLengths___init__ f_BadLengths___init__ d_BadLengths___init__
  bd_BadLengths___init__ : Binds K d_BadLengths___init__ ["self", "part"] []
  ti_BadLengths : PySem.W.typeIn K (.ref f_BadLengths___init__) = some (.type "function")
  g_BadDays : mg "BadDays" = some (.ref c_BadDays)
  x_BadDays : OexC K c_BadDays
  xf_BadDays : XfC K c_BadDays
  xc_BadDays : ExcC K c_BadDays
  nx_BadDays_part : PySem.W.findIn K (.ref c_BadDays) "part" = some none
  fi_BadDays___init__ : PySem.W.findIn K (.ref c_BadDays) "__init__" = some (some (.ref f_BadDays___init__))
  isf_BadDays___init__ : PySem.W.isFn K (.ref f_BadDays___init__) = true
  F_BadDays___init__ : Fun K "__init__" "BadDays.__init__" s_BadDays___init__ f_BadDays___init__ d_BadDays___init__
  bd_BadDays___init__ : Binds K d_BadDays___init__ ["self", "part"] []
  ti_BadDays : PySem.W.typeIn K (.ref f_BadDays___init__) = some (.type "function")
  g_BadStay : mg "BadStay" = some (.ref c_BadStay)
  x_BadStay : OexC K c_BadStay
  xf_BadStay : XfC K c_BadStay
  xc_BadStay : ExcC K c_BadStay
  nx_BadStay_part : PySem.W.findIn K (.ref c_BadStay) "part" = some none
  fi_BadStay___init__ : PySem.W.findIn K (.ref c_BadStay) "__init__" = some (some (.ref f_BadStay___init__))
  isf_BadStay___init__ : PySem.W.isFn K (.ref f_BadStay___init__) = true
  F_BadStay___init__ : Fun K "__init__" "BadStay.__init__" s_BadStay___init__ f_BadStay___init__ d_BadStay___init__
  bd_BadStay___init__ : Binds K d_BadStay___init__ ["self", "part"] []
  ti_BadStay : PySem.W.typeIn K (.ref f_BadStay___init__) = some (.type "function")
  g_BadRule : mg "BadRule" = some (.ref c_BadRule)
  x_BadRule : OexC K c_BadRule
  xf_BadRule : XfC K c_BadRule
  xc_BadRule : ExcC K c_BadRule
  nx_BadRule_part : PySem.W.findIn K (.ref c_BadRule) "part" = some none
  fi_BadRule___init__ : PySem.W.findIn K (.ref c_BadRule) "__init__" = some (some (.ref f_BadRule___init__))
  isf_BadRule___init__ : PySem.W.isFn K (.ref f_BadRule___init__) = true
  F_BadRule___init__ : Fun K "__init__" "BadRule.__init__" s_BadRule___init__ f_BadRule___init__ d_BadRule___init__
  bd_BadRule___init__ : Binds K d_BadRule___init__ ["self", "part"] []
  ti_BadRule : PySem.W.typeIn K (.ref f_BadRule___init__) = some (.type "function")
  g_BadBook : mg "BadBook" = some (.ref c_BadBook)
  x_BadBook : OexC K c_BadBook
  xf_BadBook : XfC K c_BadBook
  xc_BadBook : ExcC K c_BadBook
  nx_BadBook_part : PySem.W.findIn K (.ref c_BadBook) "part" = some none
  fi_BadBook___init__ : PySem.W.findIn K (.ref c_BadBook) "__init__" = some (some (.ref f_BadBook___init__))
  isf_BadBook___init__ : PySem.W.isFn K (.ref f_BadBook___init__) = true
  F_BadBook___init__ : Fun K "__init__" "BadBook.__init__" s_BadBook___init__ f_BadBook___init__ d_BadBook___init__
  bd_BadBook___init__ : Binds K d_BadBook___init__ ["self", "part"] []
  ti_BadBook : PySem.W.typeIn K (.ref f_BadBook___init__) = some (.type "function")
  g_BadStretch : mg "BadStretch" = some (.ref c_BadStretch)
  x_BadStretch : OexC K c_BadStretch
  xf_BadStretch : XfC K c_BadStretch
  xc_BadStretch : ExcC K c_BadStretch
  nx_BadStretch_part : PySem.W.findIn K (.ref c_BadStretch) "part" = some none
  fi_BadStretch___init__ : PySem.W.findIn K (.ref c_BadStretch) "__init__" = some (some (.ref f_BadStretch___init__))
  isf_BadStretch___init__ : PySem.W.isFn K (.ref f_BadStretch___init__) = true
  F_BadStretch___init__ : Fun K "__init__" "BadStretch.__init__" s_BadStretch___init__ f_BadStretch___init__ d_BadStretch___init__
  bd_BadStretch___init__ : Binds K d_BadStretch___init__ ["self", "part"] []
  ti_BadStretch : PySem.W.typeIn K (.ref f_BadStretch___init__) = some (.type "function")
  g_BadCalendar : mg "BadCalendar" = some (.ref c_BadCalendar)
  x_BadCalendar : OexC K c_BadCalendar
  xf_BadCalendar : XfC K c_BadCalendar
  xc_BadCalendar : ExcC K c_BadCalendar
  nx_BadCalendar_part : PySem.W.findIn K (.ref c_BadCalendar) "part" = some none
  fi_BadCalendar___init__ : PySem.W.findIn K (.ref c_BadCalendar) "__init__" = some (some (.ref f_BadCalendar___init__))
  isf_BadCalendar___init__ : PySem.W.isFn K (.ref f_BadCalendar___init__) = true
  F_BadCalendar___init__ : Fun K "__init__" "BadCalendar.__init__" s_BadCalendar___init__ f_BadCalendar___init__ d_BadCalendar___init__
  bd_BadCalendar___init__ : Binds K d_BadCalendar___init__ ["self", "part"] []
  ti_BadCalendar : PySem.W.typeIn K (.ref f_BadCalendar___init__) = some (.type "function")
  g_BadDoor : mg "BadDoor" = some (.ref c_BadDoor)
  x_BadDoor : OexC K c_BadDoor
  xf_BadDoor : XfC K c_BadDoor
  xc_BadDoor : ExcC K c_BadDoor
  nx_BadDoor_part : PySem.W.findIn K (.ref c_BadDoor) "part" = some none
  fi_BadDoor___init__ : PySem.W.findIn K (.ref c_BadDoor) "__init__" = some (some (.ref f_BadDoor___init__))
  isf_BadDoor___init__ : PySem.W.isFn K (.ref f_BadDoor___init__) = true
  F_BadDoor___init__ : Fun K "__init__" "BadDoor.__init__" s_BadDoor___init__ f_BadDoor___init__ d_BadDoor___init__
  bd_BadDoor___init__ : Binds K d_BadDoor___init__ ["self", "part"] []
  ti_BadDoor : PySem.W.typeIn K (.ref f_BadDoor___init__) = some (.type "function")
  g_BadName : mg "BadName" = some (.ref c_BadName)
  x_BadName : OexC K c_BadName
  xf_BadName : XfC K c_BadName
  xc_BadName : ExcC K c_BadName
  nx_BadName_value : PySem.W.findIn K (.ref c_BadName) "value" = some none
  fi_BadName___init__ : PySem.W.findIn K (.ref c_BadName) "__init__" = some (some (.ref f_BadName___init__))
  isf_BadName___init__ : PySem.W.isFn K (.ref f_BadName___init__) = true
  F_BadName___init__ : Fun K "__init__" "BadName.__init__" s_BadName___init__ f_BadName___init__ d_BadName___init__
  bd_BadName___init__ : Binds K d_BadName___init__ ["self", "value"] []
  ti_BadName : PySem.W.typeIn K (.ref f_BadName___init__) = some (.type "function")
  g_BadCount : mg "BadCount" = some (.ref c_BadCount)
  x_BadCount : OexC K c_BadCount
  xf_BadCount : XfC K c_BadCount
  xc_BadCount : ExcC K c_BadCount
  nx_BadCount_value : PySem.W.findIn K (.ref c_BadCount) "value" = some none
  fi_BadCount___init__ : PySem.W.findIn K (.ref c_BadCount) "__init__" = some (some (.ref f_BadCount___init__))
  isf_BadCount___init__ : PySem.W.isFn K (.ref f_BadCount___init__) = true
  F_BadCount___init__ : Fun K "__init__" "BadCount.__init__" s_BadCount___init__ f_BadCount___init__ d_BadCount___init__
  bd_BadCount___init__ : Binds K d_BadCount___init__ ["self", "value"] []
  ti_BadCount : PySem.W.typeIn K (.ref f_BadCount___init__) = some (.type "function")
  g_BadWish : mg "BadWish" = some (.ref c_BadWish)
  x_BadWish : OexC K c_BadWish
  xf_BadWish : XfC K c_BadWish
  xc_BadWish : ExcC K c_BadWish
  nx_BadWish_at : PySem.W.findIn K (.ref c_BadWish) "at" = some none
  fi_BadWish___init__ : PySem.W.findIn K (.ref c_BadWish) "__init__" = some (some (.ref f_BadWish___init__))
  isf_BadWish___init__ : PySem.W.isFn K (.ref f_BadWish___init__) = true
  F_BadWish___init__ : Fun K "__init__" "BadWish.__init__" s_BadWish___init__ f_BadWish___init__ d_BadWish___init__
  bd_BadWish___init__ : Binds K d_BadWish___init__ ["self", "at"] []
  ti_BadWish : PySem.W.typeIn K (.ref f_BadWish___init__) = some (.type "function")
  g_BadRow : mg "BadRow" = some (.ref c_BadRow)
  x_BadRow : OexC K c_BadRow
  xf_BadRow : XfC K c_BadRow
  xc_BadRow : ExcC K c_BadRow
  nx_BadRow_at : PySem.W.findIn K (.ref c_BadRow) "at" = some none
  fi_BadRow___init__ : PySem.W.findIn K (.ref c_BadRow) "__init__" = some (some (.ref f_BadRow___init__))
  isf_BadRow___init__ : PySem.W.isFn K (.ref f_BadRow___init__) = true
  F_BadRow___init__ : Fun K "__init__" "BadRow.__init__" s_BadRow___init__ f_BadRow___init__ d_BadRow___init__
  bd_BadRow___init__ : Binds K d_BadRow___init__ ["self", "at"] []
  ti_BadRow : PySem.W.typeIn K (.ref f_BadRow___init__) = some (.type "function")
  g_BadText : mg "BadText" = some (.ref c_BadText)
  x_BadText : OexC K c_BadText
  xf_BadText : XfC K c_BadText
  xc_BadText : ExcC K c_BadText
  nx_BadText_line : PySem.W.findIn K (.ref c_BadText) "line" = some none
  nx_BadText_word : PySem.W.findIn K (.ref c_BadText) "word" = some none
  fi_BadText___init__ : PySem.W.findIn K (.ref c_BadText) "__init__" = some (some (.ref f_BadText___init__))
  isf_BadText___init__ : PySem.W.isFn K (.ref f_BadText___init__) = true
  F_BadText___init__ : Fun K "__init__" "BadText.__init__" s_BadText___init__ f_BadText___init__ d_BadText___init__
  bd_BadText___init__ : Binds K d_BadText___init__ ["self", "line", "word"] []
  ti_BadText : PySem.W.typeIn K (.ref f_BadText___init__) = some (.type "function")
  g_BadLine : mg "BadLine" = some (.ref c_BadLine)
  x_BadLine : OexC K c_BadLine
  xf_BadLine : XfC K c_BadLine
  xc_BadLine : ExcC K c_BadLine
  nx_BadLine_word : PySem.W.findIn K (.ref c_BadLine) "word" = some none
  fi_BadLine___init__ : PySem.W.findIn K (.ref c_BadLine) "__init__" = some (some (.ref f_BadLine___init__))
  isf_BadLine___init__ : PySem.W.isFn K (.ref f_BadLine___init__) = true
  F_BadLine___init__ : Fun K "__init__" "BadLine.__init__" s_BadLine___init__ f_BadLine___init__ d_BadLine___init__
  bd_BadLine___init__ : Binds K d_BadLine___init__ ["self", "word"] []
  ti_BadLine : PySem.W.typeIn K (.ref f_BadLine___init__) = some (.type "function")
  g_Taken : mg "Taken" = some (.ref c_Taken)
  x_Taken : OexC K c_Taken
  xf_Taken : XfC K c_Taken
  xc_Taken : ExcC K c_Taken
  nx_Taken_name : PySem.W.findIn K (.ref c_Taken) "name" = some none
  fi_Taken___init__ : PySem.W.findIn K (.ref c_Taken) "__init__" = some (some (.ref f_Taken___init__))
  isf_Taken___init__ : PySem.W.isFn K (.ref f_Taken___init__) = true
  F_Taken___init__ : Fun K "__init__" "Taken.__init__" s_Taken___init__ f_Taken___init__ d_Taken___init__
  bd_Taken___init__ : Binds K d_Taken___init__ ["self", "name"] []
  ti_Taken : PySem.W.typeIn K (.ref f_Taken___init__) = some (.type "function")
  g_NoGuest : mg "NoGuest" = some (.ref c_NoGuest)
  x_NoGuest : OexC K c_NoGuest
  xf_NoGuest : XfC K c_NoGuest
  xc_NoGuest : ExcC K c_NoGuest
  nx_NoGuest_name : PySem.W.findIn K (.ref c_NoGuest) "name" = some none
  fi_NoGuest___init__ : PySem.W.findIn K (.ref c_NoGuest) "__init__" = some (some (.ref f_NoGuest___init__))
  isf_NoGuest___init__ : PySem.W.isFn K (.ref f_NoGuest___init__) = true
  F_NoGuest___init__ : Fun K "__init__" "NoGuest.__init__" s_NoGuest___init__ f_NoGuest___init__ d_NoGuest___init__
  bd_NoGuest___init__ : Binds K d_NoGuest___init__ ["self", "name"] []
  ti_NoGuest : PySem.W.typeIn K (.ref f_NoGuest___init__) = some (.type "function")
  g_NotLet : mg "NotLet" = some (.ref c_NotLet)
  x_NotLet : OexC K c_NotLet
  xf_NotLet : XfC K c_NotLet
  xc_NotLet : ExcC K c_NotLet
  nx_NotLet_stay : PySem.W.findIn K (.ref c_NotLet) "stay" = some none
  fi_NotLet___init__ : PySem.W.findIn K (.ref c_NotLet) "__init__" = some (some (.ref f_NotLet___init__))
  isf_NotLet___init__ : PySem.W.isFn K (.ref f_NotLet___init__) = true
  F_NotLet___init__ : Fun K "__init__" "NotLet.__init__" s_NotLet___init__ f_NotLet___init__ d_NotLet___init__
  bd_NotLet___init__ : Binds K d_NotLet___init__ ["self", "stay"] []
  ti_NotLet : PySem.W.typeIn K (.ref f_NotLet___init__) = some (.type "function")
  g_Outside : mg "Outside" = some (.ref c_Outside)
  x_Outside : OexC K c_Outside
  xf_Outside : XfC K c_Outside
  xc_Outside : ExcC K c_Outside
  nx_Outside_stay : PySem.W.findIn K (.ref c_Outside) "stay" = some none
  fi_Outside___init__ : PySem.W.findIn K (.ref c_Outside) "__init__" = some (some (.ref f_Outside___init__))
  isf_Outside___init__ : PySem.W.isFn K (.ref f_Outside___init__) = true
  F_Outside___init__ : Fun K "__init__" "Outside.__init__" s_Outside___init__ f_Outside___init__ d_Outside___init__
  bd_Outside___init__ : Binds K d_Outside___init__ ["self", "stay"] []
  ti_Outside : PySem.W.typeIn K (.ref f_Outside___init__) = some (.type "function")
  g_Full : mg "Full" = some (.ref c_Full)
  x_Full : OexC K c_Full
  xf_Full : XfC K c_Full
  xc_Full : ExcC K c_Full
  nx_Full_night : PySem.W.findIn K (.ref c_Full) "night" = some none
  fi_Full___init__ : PySem.W.findIn K (.ref c_Full) "__init__" = some (some (.ref f_Full___init__))
  isf_Full___init__ : PySem.W.isFn K (.ref f_Full___init__) = true
  F_Full___init__ : Fun K "__init__" "Full.__init__" s_Full___init__ f_Full___init__ d_Full___init__
  bd_Full___init__ : Binds K d_Full___init__ ["self", "night"] []
  ti_Full : PySem.W.typeIn K (.ref f_Full___init__) = some (.type "function")
  g_Loose : mg "Loose" = some (.ref c_Loose)
  x_Loose : OexC K c_Loose
  xf_Loose : XfC K c_Loose
  xc_Loose : ExcC K c_Loose
  nx_Loose_name : PySem.W.findIn K (.ref c_Loose) "name" = some none
  fi_Loose___init__ : PySem.W.findIn K (.ref c_Loose) "__init__" = some (some (.ref f_Loose___init__))
  isf_Loose___init__ : PySem.W.isFn K (.ref f_Loose___init__) = true
  F_Loose___init__ : Fun K "__init__" "Loose.__init__" s_Loose___init__ f_Loose___init__ d_Loose___init__
  bd_Loose___init__ : Binds K d_Loose___init__ ["self", "name"] []
  ti_Loose : PySem.W.typeIn K (.ref f_Loose___init__) = some (.type "function")
  g_TooMany : mg "TooMany" = some (.ref c_TooMany)
  x_TooMany : OexC K c_TooMany
  xf_TooMany : XfC K c_TooMany
  xc_TooMany : ExcC K c_TooMany
  nx_TooMany_what : PySem.W.findIn K (.ref c_TooMany) "what" = some none
  nx_TooMany_most : PySem.W.findIn K (.ref c_TooMany) "most" = some none
  fi_TooMany___init__ : PySem.W.findIn K (.ref c_TooMany) "__init__" = some (some (.ref f_TooMany___init__))
  isf_TooMany___init__ : PySem.W.isFn K (.ref f_TooMany___init__) = true
  F_TooMany___init__ : Fun K "__init__" "TooMany.__init__" s_TooMany___init__ f_TooMany___init__ d_TooMany___init__
  bd_TooMany___init__ : Binds K d_TooMany___init__ ["self", "what", "most"] []
  ti_TooMany : PySem.W.typeIn K (.ref f_TooMany___init__) = some (.type "function")
  g_Dead : mg "Dead" = some (.ref c_Dead)
  x_Dead : OexC K c_Dead
  xf_Dead : XfC K c_Dead
  xc_Dead : ExcC K c_Dead
  nx_Dead_bar : PySem.W.findIn K (.ref c_Dead) "bar" = some none
  fi_Dead___init__ : PySem.W.findIn K (.ref c_Dead) "__init__" = some (some (.ref f_Dead___init__))
  isf_Dead___init__ : PySem.W.isFn K (.ref f_Dead___init__) = true
  F_Dead___init__ : Fun K "__init__" "Dead.__init__" s_Dead___init__ f_Dead___init__ d_Dead___init__
  bd_Dead___init__ : Binds K d_Dead___init__ ["self", "bar"] []
  ti_Dead : PySem.W.typeIn K (.ref f_Dead___init__) = some (.type "function")
  g_NoDeed : mg "NoDeed" = some (.ref c_NoDeed)
  x_NoDeed : OexC K c_NoDeed
  xf_NoDeed : XfC K c_NoDeed
  xc_NoDeed : ExcC K c_NoDeed
  in0_NoDeed : PySem.W.findIn K (.ref c_NoDeed) "__init__" = some (some (.builtin "ValueError.__init__"))
  g_NoHouse : mg "NoHouse" = some (.ref c_NoHouse)
  x_NoHouse : OexC K c_NoHouse
  xf_NoHouse : XfC K c_NoHouse
  xc_NoHouse : ExcC K c_NoHouse
  in0_NoHouse : PySem.W.findIn K (.ref c_NoHouse) "__init__" = some (some (.builtin "ValueError.__init__"))
  kit : kitTab K [c_StayError, c_BadInput, c_Refused, c_NoAnswer, c_BadLengths, c_BadDays, c_BadStay, c_BadRule, c_BadBook, c_BadStretch, c_BadCalendar, c_BadDoor, c_BadName, c_BadCount, c_BadWish, c_BadRow, c_BadText, c_BadLine, c_Taken, c_NoGuest, c_NotLet, c_Outside, c_Full, c_Loose, c_TooMany, c_Dead, c_NoDeed, c_NoHouse] = kitR.map (·.map some)
  kitVE : PySem.W.kitOne K (.ref c_StayError) (.type "ValueError") = some true
  g__law_pen : mg "_law_pen" = some (.ref f__law_pen)
  F__law_pen : Fun K "_law_pen" "_law_pen" s__law_pen f__law_pen d__law_pen
  bd__law_pen : Binds K d__law_pen ["script"] []
  g__law_draw : mg "_law_draw" = some (.ref f__law_draw)
  F__law_draw : Fun K "_law_draw" "_law_draw" s__law_draw f__law_draw d__law_draw
  bd__law_draw : Binds K d__law_draw ["pen", "many"] []
  g__law_pick : mg "_law_pick" = some (.ref f__law_pick)
  F__law_pick : Fun K "_law_pick" "_law_pick" s__law_pick f__law_pick d__law_pick
  bd__law_pick : Binds K d__law_pick ["pen", "some"] []
  g__law_value : mg "_law_value" = some (.ref f__law_value)
  F__law_value : Fun K "_law_value" "_law_value" s__law_value f__law_value d__law_value
  bd__law_value : Binds K d__law_value ["pen"] []
  g__law_raised : mg "_law_raised" = some (.ref f__law_raised)
  F__law_raised : Fun K "_law_raised" "_law_raised" s__law_raised f__law_raised d__law_raised
  bd__law_raised : Binds K d__law_raised ["error"] []
  g__law_signs : mg "_law_signs" = some (.ref f__law_signs)
  F__law_signs : Fun K "_law_signs" "_law_signs" s__law_signs f__law_signs d__law_signs
  bd__law_signs : Binds K d__law_signs ["caught"] []
  g__law_inputs : mg "_law_inputs" = some (.ref f__law_inputs)
  F__law_inputs : Fun K "_law_inputs" "_law_inputs" s__law_inputs f__law_inputs d__law_inputs
  bd__law_inputs : Binds K d__law_inputs ["thing"] []
  g__law_others : mg "_law_others" = some (.ref f__law_others)
  F__law_others : Fun K "_law_others" "_law_others" s__law_others f__law_others d__law_others
  bd__law_others : Binds K d__law_others ["thing"] []
  g_law : mg "law" = some (.ref f_law)
  F_law : Fun K "law" "law" s_law f_law d_law
  bd_law : Binds K d_law ["script"] []
  b_isinstance : mg "isinstance" = none
  b_int : mg "int" = none
  b_len : mg "len" = none
  b_list : mg "list" = none
  b_abs : mg "abs" = none
  b_range : mg "range" = none
  b_repr : mg "repr" = none
  b_ValueError : mg "ValueError" = none
end NN

open AW L2
-- what is known at an address
local macro_rules | `(tactic| walk_at "kn") => `(tactic| first
  | assumption
  | exact upd_same
  | ((with_reducible refine' keep2 ?h1 ?h2); (case h1 => first | assumption | (exact Ne.symm (by assumption))); (case h2 => walk_at "kn"))
  | ((with_reducible refine' know ?h1 ?h2); (case h1 => assumption); (case h2 => walk_at "kn"))
  | ((with_reducible refine' Ext.know ?h1 ?h2); (case h1 => assumption); (case h2 => walk_at "kn")))
-- one step
local macro_rules | `(tactic| walk_at "w1") => `(tactic| first
  | ((with_reducible refine' w_var ?hv ?_); (case hv => rfl))
  | with_reducible refine' w_c ?_
  | with_reducible refine' w_op ?_
  | with_reducible refine' r_I0 ?_
  | with_reducible refine' w_nil ?_
  | with_reducible refine' w_cons ?_
  | with_reducible refine' w_cb ?_
  | with_reducible refine' r_int1 ?_
  | with_reducible refine' r_int1b ?_
  | with_reducible refine' r_abs ?_
  | ((with_reducible refine' r_lenL ?h1 ?_); (case h1 => walk_at "kn"))
  | ((with_reducible refine' r_lenT ?h1 ?_); (case h1 => walk_at "kn"))
  | ((with_reducible refine' r_neV ?h1 ?_); (case h1 => rfl))
  | ((with_reducible refine' r_eqV ?h1 ?_); (case h1 => rfl))
  | ((with_reducible refine' r_eq ?h1 ?_); (case h1 => rfl))
  | ((with_reducible refine' r_ne ?h1 ?_); (case h1 => rfl))
  | ((with_reducible refine' r_ixL ?h1 ?h2 ?_); (case h1 => walk_at "kn"); (case h2 => rfl))
  | ((with_reducible refine' r_ixT ?h1 ?h2 ?_); (case h1 => walk_at "kn"); (case h2 => rfl))
  | with_reducible refine' w_test ?_
  | with_reducible refine' w_B ?_
  | with_reducible refine' w_un ?_
  | with_reducible refine' r_U ?_
  | with_reducible refine' w_and ?_
  | with_reducible refine' w_or ?_
  | with_reducible refine' w_not ?_
  | with_reducible refine' w_andV ?_
  | with_reducible refine' w_orV ?_
  | with_reducible refine' w_notV ?_
  | with_reducible refine' w_ifE ?_
  | with_reducible refine' r_isNt ?_
  | with_reducible refine' r_isNr ?_
  | with_reducible refine' w_chain ?_
  | with_reducible refine' w_tupRg ?_
  | with_reducible refine' w_joined ?_
  | with_reducible refine' w_js0 ?_
  | with_reducible refine' w_js ?_
  | with_reducible refine' w_cval ?_
  | with_reducible refine' s_fld ?_
  | with_reducible refine' w_tup ?_
  | with_reducible refine' w_lst ?_
  | with_reducible refine' w_sl ?_
  | with_reducible refine' w_part ?_
  | with_reducible refine' w_noPart ?_
  | with_reducible refine' s_seq ?_
  | with_reducible refine' s_next ?_
  | with_reducible refine' s_ret ?_
  | with_reducible refine' s_retN ?_
  | with_reducible refine' s_drop ?_
  | with_reducible refine' s_brk ?_
  | with_reducible refine' s_cont ?_
  | with_reducible refine' s_set ?_
  | with_reducible refine' s_asg ?_
  | with_reducible refine' s_par ?_
  | ((with_reducible refine' s_aug ?h1 ?_); (case h1 => rfl))
  | with_reducible refine' g_name ?_
  | with_reducible refine' g_cons ?_
  | with_reducible refine' g_nil ?_
  | with_reducible refine' g_set ?_
  | with_reducible refine' both_t ?_
  | with_reducible refine' both_f ?_
  | with_reducible refine' both_nt ?_
  | with_reducible refine' both_nf ?_
  | with_reducible refine' bor_t ?_
  | with_reducible refine' bor_f ?_
  | with_reducible refine' bor_nt ?_
  | with_reducible refine' bor_nf ?_
  | with_reducible refine' ⟨_, rfl, ?_⟩)
local macro_rules | `(tactic| walk_at "w") => `(tactic| repeat (first | walk_at "w1" | dsimp only))
local macro_rules | `(tactic| walk_at "if") => `(tactic| ((with_reducible refine' s_if ?_); walk_at "w"; refine ⟨fun hb => ?_, fun hb => ?_⟩))
local macro_rules | `(tactic| walk_at "wi") => `(tactic| repeat (first | walk_at "w1" | with_reducible refine' s_if ?_ | dsimp only))

namespace NN
open PySem PySem.Spec PyProof.Rows L2 LamX AW ClX
/-! ### the errors are made -/
theorem Fun.kbn {K : PySem.W.Frag} {x qual : Str} {st : Stmt} {f : Addr} {fd : FuncData} {ps : List Str} (F : Fun K x qual st f fd) (n : Nat) (ks : List Str) (g : {α : Type} → List α → List α → List α)
    (hrel : ∀ {vs zs : List V} {us ws : List Value}, Vals vs us → Vals zs ws → Vals (g vs zs) (g us ws))
    (h : ∀ (kV doc pm : Value) (an : Option Addr) (cdv ct : Value) (us ws : List Value), us.length = n → ws.length = ks.length → bindArgs (PySem.W.fnOf x qual (defArgs st) (defBody st) (defScope st) .none kV doc pm an cdv ct) ⟨us, ks.zip ws⟩ = pure (ps.zip (g us ws))) : KBn K fd ps n ks g g := by
  obtain ⟨oc, od, kV, doc, pm, an, cdv, ct, osl, rfl, lk, hcd⟩ := F.ex
  exact ⟨fun s us ws X l1 l2 => BindsTo.of_eq (h kV doc pm an cdv ct us ws l1 l2), hrel⟩
abbrev gRev {α : Type} (us ws : List α) : List α := us ++ ws.reverse
theorem rel_rev {vs zs : List V} {us ws : List Value} (h : Vals vs us) (k : Vals zs ws) : Vals (gRev vs zs) (gRev us ws) := h.append k.reverse
section
variable {P : Program} {w : World} {K : PySem.W.Frag} {mg : Str → Option Value} {base : Heap}
theorem ok_BadLengths___init__ (T : Tx K mg) : FnOk P w K mg base CX0 1 T.f_BadLengths___init__ T.d_BadLengths___init__ ["self", "part"] (spX1 K "part") := by
  refine T.F_BadLengths___init__.ok sc_BadLengths___init__ (fun vs H Q E h => ?_) (fun cdv A outer s H vs Q E hr h => ?_)
  · obtain ⟨a, C, y, rfl, _⟩ := h
    rfl
  · obtain ⟨a, C, y, rfl, oc, hf, ha, h⟩ := h
    exact ⟨_, (pss_one (ps_ost (pv 0) (pv 1))), _, rfl, _, rfl, a, C, rfl, oc, hf, .inl ⟨ha, h⟩⟩
theorem ok_BadDays___init__ (T : Tx K mg) : FnOk P w K mg base CX0 1 T.f_BadDays___init__ T.d_BadDays___init__ ["self", "part"] (spX1 K "part") := by
  refine T.F_BadDays___init__.ok sc_BadDays___init__ (fun vs H Q E h => ?_) (fun cdv A outer s H vs Q E hr h => ?_)
  · obtain ⟨a, C, y, rfl, _⟩ := h
    rfl
  · obtain ⟨a, C, y, rfl, oc, hf, ha, h⟩ := h
    exact ⟨_, (pss_one (ps_ost (pv 0) (pv 1))), _, rfl, _, rfl, a, C, rfl, oc, hf, .inl ⟨ha, h⟩⟩
theorem kb_BadDays (T : Tx K mg) : KBn K T.d_BadDays___init__ ["self", "part"] 1 ["part"] gRev gRev :=
  Fun.kbn T.F_BadDays___init__ 1 ["part"] gRev rel_rev fun _ _ _ _ _ _ us ws l1 l2 => match us, ws, l1, l2 with | [_], [_], _, _ => rfl
theorem ok_BadStay___init__ (T : Tx K mg) : FnOk P w K mg base CX0 1 T.f_BadStay___init__ T.d_BadStay___init__ ["self", "part"] (spX1 K "part") := by
  refine T.F_BadStay___init__.ok sc_BadStay___init__ (fun vs H Q E h => ?_) (fun cdv A outer s H vs Q E hr h => ?_)
  · obtain ⟨a, C, y, rfl, _⟩ := h
    rfl
  · obtain ⟨a, C, y, rfl, oc, hf, ha, h⟩ := h
    exact ⟨_, (pss_one (ps_ost (pv 0) (pv 1))), _, rfl, _, rfl, a, C, rfl, oc, hf, .inl ⟨ha, h⟩⟩
theorem ok_BadRule___init__ (T : Tx K mg) : FnOk P w K mg base CX0 1 T.f_BadRule___init__ T.d_BadRule___init__ ["self", "part"] (spX1 K "part") := by
  refine T.F_BadRule___init__.ok sc_BadRule___init__ (fun vs H Q E h => ?_) (fun cdv A outer s H vs Q E hr h => ?_)
  · obtain ⟨a, C, y, rfl, _⟩ := h
    rfl
  · obtain ⟨a, C, y, rfl, oc, hf, ha, h⟩ := h
    exact ⟨_, (pss_one (ps_ost (pv 0) (pv 1))), _, rfl, _, rfl, a, C, rfl, oc, hf, .inl ⟨ha, h⟩⟩
theorem kb_BadRule (T : Tx K mg) : KBn K T.d_BadRule___init__ ["self", "part"] 1 ["part"] gRev gRev :=
  Fun.kbn T.F_BadRule___init__ 1 ["part"] gRev rel_rev fun _ _ _ _ _ _ us ws l1 l2 => match us, ws, l1, l2 with | [_], [_], _, _ => rfl
theorem ok_BadBook___init__ (T : Tx K mg) : FnOk P w K mg base CX0 1 T.f_BadBook___init__ T.d_BadBook___init__ ["self", "part"] (spX1 K "part") := by
  refine T.F_BadBook___init__.ok sc_BadBook___init__ (fun vs H Q E h => ?_) (fun cdv A outer s H vs Q E hr h => ?_)
  · obtain ⟨a, C, y, rfl, _⟩ := h
    rfl
  · obtain ⟨a, C, y, rfl, oc, hf, ha, h⟩ := h
    exact ⟨_, (pss_one (ps_ost (pv 0) (pv 1))), _, rfl, _, rfl, a, C, rfl, oc, hf, .inl ⟨ha, h⟩⟩
theorem ok_BadStretch___init__ (T : Tx K mg) : FnOk P w K mg base CX0 1 T.f_BadStretch___init__ T.d_BadStretch___init__ ["self", "part"] (spX1 K "part") := by
  refine T.F_BadStretch___init__.ok sc_BadStretch___init__ (fun vs H Q E h => ?_) (fun cdv A outer s H vs Q E hr h => ?_)
  · obtain ⟨a, C, y, rfl, _⟩ := h
    rfl
  · obtain ⟨a, C, y, rfl, oc, hf, ha, h⟩ := h
    exact ⟨_, (pss_one (ps_ost (pv 0) (pv 1))), _, rfl, _, rfl, a, C, rfl, oc, hf, .inl ⟨ha, h⟩⟩
theorem kb_BadStretch (T : Tx K mg) : KBn K T.d_BadStretch___init__ ["self", "part"] 1 ["part"] gRev gRev :=
  Fun.kbn T.F_BadStretch___init__ 1 ["part"] gRev rel_rev fun _ _ _ _ _ _ us ws l1 l2 => match us, ws, l1, l2 with | [_], [_], _, _ => rfl
theorem ok_BadCalendar___init__ (T : Tx K mg) : FnOk P w K mg base CX0 1 T.f_BadCalendar___init__ T.d_BadCalendar___init__ ["self", "part"] (spX1 K "part") := by
  refine T.F_BadCalendar___init__.ok sc_BadCalendar___init__ (fun vs H Q E h => ?_) (fun cdv A outer s H vs Q E hr h => ?_)
  · obtain ⟨a, C, y, rfl, _⟩ := h
    rfl
  · obtain ⟨a, C, y, rfl, oc, hf, ha, h⟩ := h
    exact ⟨_, (pss_one (ps_ost (pv 0) (pv 1))), _, rfl, _, rfl, a, C, rfl, oc, hf, .inl ⟨ha, h⟩⟩
theorem ok_BadDoor___init__ (T : Tx K mg) : FnOk P w K mg base CX0 1 T.f_BadDoor___init__ T.d_BadDoor___init__ ["self", "part"] (spX1 K "part") := by
  refine T.F_BadDoor___init__.ok sc_BadDoor___init__ (fun vs H Q E h => ?_) (fun cdv A outer s H vs Q E hr h => ?_)
  · obtain ⟨a, C, y, rfl, _⟩ := h
    rfl
  · obtain ⟨a, C, y, rfl, oc, hf, ha, h⟩ := h
    exact ⟨_, (pss_one (ps_ost (pv 0) (pv 1))), _, rfl, _, rfl, a, C, rfl, oc, hf, .inl ⟨ha, h⟩⟩
theorem kb_BadDoor (T : Tx K mg) : KBn K T.d_BadDoor___init__ ["self", "part"] 1 ["part"] gRev gRev :=
  Fun.kbn T.F_BadDoor___init__ 1 ["part"] gRev rel_rev fun _ _ _ _ _ _ us ws l1 l2 => match us, ws, l1, l2 with | [_], [_], _, _ => rfl
theorem ok_BadName___init__ (T : Tx K mg) : FnOk P w K mg base CX0 1 T.f_BadName___init__ T.d_BadName___init__ ["self", "value"] (spX1 K "value") := by
  refine T.F_BadName___init__.ok sc_BadName___init__ (fun vs H Q E h => ?_) (fun cdv A outer s H vs Q E hr h => ?_)
  · obtain ⟨a, C, y, rfl, _⟩ := h
    rfl
  · obtain ⟨a, C, y, rfl, oc, hf, ha, h⟩ := h
    exact ⟨_, (pss_one (ps_ost (pv 0) (pv 1))), _, rfl, _, rfl, a, C, rfl, oc, hf, .inl ⟨ha, h⟩⟩
theorem ok_BadCount___init__ (T : Tx K mg) : FnOk P w K mg base CX0 1 T.f_BadCount___init__ T.d_BadCount___init__ ["self", "value"] (spX1 K "value") := by
  refine T.F_BadCount___init__.ok sc_BadCount___init__ (fun vs H Q E h => ?_) (fun cdv A outer s H vs Q E hr h => ?_)
  · obtain ⟨a, C, y, rfl, _⟩ := h
    rfl
  · obtain ⟨a, C, y, rfl, oc, hf, ha, h⟩ := h
    exact ⟨_, (pss_one (ps_ost (pv 0) (pv 1))), _, rfl, _, rfl, a, C, rfl, oc, hf, .inl ⟨ha, h⟩⟩
theorem kb_BadCount (T : Tx K mg) : KBn K T.d_BadCount___init__ ["self", "value"] 1 ["value"] gRev gRev :=
  Fun.kbn T.F_BadCount___init__ 1 ["value"] gRev rel_rev fun _ _ _ _ _ _ us ws l1 l2 => match us, ws, l1, l2 with | [_], [_], _, _ => rfl
theorem ok_BadWish___init__ (T : Tx K mg) : FnOk P w K mg base CX0 1 T.f_BadWish___init__ T.d_BadWish___init__ ["self", "at"] (spX1 K "at") := by
  refine T.F_BadWish___init__.ok sc_BadWish___init__ (fun vs H Q E h => ?_) (fun cdv A outer s H vs Q E hr h => ?_)
  · obtain ⟨a, C, y, rfl, _⟩ := h
    rfl
  · obtain ⟨a, C, y, rfl, oc, hf, ha, h⟩ := h
    exact ⟨_, (pss_one (ps_ost (pv 0) (pv 1))), _, rfl, _, rfl, a, C, rfl, oc, hf, .inl ⟨ha, h⟩⟩
theorem kb_BadWish (T : Tx K mg) : KBn K T.d_BadWish___init__ ["self", "at"] 1 ["at"] gRev gRev :=
  Fun.kbn T.F_BadWish___init__ 1 ["at"] gRev rel_rev fun _ _ _ _ _ _ us ws l1 l2 => match us, ws, l1, l2 with | [_], [_], _, _ => rfl
theorem ok_BadRow___init__ (T : Tx K mg) : FnOk P w K mg base CX0 1 T.f_BadRow___init__ T.d_BadRow___init__ ["self", "at"] (spX1 K "at") := by
  refine T.F_BadRow___init__.ok sc_BadRow___init__ (fun vs H Q E h => ?_) (fun cdv A outer s H vs Q E hr h => ?_)
  · obtain ⟨a, C, y, rfl, _⟩ := h
    rfl
  · obtain ⟨a, C, y, rfl, oc, hf, ha, h⟩ := h
    exact ⟨_, (pss_one (ps_ost (pv 0) (pv 1))), _, rfl, _, rfl, a, C, rfl, oc, hf, .inl ⟨ha, h⟩⟩
theorem ok_BadText___init__ (T : Tx K mg) : FnOk P w K mg base CX0 1 T.f_BadText___init__ T.d_BadText___init__ ["self", "line", "word"] (spX2 K "line" "word") := by
  refine T.F_BadText___init__.ok sc_BadText___init__ (fun vs H Q E h => ?_) (fun cdv A outer s H vs Q E hr h => ?_)
  · obtain ⟨a, C, y, z, rfl, _⟩ := h
    rfl
  · obtain ⟨a, C, y, z, rfl, oc, hf, hg, ha, h⟩ := h
    refine ⟨_, (pss_cons (ps_ost (pv 0) (pv 1))
       (pss_one (ps_ost (pv 0) (pv 2)))), ?_⟩
    refine ⟨_, rfl, _, rfl, a, C, rfl, oc, hf, .inl ⟨ha, fun dx hd hda => ?_⟩⟩
    refine ⟨_, rfl, _, rfl, a, C, rfl, oc, hg, .inr ⟨dx, [("line", y)], upd_same, ?_, (show 1 ≤ 900 by decide), h dx hd hda⟩⟩
    rw [upd_ne hda, upd_same]
theorem kb_BadText (T : Tx K mg) : KBn K T.d_BadText___init__ ["self", "line", "word"] 1 ["word", "line"] gRev gRev :=
  Fun.kbn T.F_BadText___init__ 1 ["word", "line"] gRev rel_rev fun _ _ _ _ _ _ us ws l1 l2 => match us, ws, l1, l2 with | [_], [_, _], _, _ => rfl
theorem ok_BadLine___init__ (T : Tx K mg) : FnOk P w K mg base CX0 1 T.f_BadLine___init__ T.d_BadLine___init__ ["self", "word"] (spX1 K "word") := by
  refine T.F_BadLine___init__.ok sc_BadLine___init__ (fun vs H Q E h => ?_) (fun cdv A outer s H vs Q E hr h => ?_)
  · obtain ⟨a, C, y, rfl, _⟩ := h
    rfl
  · obtain ⟨a, C, y, rfl, oc, hf, ha, h⟩ := h
    exact ⟨_, (pss_one (ps_ost (pv 0) (pv 1))), _, rfl, _, rfl, a, C, rfl, oc, hf, .inl ⟨ha, h⟩⟩
theorem ok_Taken___init__ (T : Tx K mg) : FnOk P w K mg base CX0 1 T.f_Taken___init__ T.d_Taken___init__ ["self", "name"] (spX1 K "name") := by
  refine T.F_Taken___init__.ok sc_Taken___init__ (fun vs H Q E h => ?_) (fun cdv A outer s H vs Q E hr h => ?_)
  · obtain ⟨a, C, y, rfl, _⟩ := h
    rfl
  · obtain ⟨a, C, y, rfl, oc, hf, ha, h⟩ := h
    exact ⟨_, (pss_one (ps_ost (pv 0) (pv 1))), _, rfl, _, rfl, a, C, rfl, oc, hf, .inl ⟨ha, h⟩⟩
theorem ok_NoGuest___init__ (T : Tx K mg) : FnOk P w K mg base CX0 1 T.f_NoGuest___init__ T.d_NoGuest___init__ ["self", "name"] (spX1 K "name") := by
  refine T.F_NoGuest___init__.ok sc_NoGuest___init__ (fun vs H Q E h => ?_) (fun cdv A outer s H vs Q E hr h => ?_)
  · obtain ⟨a, C, y, rfl, _⟩ := h
    rfl
  · obtain ⟨a, C, y, rfl, oc, hf, ha, h⟩ := h
    exact ⟨_, (pss_one (ps_ost (pv 0) (pv 1))), _, rfl, _, rfl, a, C, rfl, oc, hf, .inl ⟨ha, h⟩⟩
theorem kb_NoGuest (T : Tx K mg) : KBn K T.d_NoGuest___init__ ["self", "name"] 1 ["name"] gRev gRev :=
  Fun.kbn T.F_NoGuest___init__ 1 ["name"] gRev rel_rev fun _ _ _ _ _ _ us ws l1 l2 => match us, ws, l1, l2 with | [_], [_], _, _ => rfl
theorem ok_NotLet___init__ (T : Tx K mg) : FnOk P w K mg base CX0 1 T.f_NotLet___init__ T.d_NotLet___init__ ["self", "stay"] (spX1 K "stay") := by
  refine T.F_NotLet___init__.ok sc_NotLet___init__ (fun vs H Q E h => ?_) (fun cdv A outer s H vs Q E hr h => ?_)
  · obtain ⟨a, C, y, rfl, _⟩ := h
    rfl
  · obtain ⟨a, C, y, rfl, oc, hf, ha, h⟩ := h
    exact ⟨_, (pss_one (ps_ost (pv 0) (pv 1))), _, rfl, _, rfl, a, C, rfl, oc, hf, .inl ⟨ha, h⟩⟩
theorem ok_Outside___init__ (T : Tx K mg) : FnOk P w K mg base CX0 1 T.f_Outside___init__ T.d_Outside___init__ ["self", "stay"] (spX1 K "stay") := by
  refine T.F_Outside___init__.ok sc_Outside___init__ (fun vs H Q E h => ?_) (fun cdv A outer s H vs Q E hr h => ?_)
  · obtain ⟨a, C, y, rfl, _⟩ := h
    rfl
  · obtain ⟨a, C, y, rfl, oc, hf, ha, h⟩ := h
    exact ⟨_, (pss_one (ps_ost (pv 0) (pv 1))), _, rfl, _, rfl, a, C, rfl, oc, hf, .inl ⟨ha, h⟩⟩
theorem kb_Outside (T : Tx K mg) : KBn K T.d_Outside___init__ ["self", "stay"] 1 ["stay"] gRev gRev :=
  Fun.kbn T.F_Outside___init__ 1 ["stay"] gRev rel_rev fun _ _ _ _ _ _ us ws l1 l2 => match us, ws, l1, l2 with | [_], [_], _, _ => rfl
theorem ok_Full___init__ (T : Tx K mg) : FnOk P w K mg base CX0 1 T.f_Full___init__ T.d_Full___init__ ["self", "night"] (spX1 K "night") := by
  refine T.F_Full___init__.ok sc_Full___init__ (fun vs H Q E h => ?_) (fun cdv A outer s H vs Q E hr h => ?_)
  · obtain ⟨a, C, y, rfl, _⟩ := h
    rfl
  · obtain ⟨a, C, y, rfl, oc, hf, ha, h⟩ := h
    exact ⟨_, (pss_one (ps_ost (pv 0) (pv 1))), _, rfl, _, rfl, a, C, rfl, oc, hf, .inl ⟨ha, h⟩⟩
theorem ok_Loose___init__ (T : Tx K mg) : FnOk P w K mg base CX0 1 T.f_Loose___init__ T.d_Loose___init__ ["self", "name"] (spX1 K "name") := by
  refine T.F_Loose___init__.ok sc_Loose___init__ (fun vs H Q E h => ?_) (fun cdv A outer s H vs Q E hr h => ?_)
  · obtain ⟨a, C, y, rfl, _⟩ := h
    rfl
  · obtain ⟨a, C, y, rfl, oc, hf, ha, h⟩ := h
    exact ⟨_, (pss_one (ps_ost (pv 0) (pv 1))), _, rfl, _, rfl, a, C, rfl, oc, hf, .inl ⟨ha, h⟩⟩
theorem kb_Loose (T : Tx K mg) : KBn K T.d_Loose___init__ ["self", "name"] 1 ["name"] gRev gRev :=
  Fun.kbn T.F_Loose___init__ 1 ["name"] gRev rel_rev fun _ _ _ _ _ _ us ws l1 l2 => match us, ws, l1, l2 with | [_], [_], _, _ => rfl
theorem ok_TooMany___init__ (T : Tx K mg) : FnOk P w K mg base CX0 1 T.f_TooMany___init__ T.d_TooMany___init__ ["self", "what", "most"] (spX2 K "what" "most") := by
  refine T.F_TooMany___init__.ok sc_TooMany___init__ (fun vs H Q E h => ?_) (fun cdv A outer s H vs Q E hr h => ?_)
  · obtain ⟨a, C, y, z, rfl, _⟩ := h
    rfl
  · obtain ⟨a, C, y, z, rfl, oc, hf, hg, ha, h⟩ := h
    refine ⟨_, (pss_cons (ps_ost (pv 0) (pv 1))
       (pss_one (ps_ost (pv 0) (pv 2)))), ?_⟩
    refine ⟨_, rfl, _, rfl, a, C, rfl, oc, hf, .inl ⟨ha, fun dx hd hda => ?_⟩⟩
    refine ⟨_, rfl, _, rfl, a, C, rfl, oc, hg, .inr ⟨dx, [("what", y)], upd_same, ?_, (show 1 ≤ 900 by decide), h dx hd hda⟩⟩
    rw [upd_ne hda, upd_same]
theorem kb_TooMany (T : Tx K mg) : KBn K T.d_TooMany___init__ ["self", "what", "most"] 1 ["most", "what"] gRev gRev :=
  Fun.kbn T.F_TooMany___init__ 1 ["most", "what"] gRev rel_rev fun _ _ _ _ _ _ us ws l1 l2 => match us, ws, l1, l2 with | [_], [_, _], _, _ => rfl
theorem ok_Dead___init__ (T : Tx K mg) : FnOk P w K mg base CX0 1 T.f_Dead___init__ T.d_Dead___init__ ["self", "bar"] (spX1 K "bar") := by
  refine T.F_Dead___init__.ok sc_Dead___init__ (fun vs H Q E h => ?_) (fun cdv A outer s H vs Q E hr h => ?_)
  · obtain ⟨a, C, y, rfl, _⟩ := h
    rfl
  · obtain ⟨a, C, y, rfl, oc, hf, ha, h⟩ := h
    exact ⟨_, (pss_one (ps_ost (pv 0) (pv 1))), _, rfl, _, rfl, a, C, rfl, oc, hf, .inl ⟨ha, h⟩⟩
theorem kb_Dead (T : Tx K mg) : KBn K T.d_Dead___init__ ["self", "bar"] 1 ["bar"] gRev gRev :=
  Fun.kbn T.F_Dead___init__ 1 ["bar"] gRev rel_rev fun _ _ _ _ _ _ us ws l1 l2 => match us, ws, l1, l2 with | [_], [_], _, _ => rfl
end

end NN

namespace NN
open PySem PySem.Spec PyProof.Rows L2 LamX AW ClX
section
variable {P : Program} {w : World} {K : PySem.W.Frag} {mg : Str → Option Value} {base : Heap}
theorem ok__law_draw (T : Tx K mg) : FnOk P w K mg base CX0 1 T.f__law_draw T.d__law_draw ["pen", "many"] spDraw := by
  refine T.F__law_draw.ok sc__law_draw (fun vs H Q E h => ?_) (fun cdv A outer s H vs Q E hr h => ?_)
  · obtain ⟨p, a, ns, n, many, rfl, _⟩ := h
    rfl
  · obtain ⟨p, a, ns, n, many, rfl, hp, hn, h0, h1, k⟩ := h
    obtain ⟨⟨i, g, hP, hi0, hin, hg0⟩, hA, hpa⟩ := hp
    refine ⟨_, (pss_cons (ps_if (pt_cmpR op_gt (pe_ix ix_list (pv 0) pe_int (fun _ _ => rfl)) pe_int (nomark _))
       (pss_cons (ps_set (i := 2) sc__law_draw.nd rfl (by first | exact Or.inl rfl | exact Or.inr rfl) (pe_op op_mod (pe_callTy c_int (by rfl) T.b_int boot_int (pa_cons (pe_ix ix_list (pv 0) pe_int (fun _ _ => rfl)) pa_nil)) (pv 1)))
       (pss_cons (ps_asg (pe_op op_fdivW (pe_callTy c_int (by rfl) T.b_int boot_int (pa_cons (pe_ix ix_list (pv 0) pe_int (fun _ _ => rfl)) pa_nil)) (pv 1)) (pg_sub (pv 0) pe_int set_list))
       (pss_one (ps_ret (pv 2)))))
       pss_nil)
       (pss_cons (ps_set (i := 3) sc__law_draw.nd rfl (by first | exact Or.inl rfl | exact Or.inr rfl) (pe_ix ix_list (pv 0) pe_int (fun _ _ => rfl)))
       (pss_cons (ps_asg (pe_op op_add (pv 3) pe_int) (pg_sub (pv 0) pe_int set_list))
       (pss_cons (ps_set (i := 4) sc__law_draw.nd rfl (by first | exact Or.inl rfl | exact Or.inr rfl) (pe_op op_add (pe_op op_mul pe_int (pv 3)) pe_int))
       (pss_cons (ps_if (pt_cmpR (op_neD hr.units) (pe_ix ix_list (pv 0) pe_int (fun _ _ => rfl)) (pe_lst pa_nil) (nomark _))
       (pss_one (ps_set (i := 4) sc__law_draw.nd rfl (by first | exact Or.inl rfl | exact Or.inr rfl) (pe_ix ix_list (pe_ix ix_list (pv 0) pe_int (fun _ _ => rfl)) (pe_op op_mod (pe_callTy c_int (by rfl) T.b_int boot_int (pa_cons (pv 3) pa_nil)) (pe_callB c_len (by rfl) T.b_len PySem.boot_len (pa_cons (pe_ix ix_list (pv 0) pe_int (fun _ _ => rfl)) pa_nil))) (fun _ _ => rfl))))
       pss_nil)
       (pss_cons (ps_if (PW.pt (pw_and (pt_cmpR op_lt (pv 3) (pe_callB c_len (by rfl) T.b_len PySem.boot_len (pa_cons (pe_ix ix_list (pv 0) pe_int (fun _ _ => rfl)) pa_nil)) (nomark _)) (pw_and1 (pt_cmpR op_ge (pe_callB c_abs (by rfl) T.b_abs (by decide +kernel) (pa_cons (pv 4) pa_nil)) (pe_op op_pow pe_int pe_int) (nomark _)))))
       (pss_cons (ps_set (i := 5) sc__law_draw.nd rfl (by first | exact Or.inl rfl | exact Or.inr rfl) (pe_op op_add (pe_op op_mul pe_int (pe_op op_sub (pe_callB c_abs (by rfl) T.b_abs (by decide +kernel) (pa_cons (pv 4) pa_nil)) (pe_op op_pow pe_int pe_int))) (pe_callTy c_int (by rfl) T.b_int boot_int (pa_cons (pe_cmpR op_lt (pv 4) pe_int (nomark _)) pa_nil))))
       (pss_cons (ps_asg (pe_op op_fdivW (pe_callTy c_int (by rfl) T.b_int boot_int (pa_cons (pv 5) pa_nil)) (pv 1)) (pg_sub (pv 0) pe_int set_list))
       (pss_one (ps_ret (pe_op op_mod (pe_callTy c_int (by rfl) T.b_int boot_int (pa_cons (pv 5) pa_nil)) (pv 1))))))
       pss_nil)
       (pss_cons (ps_set (i := 6) sc__law_draw.nd rfl (by first | exact Or.inl rfl | exact Or.inr rfl) (pe_op op_mod (pe_callTy c_int (by rfl) T.b_int boot_int (pa_cons (pe_op op_pow (pe_op op_add (pe_op op_add (pe_op op_mod (pe_callTy c_int (by rfl) T.b_int boot_int (pa_cons (pv 4) pa_nil)) pe_int) (pe_op op_mul pe_int (pv 3))) pe_int) pe_int) pa_nil)) pe_int))
       (pss_cons (ps_set (i := 6) sc__law_draw.nd rfl (by first | exact Or.inl rfl | exact Or.inr rfl) (pe_op op_mod (pe_callTy c_int (by rfl) T.b_int boot_int (pa_cons (pe_op op_pow (pe_op op_add (pe_op op_add (pe_op op_mul (pv 6) (pe_op op_add (pe_op op_mul pe_int (pv 3)) pe_int)) (pe_op op_mul (pe_op op_mul pe_int (pv 3)) (pv 3))) pe_int) pe_int) pa_nil)) pe_int))
       (pss_one (ps_ret (pe_op op_mod (pe_callTy c_int (by rfl) T.b_int boot_int (pa_cons (pe_op op_fdivW (pv 6) pe_int) pa_nil)) (pv 1)))))))))))), ?_⟩
    have e : Ext (penKn H p a) H := fun x o h => by
      unfold penKn at h
      split at h
      · exact h
      · cases h
    have kP : penKn H p a p = some (.lst [.ref a, .int i, .int g]) := (if_pos (.inl rfl)).trans hP
    have kA : penKn H p a a = some (.lst (ns.map V.int)) := (if_pos (.inr rfl)).trans hA
    have done : ∀ (k' : Int) (kn' : Hp) (n' : Nat) (i' g' : Int), 0 ≤ k' → k' < many → kn' p = some (.lst [.ref a, .int i', .int g']) → kn' a = some (.lst (ns.map V.int)) → 0 ≤ i' → i' ≤ (n + 1 : Nat) → 0 ≤ g' → ∀ H', Good (pureC (penKn H p a) H) kn' n' H' → Q (.int k') H' := fun k' kn' n' i' g' b1 b2 e1 e2 b3 b4 b5 H' G => by
      refine k k' H' b1 b2 ⟨⟨i', g', G.ex _ _ e1, b3, b4, b5⟩, G.ex _ _ e2, hpa⟩ fun x o hx hH => ?_
      by_cases hxa : x = a
      · rw [hxa, hA] at hH
        cases hH
        rw [hxa]
        exact G.ex _ _ e2
      · exact G.inv x o hH (.inl (if_neg (by simp [hx, hxa])))
    have hlog : many.natAbs.log2 < 9000 := Nat.lt_trans ((Nat.log2_lt (by omega)).mpr (show many.natAbs < 2 ^ 70 by omega)) (by decide)
    refine body_of (pure_start e (fun x o h => by
      unfold penKn at h
      split at h
      · rename_i hh
        rcases hh with rfl | rfl
        · rw [hP] at h; cases h; rfl
        · rw [hA] at h; cases h; rfl
      · cases h)) ?_
    walk_at "w"
    refine s_if ?_
    walk_at "w"
    refine ⟨fun hg => ?_, fun hg => ?_⟩
    · have hg' : 0 < g := of_decide_eq_true hg
      walk_at "w"
      refine r_I h0 ?_
      walk_at "w"
      refine r_I ⟨h0, hlog⟩ ?_
      walk_at "w"
      refine ⟨_, _, _, 2, rfl, rfl, kP, rfl, ?_⟩
      walk_at "w"
      have kA' : ∀ o, upd (penKn H p a) p o a = some (.lst (ns.map V.int)) := fun o => by rw [upd_ne hpa.symm]; exact kA
      exact done _ _ _ i (g / many) (Int.emod_nonneg _ (by omega)) (Int.emod_lt_of_pos _ h0) upd_same (kA' _) hi0 (by omega) (Int.ediv_nonneg hg0 (by omega))
    · walk_at "w"
      refine ⟨_, _, _, 1, rfl, rfl, kP, rfl, ?_⟩
      have kA1 : ∀ o, upd (penKn H p a) p o a = some (.lst (ns.map V.int)) := fun o => by rw [upd_ne hpa.symm]; exact kA
      have kP1 : ∀ o, upd (penKn H p a) p o p = some o := fun o => upd_same
      walk_at "w"
      refine r_I (.inl ⟨by decide, by decide⟩) ?_
      walk_at "w"
      -- if pen[0] != []
      refine s_join (fun σ' kn' n' => ∃ cell : Int, σ' = [some (.ref p), some (.int many), none, some (.int i), some (.int cell), none, none] ∧ kn' p = some (.lst [.ref a, .int (i + 1), .int g]) ∧ kn' a = some (.lst (ns.map V.int))) ?_ ?_
      · have kP1 := kP1 (.lst [.ref a, .int (i + 1), .int g])
        have kA1 := kA1 (.lst [.ref a, .int (i + 1), .int g])
        refine s_if ?_
        walk_at "w"
        refine ⟨by decide, fun l hl => ?_⟩
        refine r_ne_d (.lst (sql (know hl kA1)) (dp_ints ns)) (.lst (sql upd_same) .nil) (shaped_ints ns) rfl ?_
        walk_at "w"
        rw [nil_eqv]
        refine ⟨fun hb => ?_, fun hb => ?_⟩
        · have hne : ns ≠ [] := by
            intro z
            rw [z] at hb
            cases hb
          have hl0 : 0 < ns.length := by
            cases ns with
            | nil => exact absurd rfl hne
            | cons => exact Nat.succ_pos _
          have kA3 := know (o := .lst []) hl kA1
          have kP3 := know (o := .lst []) hl kP1
          walk_at "w"
          refine r_I (by rw [List.length_map]; omega) ?_
          obtain ⟨z, hz⟩ := at_mod ns i hl0
          refine r_ixL kA3 hz ?_
          walk_at "w"
          exact ⟨kP3, kA3⟩
        · walk_at "w"
          exact ⟨know hl kP1, know hl kA1⟩
      · rintro σ' kn' n' ⟨cell, rfl, kP2, kA2⟩
        have mod1 : ∀ x : Int, 0 ≤ x % many ∧ x % many < many := fun x => ⟨Int.emod_nonneg _ (by omega), Int.emod_lt_of_pos _ h0⟩
        walk_at "w"
        refine s_join (fun σ2 kn2 n2 => σ2 = [some (.ref p), some (.int many), none, some (.int i), some (.int cell), none, none] ∧ kn2 p = some (.lst [.ref a, .int (i + 1), .int g]) ∧ kn2 a = some (.lst (ns.map V.int))) ?_ ?_
        · refine s_if ?_
          walk_at "w"
          refine ⟨fun hb => ?_, fun hb => ?_⟩
          · walk_at "w"
            refine r_I ⟨by decide, by decide, by decide⟩ ?_
            walk_at "w"
            refine ⟨fun hb2 => ?_, fun hb2 => ?_⟩
            · have hc : (10 : Int) ^ (18 : Int).toNat ≤ if cell < 0 then -cell else cell := of_decide_eq_true hb2
              walk_at "w"
              refine r_I ⟨by decide, by decide, by decide⟩ ?_
              walk_at "w"
              refine r_I (.inl ⟨by decide, by decide⟩) ?_
              walk_at "w"
              refine r_I ⟨h0, hlog⟩ ?_
              walk_at "w"
              refine ⟨_, _, _, 2, rfl, rfl, kP2, rfl, ?_⟩
              walk_at "w"
              refine r_I h0 ?_
              refine done _ _ _ (i + 1) _ (mod1 _).1 (mod1 _).2 upd_same (by rw [upd_ne hpa.symm]; exact kA2) (by omega) (by omega) (Int.ediv_nonneg ?_ (by omega))
              split <;> omega
            · walk_at "w"
              exact ⟨rfl, kP2, kA2⟩
          · walk_at "w"
            exact ⟨rfl, kP2, kA2⟩
        · rintro σ2 kn2 n2 ⟨rfl, kP3, kA3⟩
          walk_at "w"
          refine r_I (by decide) ?_
          obtain ⟨x, hx⟩ : ∃ x : Int, x = cell % 2147483563 := ⟨_, rfl⟩
          have x0 : 0 ≤ x := hx ▸ Int.emod_nonneg _ (by decide)
          have x1 : x < 2147483563 := hx ▸ Int.emod_lt_of_pos _ (by decide)
          rw [← hx]
          walk_at "w"
          refine r_I (.inl ⟨by decide, by decide⟩) ?_
          walk_at "w"
          refine r_I ⟨by decide, by decide, by omega⟩ ?_
          walk_at "w"
          refine r_I (by decide) ?_
          generalize ((x + 46351 * i + 419) ^ (5 : Int).toNat) = y
          obtain ⟨z, hz⟩ : ∃ z : Int, z = y % 2147483629 := ⟨_, rfl⟩
          have z0 : 0 ≤ z := hz ▸ Int.emod_nonneg _ (by decide)
          have z1 : z < 2147483629 := hz ▸ Int.emod_lt_of_pos _ (by decide)
          rw [← hz]
          walk_at "w"
          refine r_I (.inl ⟨by decide, by decide⟩) ?_
          walk_at "w"
          refine r_I (.inl ⟨by omega, by omega⟩) ?_
          walk_at "w"
          refine r_I (.inl ⟨by decide, by decide⟩) ?_
          walk_at "w"
          refine r_I (.inl ⟨by omega, by omega⟩) ?_
          walk_at "w"
          obtain ⟨m1, m2⟩ := mul_bd z0 (show z ≤ 2147483629 by omega) (show 0 ≤ 2 * i + 157 by omega) (show 2 * i + 157 ≤ 2000157 by omega)
          obtain ⟨m3, m4⟩ := mul_bd (show 0 ≤ 52631 * i by omega) (show 52631 * i ≤ 52631000000 by omega) hi0 (show i ≤ 1000000 by omega)
          refine r_I ⟨by decide, by decide, by omega⟩ ?_
          walk_at "w"
          refine r_I (by decide) ?_
          walk_at "w"
          refine r_I ⟨by decide, by decide⟩ ?_
          walk_at "w"
          refine r_I h0 ?_
          exact done _ _ _ (i + 1) g (mod1 _).1 (mod1 _).2 kP3 kA3 (by omega) (by omega) hg0

/-- _law_pick -/
def bPick : List V → Hp → AK → AXK → Prop := fun vs kn Q _ => ∃ l xs, vs = [.ref l] ∧ kn l = some (.lst xs) ∧ 0 < xs.length ∧ xs.length ≤ 1000 ∧ ∀ v ∈ xs, Q v kn
theorem mo_pick : MonoX bPick := by
  rintro vs kn Q R E F h1 h2 ⟨l, xs, a, b, c, d, h⟩
  exact ⟨l, xs, a, b, c, d, fun v hv => h1 _ _ (h v hv)⟩
theorem ok__law_pick (T : Tx K mg) (TT : List (Addr × Str)) : FnOk P w K mg base CX0 2 T.f__law_pick T.d__law_pick ["pen", "some"] (liftP TT 1 bPick) := by
  refine T.F__law_pick.ok sc__law_pick (fun vs H Q E h => ?_) (fun cdv A outer s H vs Q E hr h => ?_)
  · obtain ⟨p, a, ns, n, kn, ws, rfl, _, _, l, xs, rfl, _⟩ := h
    rfl
  · obtain ⟨p, a, ns, n, kn, ws, rfl, g, hn, l, xs, rfl, hl, l1, l2, h⟩ := h
    refine ⟨_, (pss_one (ps_ret (pe_ix ix_list (pv 1) (pe_call (ok__law_draw T) (hr.mono (by decide)) (by rfl) T.g__law_draw T.F__law_draw.kp T.bd__law_draw .nil pass0 (pa_cons (pv 0) (pa_cons (pe_callB c_len (by rfl) T.b_len PySem.boot_len (pa_cons (pv 1) pa_nil)) pa_nil))) (fun _ _ => rfl)))), ?_⟩
    refine body_of g ?_
    walk_at "w"
    refine w_draw ?_
    walk_at "w"
    refine ⟨by omega, by omega, by omega, fun k k0 k1 => ?_⟩
    obtain ⟨j, hj⟩ : ∃ j : Nat, k = j := ⟨k.toNat, by omega⟩
    subst hj
    have hj : j < xs.length := by omega
    refine r_ixL hl (atI_nat (List.getElem?_eq_getElem hj)) ?_
    exact h _ (List.getElem_mem hj)
/-- _law_pen -/
def spPen (K : PySem.W.Frag) : Sp := fun vs H Q _ => ∃ (s : Addr) (ns : List Int), vs = [.ref s] ∧ SqL K H s (ns.map V.int) ∧
  ∀ (p a : Addr) (ns' : List Int) (H' : Hp), p ≠ a → H p = none → H a = none → H' p = some (.lst [.ref a, .int 0, .int 0]) → H' a = some (.lst (ns'.map V.int)) → Ext H H' → Q (.ref p) H'
theorem cut_map (ns : List Int) (lo hi : Option Int) : ∃ ns' : List Int, cutV (ns.map V.int) lo hi = ns'.map V.int := by
  unfold cutV
  exact ⟨(ns.drop _).take _, by rw [List.map_take, List.map_drop]⟩
theorem ok__law_pen (T : Tx K mg) : FnOk P w K mg base CX0 1 T.f__law_pen T.d__law_pen ["script"] (spPen K) := by
  refine T.F__law_pen.ok sc__law_pen (fun vs H Q E h => ?_) (fun cdv A outer s H vs Q E hr h => ?_)
  · obtain ⟨s, ns, rfl, _⟩ := h
    rfl
  · obtain ⟨sc, ns, rfl, hs, h⟩ := h
    refine ⟨_, (pss_one (ps_ret (pe_lst (pa_cons (pe_callTy c_list (by rfl) T.b_list (by decide +kernel) (pa_cons (pe_slice sl_list (pv 0) po_none (po_some pe_int)) pa_nil)) (pa_cons pe_int (pa_cons pe_int pa_nil)))))), ?_⟩
    obtain ⟨ns', e⟩ := cut_map ns none (some 63)
    refine ⟨_, rfl, _, rfl, sc, _, rfl, hs, fun l hl => ⟨l, _, rfl, .inl (sql upd_same), fun a ha => ⟨(by rw [sizeLine_eq]; exact (show 3 ≤ 16777216 by decide)), fun p hp => ?_⟩⟩⟩
    have la : l ≠ a := fun z => by rw [z, upd_same] at ha; cases ha
    have ha0 : H a = none := by rw [upd_ne (Ne.symm la)] at ha; exact ha
    have pa : p ≠ a := fun z => by rw [z, upd_same] at hp; cases hp
    have pl : p ≠ l := fun z => by rw [z, upd_ne la, upd_same] at hp; cases hp
    have hp0 : H p = none := by rw [upd_ne pa, upd_ne pl] at hp; exact hp
    refine h p a ns' _ pa hp0 ha0 upd_same ?_ ?_
    · rw [upd_ne (Ne.symm pa), upd_same, e]
    · exact fun x o hx => by rw [upd_ne (ne_of_none hx hp0), upd_ne (ne_of_none hx ha0), upd_ne (ne_of_none hx hl)]; exact hx
end

end NN

namespace NN
open PySem PySem.Spec PyProof.Rows L2 LamX AW ClX
open Tx1
/-! ### values of all kinds -/
theorem ext_new {kn : Hp} {q : Addr} {o : HO} (h : kn q = none) : Ext kn (upd kn q o) := fun x u e => know h e
theorem ext_tr {a b c : Hp} (h : Ext a b) (k : Ext b c) : Ext a c := fun x o e => k x o (h x o e)
theorem ext_rf {a : Hp} : Ext a a := fun _ _ h => h
theorem w_gen {α : Type} {c : Cw} {t : Hp → (α → Hp → Prop) → Prop} {k : Hp} {b : Addr} {o : HO} {n : Nat} {Q : α → Hp → Nat → Prop} (hb : k b = none) (h : ∀ k1, Ext k k1 → k1 b = some o → W c t k1 n Q) : W c t (upd k b o) n Q := h _ (ext_new hb) upd_same
theorem log_small {i : Int} (h1 : -(10 ^ 13) < i) (h2 : i < 10 ^ 13) : i.natAbs.log2 < 1920 := by
  by_cases z : i.natAbs = 0
  · rw [z]; decide
  · have a : i.natAbs < 2 ^ 44 := by omega
    exact Nat.lt_trans ((Nat.log2_lt z).mpr a) (by decide)
theorem len_small {i : Int} (h1 : -(10 ^ 13) < i) (h2 : i < 10 ^ 13) : (Str.ofString (toString i)).length ≤ 14 := by
  rw [PySem.ofString_length]
  exact int_text_length_le10 (k := 13) (by decide) (by omega)
theorem ws_gen {c : Cw} {b : TS} {E : AE} {σ : L2.St} {k : Hp} {a : Addr} {o : HO} {n : Nat} (hb : k a = none) (h : ∀ k1, Ext k k1 → k1 a = some o → WS c b E σ k1 n) : WS c b E σ (upd k a o) n := h _ (ext_new hb) upd_same
structure Th (k : Hp) (v : V) (d : PyData) : Prop where
  is : Dq k v d
  shows : d.showable = true
  deep : d.depth ≤ 3
  long : d.shown.length ≤ 100
theorem Th.ext {k k' : Hp} {v : V} {d : PyData} (e : Ext k k') (h : Th k v d) : Th k' v d := ⟨dq_ext e h.is, h.shows, h.deep, h.long⟩
def bVal : List V → Hp → AK → AXK → Prop := fun vs kn Q _ => vs = [] ∧ ∀ v d k', Ext kn k' → Th k' v d → Q v k'
theorem mo_val : MonoX bVal := by
  rintro vs kn Q R E F h1 h2 ⟨a, h⟩
  exact ⟨a, fun v d k z1 z2 => h1 _ _ (h v d k z1 z2)⟩
section
variable {P : Program} {w : World} {K : PySem.W.Frag} {mg : Str → Option Value} {base : Heap}
theorem ok__law_value (T : Tx K mg) : FnOk P w K mg base CX0 4 T.f__law_value T.d__law_value ["pen"] (liftP [] 2 bVal) := by
  refine T.F__law_value.ok sc__law_value (fun vs H Q E h => ?_) (fun cdv A outer s H vs Q E hr h => ?_)
  · obtain ⟨p, a, ns, n, kn, ws, rfl, _, _, rfl, _⟩ := h
    rfl
  · obtain ⟨p, a, ns, n, kn, ws, rfl, g, hn, rfl, h⟩ := h
    refine ⟨_, (pss_cons (ps_set (i := 1) sc__law_value.nd rfl (by first | exact Or.inl rfl | exact Or.inr rfl) (pe_lstB (pa_cons pe_non (pa_cons pe_bl (pa_cons pe_int (pa_cons (pe_un un_neg pe_int) (pa_cons (pe_op op_pow pe_int pe_int) (pa_cons pe_str (pa_cons pe_str (pa_cons (pe_tup (pa_cons pe_int (pa_cons pe_str pa_nil))) (pa_cons (pe_lstB (pa_cons pe_non pa_nil)) (pa_cons (pe_disp (pps_cons pe_str (pe_lstB (pa_cons pe_int pa_nil)) pps_nil) rfl rfl (by simp) (by decide)) (pa_cons (pe_op op_repS pe_str pe_int) (pa_cons (pe_tup pa_nil) pa_nil))))))))))))))
       (pss_cons (ps_set (i := 1) sc__law_value.nd rfl (by first | exact Or.inl rfl | exact Or.inr rfl) (pe_op op_cat (pv 1) (pe_lstB (pa_cons (pe_call (ok__law_draw T) (hr.mono (by decide)) (by rfl) T.g__law_draw T.F__law_draw.kp T.bd__law_draw .nil pass0 (pa_cons (pv 0) (pa_cons (pe_op op_pow pe_int pe_int) pa_nil))) pa_nil))))
       (pss_one (ps_ret (pe_call (ok__law_pick T []) (hr.mono (by decide)) (by rfl) T.g__law_pick T.F__law_pick.kp T.bd__law_pick .nil pass0 (pa_cons (pv 0) (pa_cons (pv 1) pa_nil))))))), ?_⟩
    refine body_of g ?_
    walk_at "w"
    refine w_lstB ?_
    walk_at "w"
    refine r_I ⟨by decide, by decide, by decide⟩ ?_
    walk_at "w"
    refine ⟨show 2 ≤ 1000 by decide, fun p1 h1 => w_gen h1 fun k1 e1 f1 => ?_⟩
    walk_at "w"
    refine w_lstB ?_
    walk_at "w"
    refine ⟨show 1 ≤ 1000 by decide, fun p2 h2 s2 => w_gen h2 fun k2 e2 f2 => ?_⟩
    walk_at "w"
    refine w_dict1 fun p3 h3 => ?_
    walk_at "w"
    refine w_lstB ?_
    walk_at "w"
    refine ⟨show 1 ≤ 1000 by decide, fun p4 h4 s4 => ?_⟩
    have n34 : p4 ≠ p3 := fun z => by rw [z, upd_same] at h4; cases h4
    refine ⟨.inr "a", rfl, by rw [upd_ne (Ne.symm n34), upd_same], ?_⟩
    have h4' : k2 p4 = none := by rw [upd_ne n34] at h4; exact h4
    have e4 : Ext k2 (upd (upd (upd k2 p3 (.dK [])) p4 (.lst [.int 1])) p3 (.dK (mergeK [] [(.inr "a", .ref p4)]))) := fun x o hx => by
      rw [upd_ne (fun z => by rw [z, h3] at hx; cases hx), upd_ne (fun z => by rw [z, h4'] at hx; cases hx), upd_ne (fun z => by rw [z, h3] at hx; cases hx)]
      exact hx
    have f3 : (upd (upd (upd k2 p3 (.dK [])) p4 (.lst [.int 1])) p3 (.dK (mergeK [] [(.inr "a", .ref p4)]))) p3 = some (.dK [(.inr "a", .ref p4)]) := upd_same
    have f4 : (upd (upd (upd k2 p3 (.dK [])) p4 (.lst [.int 1])) p3 (.dK (mergeK [] [(.inr "a", .ref p4)]))) p4 = some (.lst [.int 1]) := by rw [upd_ne n34, upd_same]
    generalize (upd (upd (upd k2 p3 (.dK [])) p4 (.lst [.int 1])) p3 (.dK (mergeK [] [(.inr "a", .ref p4)]))) = k4 at e4 f3 f4 ⊢
    walk_at "w"
    refine r_repS ⟨by decide, fun _ _ => by decide, fun _ _ => by decide⟩ ?_
    walk_at "w"
    refine ⟨show 0 ≤ 1000 by decide, fun p5 h5 => w_gen h5 fun k5 e5 f5 => ?_⟩
    walk_at "w"
    refine ⟨show 12 ≤ 1000 by decide, fun p6 h6 _ => ?_⟩
    refine ws_gen h6 fun k6 e6 f6 => ?_
    walk_at "w"
    refine w_lstB ?_
    walk_at "w"
    refine w_draw ?_
    walk_at "w"
    refine r_I ⟨by decide, by decide, by decide⟩ ?_
    walk_at "w"
    refine ⟨by omega, by decide, by decide, fun z z0 z1 => ?_⟩
    walk_at "w"
    refine ⟨show 1 ≤ 1000 by decide, fun p7 h7 _ => w_gen h7 fun k7 e7 f7 => ?_⟩
    walk_at "w"
    refine r_cat (e7 _ _ f6) f7 (show 13 ≤ 1000 by decide) fun p8 h8 => ?_
    walk_at "w"
    refine w_gen h8 fun k8 e8 f8 => ?_
    walk_at "w"
    refine w_callP mo_pick err_no ?_
    walk_at "w"
    have x4 := ext_tr e4 (ext_tr e5 (ext_tr e6 (ext_tr e7 e8)))
    have x2 := ext_tr e2 x4
    have x := ext_tr e1 x2
    refine ⟨by omega, p8, _, rfl, f8, show 0 < 13 by decide, show 13 ≤ 1000 by decide, fun v hv => ?_⟩
    simp only [List.cons_append, List.nil_append, List.mem_cons, List.mem_nil_iff, or_false] at hv
    have zl : z < 10 ^ 13 := Int.lt_of_lt_of_le z1 (by decide)
    have ge : ∀ d, Th k8 v d → ∀ H', AW.Good (penC p a ns []) k8 (n + 2) H' → Q v H' := fun d td => h v d _ (ext_tr x (ext_rf)) td
    have y5 := ext_tr e6 (ext_tr e7 e8)
    rcases hv with rfl | rfl | rfl | rfl | rfl | rfl | rfl | rfl | rfl | rfl | rfl | rfl | rfl
    · exact ge _ ⟨.at .non, by decide +kernel, by decide +kernel, by decide +kernel⟩
    · exact ge _ ⟨.at (.bl _), by decide +kernel, by decide +kernel, by decide +kernel⟩
    · exact ge _ ⟨.at (.int _), by decide +kernel, by decide +kernel, by decide +kernel⟩
    · exact ge _ ⟨.at (.int _), by decide +kernel, by decide +kernel, by decide +kernel⟩
    · exact ge _ ⟨.at (.int _), by decide +kernel, by decide +kernel, by decide +kernel⟩
    · exact ge _ ⟨.at (.str _), by decide +kernel, by decide +kernel, by decide +kernel⟩
    · exact ge _ ⟨.at (.str _), by decide +kernel, by decide +kernel, by decide +kernel⟩
    · exact ge _ ⟨.tup (x2 _ _ f1) (.cons (.int 1) (.cons (.str _) .nil)), by decide +kernel, by decide +kernel, by decide +kernel⟩
    · exact ge _ ⟨.lst (x4 _ _ f2) s2 (.cons .non .nil), by decide +kernel, by decide +kernel, by decide +kernel⟩
    · exact ge _ ⟨.dic (ext_tr e5 y5 _ _ f3) (ext_tr e5 y5 _ _ f4) s4 (.cons (.int 1) .nil), by decide +kernel, by decide +kernel, by decide +kernel⟩
    · exact ge _ ⟨.at (.str _), by decide +kernel, by decide +kernel, by decide +kernel⟩
    · exact ge _ ⟨.tup (y5 _ _ f5) .nil, by decide +kernel, by decide +kernel, by decide +kernel⟩
    · refine ge _ ⟨.at (.int z), ?_, by simp only [PyData.depth]; decide, ?_⟩
      · simp only [PyData.showable]
        exact decide_eq_true (log_small (by omega) zl)
      · simp only [PyData.shown]
        exact Nat.le_trans (len_small (by omega) zl) (by decide)
end

end NN

namespace NN
open PySem PySem.Spec PyProof.Rows L2 LamX AW ClX
open Tx1
/-! ### what an error is -/
def clsL {K : PySem.W.Frag} {mg : Str → Option Value} (T : Tx K mg) : List Addr := [T.c_StayError, T.c_BadInput, T.c_Refused, T.c_NoAnswer, T.c_BadLengths, T.c_BadDays, T.c_BadStay, T.c_BadRule, T.c_BadBook, T.c_BadStretch, T.c_BadCalendar, T.c_BadDoor, T.c_BadName, T.c_BadCount, T.c_BadWish, T.c_BadRow, T.c_BadText, T.c_BadLine, T.c_Taken, T.c_NoGuest, T.c_NotLet, T.c_Outside, T.c_Full, T.c_Loose, T.c_TooMany, T.c_Dead, T.c_NoDeed, T.c_NoHouse]
def tb (i j : Nat) : Bool := ((kitR[i]?).bind (·[j]?)).getD false
def sgnL : List Str := ["input", "refused", "answer", "lengths", "days", "stay", "rule", "book", "stretch", "calendar", "door", "name", "count", "wish", "row", "text", "line", "taken", "guest", "let", "outside", "full", "loose", "many", "dead", "deed", "house"]
theorem tb_some : ∀ i, i < 28 → ∀ j, j < 28 → (kitR[i]?).bind (·[j]?) = some (tb i j) := by decide +kernel
section
variable {K : PySem.W.Frag} {mg : Str → Option Value}
theorem cls_len (T : Tx K mg) : (clsL T).length = 28 := rfl
theorem cls_lt (T : Tx K mg) {i : Nat} {C : Addr} (h : (clsL T)[i]? = some C) : i < 28 := by
  obtain ⟨z, _⟩ := List.getElem?_eq_some_iff.1 h
  exact z
theorem cls_kit (T : Tx K mg) {i j : Nat} {C D : Addr} (hC : (clsL T)[i]? = some C) (hD : (clsL T)[j]? = some D) : PySem.W.kitOne K (.ref C) (.ref D) = some (tb i j) :=
  kitTab_at (cs := clsL T) T.kit hC hD (tb_some i (cls_lt T hC) j (cls_lt T hD))
theorem cls_all (T : Tx K mg) : ∀ C ∈ clsL T, ExcC K C := by
  intro C h
  simp only [clsL, List.mem_cons, List.mem_nil_iff, or_false] at h
  rcases h with rfl | rfl | rfl | rfl | rfl | rfl | rfl | rfl | rfl | rfl | rfl | rfl | rfl | rfl | rfl | rfl | rfl | rfl | rfl | rfl | rfl | rfl | rfl | rfl | rfl | rfl | rfl | rfl
  · exact T.xc_StayError
  · exact T.xc_BadInput
  · exact T.xc_Refused
  · exact T.xc_NoAnswer
  · exact T.xc_BadLengths
  · exact T.xc_BadDays
  · exact T.xc_BadStay
  · exact T.xc_BadRule
  · exact T.xc_BadBook
  · exact T.xc_BadStretch
  · exact T.xc_BadCalendar
  · exact T.xc_BadDoor
  · exact T.xc_BadName
  · exact T.xc_BadCount
  · exact T.xc_BadWish
  · exact T.xc_BadRow
  · exact T.xc_BadText
  · exact T.xc_BadLine
  · exact T.xc_Taken
  · exact T.xc_NoGuest
  · exact T.xc_NotLet
  · exact T.xc_Outside
  · exact T.xc_Full
  · exact T.xc_Loose
  · exact T.xc_TooMany
  · exact T.xc_Dead
  · exact T.xc_NoDeed
  · exact T.xc_NoHouse
theorem cls_exc (T : Tx K mg) {i : Nat} {C : Addr} (h : (clsL T)[i]? = some C) : ExcC K C := cls_all T C (List.mem_of_getElem? h)
end
/-- the list of the first m signs -/
def Signs (k : Hp) (i m : Nat) (l : Addr) : Prop := ∃ ps : List Addr, ps.length = m ∧ k l = some (.lst (ps.map V.ref)) ∧ ∀ (j : Nat) (p : Addr), ps[j]? = some p → ∃ s, sgnL[j]? = some s ∧ k p = some (.tup [.str s, .bl (tb i (j + 1))])
theorem Signs.ext {k k' : Hp} {i m : Nat} {l : Addr} (e : Ext k k') (h : Signs k i m l) : Signs k' i m l := by
  obtain ⟨ps, a, b, c⟩ := h
  exact ⟨ps, a, e _ _ b, fun j p hp => by obtain ⟨s, h1, h2⟩ := c j p hp; exact ⟨s, h1, e _ _ h2⟩⟩
theorem signs_more {k : Hp} {i m : Nat} {ps qs : List Addr} {l : Addr} (h1 : ps.length = m) (h2 : ∀ (j : Nat) (p : Addr), ps[j]? = some p → ∃ s, sgnL[j]? = some s ∧ k p = some (.tup [.str s, .bl (tb i (j + 1))]))
    (h3 : ∀ (j : Nat) (p : Addr), qs[j]? = some p → ∃ s, sgnL[m + j]? = some s ∧ k p = some (.tup [.str s, .bl (tb i (m + j + 1))])) (hl : k l = some (.lst (ps.map V.ref ++ qs.map V.ref))) : Signs k i (m + qs.length) l := by
  refine ⟨ps ++ qs, by rw [List.length_append, h1], by rw [List.map_append]; exact hl, fun j p hp => ?_⟩
  rcases Nat.lt_or_ge j ps.length with z | z
  · rw [List.getElem?_append_left z] at hp
    exact h2 j p hp
  · rw [List.getElem?_append_right z, h1] at hp
    obtain ⟨s, a, b⟩ := h3 _ p hp
    rw [h1] at z
    rw [show m + (j - m) = j by omega] at a b
    exact ⟨s, a, b⟩
section
variable {c : Cw} {kn : Hp} {n : Nat} {σ : L2.St} {Q : V → Hp → Nat → Prop} {K : PySem.W.Frag} {mg : Str → Option Value}
/-- (sign, isinstance(caught, D)) -/
theorem w_sign (T : Tx K mg) {a C D : Addr} {s : Str} {i j : Nat} (h0 : σ[0]? = some (some (.ref a))) (he : IsErr kn a C) (hC : (clsL T)[i]? = some C) (hD : (clsL T)[j]? = some D)
    (q : ∀ p k, Ext kn k → k p = some (.tup [.str s, .bl (tb i j)]) → Q (.ref p) k n) : W c (tTup (tCons (tC (.str s)) (tCons (tCB (rIsV K) (tCons (tVar 0) (tCons (tC (.ref D)) tNil))) tNil)) σ) kn n Q := by
  refine w_tup (w_cons (w_c (w_cons (w_cb (w_cons (w_var h0 (w_cons (w_c (w_nil (r_isV he (.own D) (cls_exc T hC) (cls_kit T hC hD) (w_nil ?_)))))))))))
  exact ⟨show 2 ≤ 1000 by decide, fun p hp => q p _ (ext_new hp) upd_same⟩
theorem w_sign2 (T : Tx K mg) {a C D D' : Addr} {s s' : Str} {i j j' : Nat} (h0 : σ[0]? = some (some (.ref a))) (he : IsErr kn a C) (hC : (clsL T)[i]? = some C) (hD : (clsL T)[j]? = some D) (hD' : (clsL T)[j']? = some D')
    (q : ∀ p p' l k, Ext kn k → k p = some (.tup [.str s, .bl (tb i j)]) → k p' = some (.tup [.str s', .bl (tb i j')]) → k l = some (.lst [.ref p, .ref p']) → Q (.ref l) k n) :
    W c (tLst (tCons (tTup (tCons (tC (.str s)) (tCons (tCB (rIsV K) (tCons (tVar 0) (tCons (tC (.ref D)) tNil))) tNil))) (tCons (tTup (tCons (tC (.str s')) (tCons (tCB (rIsV K) (tCons (tVar 0) (tCons (tC (.ref D')) tNil))) tNil))) tNil)) σ) kn n Q := by
  refine w_lst (w_cons (w_sign T h0 he hC hD fun p k1 e1 f1 => w_cons (w_sign T h0 (he.ext e1) hC hD' fun p' k2 e2 f2 => w_nil ⟨show 2 ≤ 1000 by decide, fun l hl => ?_⟩)))
  have e3 := ext_new (o := .lst [V.ref p, .ref p']) hl
  exact q p p' l _ (ext_tr e1 (ext_tr e2 e3)) (ext_tr e2 e3 _ _ f1) (e3 _ _ f2) upd_same
theorem w_signs2 (T : Tx K mg) {a C D D' l : Addr} {s s' : Str} {i m : Nat} (h0 : σ[0]? = some (some (.ref a))) (h1 : σ[1]? = some (some (.ref l))) (he : IsErr kn a C) (hC : (clsL T)[i]? = some C) (hl : Signs kn i m l) (hm : m ≤ 100)
    (hD : (clsL T)[m + 1]? = some D) (hD' : (clsL T)[m + 2]? = some D') (hs : sgnL[m]? = some s) (hs' : sgnL[m + 1]? = some s') (q : ∀ l' k, Ext kn k → Signs k i (m + 2) l' → Q (.ref l') k n) :
    W c (tOp rCat (tVar 1) (tLst (tCons (tTup (tCons (tC (.str s)) (tCons (tCB (rIsV K) (tCons (tVar 0) (tCons (tC (.ref D)) tNil))) tNil))) (tCons (tTup (tCons (tC (.str s')) (tCons (tCB (rIsV K) (tCons (tVar 0) (tCons (tC (.ref D')) tNil))) tNil))) tNil))) σ) kn n Q := by
  refine w_op (w_var h1 (w_sign2 T h0 he hC hD hD' fun p p' l2 k2 e2 f1 f2 f3 => ?_))
  obtain ⟨ps, b1, b2, b3⟩ := hl.ext e2
  refine r_cat b2 f3 (by rw [List.length_map, b1]; show m + 2 ≤ 1000; omega) fun l3 h3 => ?_
  have e3 := ext_new (o := .lst (ps.map V.ref ++ [V.ref p, .ref p'])) h3
  refine q l3 _ (ext_tr e2 e3) (signs_more (qs := [p, p']) b1 (fun j x hx => ?_) (fun j x hx => ?_) upd_same)
  · obtain ⟨s, z1, z2⟩ := b3 j x hx
    exact ⟨s, z1, e3 _ _ z2⟩
  · match j, hx with
    | 0, hx => cases hx; exact ⟨s, hs, e3 _ _ f1⟩
    | 1, hx => cases hx; exact ⟨s', hs', e3 _ _ f2⟩
    | j + 2, hx => cases hx
theorem w_signs1 (T : Tx K mg) {a C D l : Addr} {s : Str} {i m : Nat} (h0 : σ[0]? = some (some (.ref a))) (h1 : σ[1]? = some (some (.ref l))) (he : IsErr kn a C) (hC : (clsL T)[i]? = some C) (hl : Signs kn i m l) (hm : m ≤ 100)
    (hD : (clsL T)[m + 1]? = some D) (hs : sgnL[m]? = some s) (q : ∀ l' k, Ext kn k → Signs k i (m + 1) l' → Q (.ref l') k n) :
    W c (tOp rCat (tVar 1) (tLst (tCons (tTup (tCons (tC (.str s)) (tCons (tCB (rIsV K) (tCons (tVar 0) (tCons (tC (.ref D)) tNil))) tNil))) tNil)) σ) kn n Q := by
  refine w_op (w_var h1 (w_lst (w_cons (w_sign T h0 he hC hD fun p k1 e1 f1 => w_nil ⟨show 1 ≤ 1000 by decide, fun l2 h2 => ?_⟩))))
  have e2 := ext_new (o := .lst [V.ref p]) h2
  obtain ⟨ps, b1, b2, b3⟩ := hl.ext (ext_tr e1 e2)
  refine r_cat b2 (upd_same) (by rw [List.length_map, b1]; show m + 1 ≤ 1000; omega) fun l3 h3 => ?_
  have e3 := ext_new (o := .lst (ps.map V.ref ++ [V.ref p])) h3
  refine q l3 _ (ext_tr e1 (ext_tr e2 e3)) (signs_more (qs := [p]) b1 (fun j x hx => ?_) (fun j x hx => ?_) upd_same)
  · obtain ⟨s, z1, z2⟩ := b3 j x hx
    exact ⟨s, z1, e3 _ _ z2⟩
  · match j, hx with
    | 0, hx => cases hx; exact ⟨s, hs, ext_tr e2 e3 _ _ f1⟩
    | j + 1, hx => cases hx
end
def bSigns {K : PySem.W.Frag} {mg : Str → Option Value} (T : Tx K mg) : List V → Hp → AK → AXK → Prop := fun vs kn Q _ => ∃ a i C, vs = [.ref a] ∧ (clsL T)[i]? = some C ∧ IsErr kn a C ∧ ∀ l k', Ext kn k' → Signs k' i 27 l → Q (.ref l) k'
theorem mo_signs {K : PySem.W.Frag} {mg : Str → Option Value} (T : Tx K mg) : MonoX (bSigns T) := by
  rintro vs kn Q R E F h1 h2 ⟨a, i, C, b, x, y, h⟩
  exact ⟨a, i, C, b, x, y, fun l k e s => h1 _ _ (h l k e s)⟩
section
variable {P : Program} {w : World} {K : PySem.W.Frag} {mg : Str → Option Value} {base : Heap}
theorem ok__law_signs (T : Tx K mg) : FnOk P w K mg base CX0 2 T.f__law_signs T.d__law_signs ["caught"] (liftX (bSigns T)) := by
  refine T.F__law_signs.ok sc__law_signs (fun vs H Q E h => ?_) (fun cdv A outer s H vs Q E hr h => ?_)
  · obtain ⟨kn, _, _, a, i, C, rfl, _⟩ := h
    rfl
  · obtain ⟨kn, ex, nt, a, i, C, rfl, hC, he, h⟩ := h
    refine ⟨_, (pss_cons (ps_set (i := 1) sc__law_signs.nd rfl (by first | exact Or.inl rfl | exact Or.inr rfl) (pe_lst (pa_cons (pe_tup (pa_cons pe_str (pa_cons (pe_callB call_isV (by rfl) T.b_isinstance (by decide +kernel) (pa_cons (pv 0) (pa_cons (pe_glob (v := .ref T.c_BadInput) (by rfl) T.g_BadInput rfl) pa_nil))) pa_nil))) (pa_cons (pe_tup (pa_cons pe_str (pa_cons (pe_callB call_isV (by rfl) T.b_isinstance (by decide +kernel) (pa_cons (pv 0) (pa_cons (pe_glob (v := .ref T.c_Refused) (by rfl) T.g_Refused rfl) pa_nil))) pa_nil))) pa_nil))))
       (pss_cons (ps_set (i := 1) sc__law_signs.nd rfl (by first | exact Or.inl rfl | exact Or.inr rfl) (pe_op op_cat (pv 1) (pe_lst (pa_cons (pe_tup (pa_cons pe_str (pa_cons (pe_callB call_isV (by rfl) T.b_isinstance (by decide +kernel) (pa_cons (pv 0) (pa_cons (pe_glob (v := .ref T.c_NoAnswer) (by rfl) T.g_NoAnswer rfl) pa_nil))) pa_nil))) (pa_cons (pe_tup (pa_cons pe_str (pa_cons (pe_callB call_isV (by rfl) T.b_isinstance (by decide +kernel) (pa_cons (pv 0) (pa_cons (pe_glob (v := .ref T.c_BadLengths) (by rfl) T.g_BadLengths rfl) pa_nil))) pa_nil))) pa_nil)))))
       (pss_cons (ps_set (i := 1) sc__law_signs.nd rfl (by first | exact Or.inl rfl | exact Or.inr rfl) (pe_op op_cat (pv 1) (pe_lst (pa_cons (pe_tup (pa_cons pe_str (pa_cons (pe_callB call_isV (by rfl) T.b_isinstance (by decide +kernel) (pa_cons (pv 0) (pa_cons (pe_glob (v := .ref T.c_BadDays) (by rfl) T.g_BadDays rfl) pa_nil))) pa_nil))) (pa_cons (pe_tup (pa_cons pe_str (pa_cons (pe_callB call_isV (by rfl) T.b_isinstance (by decide +kernel) (pa_cons (pv 0) (pa_cons (pe_glob (v := .ref T.c_BadStay) (by rfl) T.g_BadStay rfl) pa_nil))) pa_nil))) pa_nil)))))
       (pss_cons (ps_set (i := 1) sc__law_signs.nd rfl (by first | exact Or.inl rfl | exact Or.inr rfl) (pe_op op_cat (pv 1) (pe_lst (pa_cons (pe_tup (pa_cons pe_str (pa_cons (pe_callB call_isV (by rfl) T.b_isinstance (by decide +kernel) (pa_cons (pv 0) (pa_cons (pe_glob (v := .ref T.c_BadRule) (by rfl) T.g_BadRule rfl) pa_nil))) pa_nil))) (pa_cons (pe_tup (pa_cons pe_str (pa_cons (pe_callB call_isV (by rfl) T.b_isinstance (by decide +kernel) (pa_cons (pv 0) (pa_cons (pe_glob (v := .ref T.c_BadBook) (by rfl) T.g_BadBook rfl) pa_nil))) pa_nil))) pa_nil)))))
       (pss_cons (ps_set (i := 1) sc__law_signs.nd rfl (by first | exact Or.inl rfl | exact Or.inr rfl) (pe_op op_cat (pv 1) (pe_lst (pa_cons (pe_tup (pa_cons pe_str (pa_cons (pe_callB call_isV (by rfl) T.b_isinstance (by decide +kernel) (pa_cons (pv 0) (pa_cons (pe_glob (v := .ref T.c_BadStretch) (by rfl) T.g_BadStretch rfl) pa_nil))) pa_nil))) (pa_cons (pe_tup (pa_cons pe_str (pa_cons (pe_callB call_isV (by rfl) T.b_isinstance (by decide +kernel) (pa_cons (pv 0) (pa_cons (pe_glob (v := .ref T.c_BadCalendar) (by rfl) T.g_BadCalendar rfl) pa_nil))) pa_nil))) pa_nil)))))
       (pss_cons (ps_set (i := 1) sc__law_signs.nd rfl (by first | exact Or.inl rfl | exact Or.inr rfl) (pe_op op_cat (pv 1) (pe_lst (pa_cons (pe_tup (pa_cons pe_str (pa_cons (pe_callB call_isV (by rfl) T.b_isinstance (by decide +kernel) (pa_cons (pv 0) (pa_cons (pe_glob (v := .ref T.c_BadDoor) (by rfl) T.g_BadDoor rfl) pa_nil))) pa_nil))) (pa_cons (pe_tup (pa_cons pe_str (pa_cons (pe_callB call_isV (by rfl) T.b_isinstance (by decide +kernel) (pa_cons (pv 0) (pa_cons (pe_glob (v := .ref T.c_BadName) (by rfl) T.g_BadName rfl) pa_nil))) pa_nil))) pa_nil)))))
       (pss_cons (ps_set (i := 1) sc__law_signs.nd rfl (by first | exact Or.inl rfl | exact Or.inr rfl) (pe_op op_cat (pv 1) (pe_lst (pa_cons (pe_tup (pa_cons pe_str (pa_cons (pe_callB call_isV (by rfl) T.b_isinstance (by decide +kernel) (pa_cons (pv 0) (pa_cons (pe_glob (v := .ref T.c_BadCount) (by rfl) T.g_BadCount rfl) pa_nil))) pa_nil))) (pa_cons (pe_tup (pa_cons pe_str (pa_cons (pe_callB call_isV (by rfl) T.b_isinstance (by decide +kernel) (pa_cons (pv 0) (pa_cons (pe_glob (v := .ref T.c_BadWish) (by rfl) T.g_BadWish rfl) pa_nil))) pa_nil))) pa_nil)))))
       (pss_cons (ps_set (i := 1) sc__law_signs.nd rfl (by first | exact Or.inl rfl | exact Or.inr rfl) (pe_op op_cat (pv 1) (pe_lst (pa_cons (pe_tup (pa_cons pe_str (pa_cons (pe_callB call_isV (by rfl) T.b_isinstance (by decide +kernel) (pa_cons (pv 0) (pa_cons (pe_glob (v := .ref T.c_BadRow) (by rfl) T.g_BadRow rfl) pa_nil))) pa_nil))) (pa_cons (pe_tup (pa_cons pe_str (pa_cons (pe_callB call_isV (by rfl) T.b_isinstance (by decide +kernel) (pa_cons (pv 0) (pa_cons (pe_glob (v := .ref T.c_BadText) (by rfl) T.g_BadText rfl) pa_nil))) pa_nil))) pa_nil)))))
       (pss_cons (ps_set (i := 1) sc__law_signs.nd rfl (by first | exact Or.inl rfl | exact Or.inr rfl) (pe_op op_cat (pv 1) (pe_lst (pa_cons (pe_tup (pa_cons pe_str (pa_cons (pe_callB call_isV (by rfl) T.b_isinstance (by decide +kernel) (pa_cons (pv 0) (pa_cons (pe_glob (v := .ref T.c_BadLine) (by rfl) T.g_BadLine rfl) pa_nil))) pa_nil))) (pa_cons (pe_tup (pa_cons pe_str (pa_cons (pe_callB call_isV (by rfl) T.b_isinstance (by decide +kernel) (pa_cons (pv 0) (pa_cons (pe_glob (v := .ref T.c_Taken) (by rfl) T.g_Taken rfl) pa_nil))) pa_nil))) pa_nil)))))
       (pss_cons (ps_set (i := 1) sc__law_signs.nd rfl (by first | exact Or.inl rfl | exact Or.inr rfl) (pe_op op_cat (pv 1) (pe_lst (pa_cons (pe_tup (pa_cons pe_str (pa_cons (pe_callB call_isV (by rfl) T.b_isinstance (by decide +kernel) (pa_cons (pv 0) (pa_cons (pe_glob (v := .ref T.c_NoGuest) (by rfl) T.g_NoGuest rfl) pa_nil))) pa_nil))) (pa_cons (pe_tup (pa_cons pe_str (pa_cons (pe_callB call_isV (by rfl) T.b_isinstance (by decide +kernel) (pa_cons (pv 0) (pa_cons (pe_glob (v := .ref T.c_NotLet) (by rfl) T.g_NotLet rfl) pa_nil))) pa_nil))) pa_nil)))))
       (pss_cons (ps_set (i := 1) sc__law_signs.nd rfl (by first | exact Or.inl rfl | exact Or.inr rfl) (pe_op op_cat (pv 1) (pe_lst (pa_cons (pe_tup (pa_cons pe_str (pa_cons (pe_callB call_isV (by rfl) T.b_isinstance (by decide +kernel) (pa_cons (pv 0) (pa_cons (pe_glob (v := .ref T.c_Outside) (by rfl) T.g_Outside rfl) pa_nil))) pa_nil))) (pa_cons (pe_tup (pa_cons pe_str (pa_cons (pe_callB call_isV (by rfl) T.b_isinstance (by decide +kernel) (pa_cons (pv 0) (pa_cons (pe_glob (v := .ref T.c_Full) (by rfl) T.g_Full rfl) pa_nil))) pa_nil))) pa_nil)))))
       (pss_cons (ps_set (i := 1) sc__law_signs.nd rfl (by first | exact Or.inl rfl | exact Or.inr rfl) (pe_op op_cat (pv 1) (pe_lst (pa_cons (pe_tup (pa_cons pe_str (pa_cons (pe_callB call_isV (by rfl) T.b_isinstance (by decide +kernel) (pa_cons (pv 0) (pa_cons (pe_glob (v := .ref T.c_Loose) (by rfl) T.g_Loose rfl) pa_nil))) pa_nil))) (pa_cons (pe_tup (pa_cons pe_str (pa_cons (pe_callB call_isV (by rfl) T.b_isinstance (by decide +kernel) (pa_cons (pv 0) (pa_cons (pe_glob (v := .ref T.c_TooMany) (by rfl) T.g_TooMany rfl) pa_nil))) pa_nil))) pa_nil)))))
       (pss_cons (ps_set (i := 1) sc__law_signs.nd rfl (by first | exact Or.inl rfl | exact Or.inr rfl) (pe_op op_cat (pv 1) (pe_lst (pa_cons (pe_tup (pa_cons pe_str (pa_cons (pe_callB call_isV (by rfl) T.b_isinstance (by decide +kernel) (pa_cons (pv 0) (pa_cons (pe_glob (v := .ref T.c_Dead) (by rfl) T.g_Dead rfl) pa_nil))) pa_nil))) (pa_cons (pe_tup (pa_cons pe_str (pa_cons (pe_callB call_isV (by rfl) T.b_isinstance (by decide +kernel) (pa_cons (pv 0) (pa_cons (pe_glob (v := .ref T.c_NoDeed) (by rfl) T.g_NoDeed rfl) pa_nil))) pa_nil))) pa_nil)))))
       (pss_one (ps_ret (pe_op op_cat (pv 1) (pe_lst (pa_cons (pe_tup (pa_cons pe_str (pa_cons (pe_callB call_isV (by rfl) T.b_isinstance (by decide +kernel) (pa_cons (pv 0) (pa_cons (pe_glob (v := .ref T.c_NoHouse) (by rfl) T.g_NoHouse rfl) pa_nil))) pa_nil))) pa_nil)))))))))))))))))), ?_⟩
    refine body_of (pure_start ex nt) ?_
    refine s_seq (s_asg (w_sign2 T (j := 1) (j' := 2) rfl he hC rfl rfl fun p p' l k e f1 f2 f3 => g_name ?_))
    have hl : Signs k i 2 l := ⟨[p, p'], rfl, f3, fun j x hx => by
      match j, hx with
      | 0, hx => cases hx; exact ⟨_, rfl, f1⟩
      | 1, hx => cases hx; exact ⟨_, rfl, f2⟩
      | j + 2, hx => cases hx⟩
    clear f1 f2 f3
    have he := he.ext e
    refine s_seq (s_asg (w_signs2 T (m := 2) rfl rfl he hC hl (by decide) rfl rfl rfl rfl fun l k2 e2 hl => g_name ?_))
    have he := he.ext e2
    have e := ext_tr e e2
    clear e2
    refine s_seq (s_asg (w_signs2 T (m := 4) rfl rfl he hC hl (by decide) rfl rfl rfl rfl fun l k2 e2 hl => g_name ?_))
    have he := he.ext e2
    have e := ext_tr e e2
    clear e2
    refine s_seq (s_asg (w_signs2 T (m := 6) rfl rfl he hC hl (by decide) rfl rfl rfl rfl fun l k2 e2 hl => g_name ?_))
    have he := he.ext e2
    have e := ext_tr e e2
    clear e2
    refine s_seq (s_asg (w_signs2 T (m := 8) rfl rfl he hC hl (by decide) rfl rfl rfl rfl fun l k2 e2 hl => g_name ?_))
    have he := he.ext e2
    have e := ext_tr e e2
    clear e2
    refine s_seq (s_asg (w_signs2 T (m := 10) rfl rfl he hC hl (by decide) rfl rfl rfl rfl fun l k2 e2 hl => g_name ?_))
    have he := he.ext e2
    have e := ext_tr e e2
    clear e2
    refine s_seq (s_asg (w_signs2 T (m := 12) rfl rfl he hC hl (by decide) rfl rfl rfl rfl fun l k2 e2 hl => g_name ?_))
    have he := he.ext e2
    have e := ext_tr e e2
    clear e2
    refine s_seq (s_asg (w_signs2 T (m := 14) rfl rfl he hC hl (by decide) rfl rfl rfl rfl fun l k2 e2 hl => g_name ?_))
    have he := he.ext e2
    have e := ext_tr e e2
    clear e2
    refine s_seq (s_asg (w_signs2 T (m := 16) rfl rfl he hC hl (by decide) rfl rfl rfl rfl fun l k2 e2 hl => g_name ?_))
    have he := he.ext e2
    have e := ext_tr e e2
    clear e2
    refine s_seq (s_asg (w_signs2 T (m := 18) rfl rfl he hC hl (by decide) rfl rfl rfl rfl fun l k2 e2 hl => g_name ?_))
    have he := he.ext e2
    have e := ext_tr e e2
    clear e2
    refine s_seq (s_asg (w_signs2 T (m := 20) rfl rfl he hC hl (by decide) rfl rfl rfl rfl fun l k2 e2 hl => g_name ?_))
    have he := he.ext e2
    have e := ext_tr e e2
    clear e2
    refine s_seq (s_asg (w_signs2 T (m := 22) rfl rfl he hC hl (by decide) rfl rfl rfl rfl fun l k2 e2 hl => g_name ?_))
    have he := he.ext e2
    have e := ext_tr e e2
    clear e2
    refine s_seq (s_asg (w_signs2 T (m := 24) rfl rfl he hC hl (by decide) rfl rfl rfl rfl fun l k2 e2 hl => g_name ?_))
    have he := he.ext e2
    have e := ext_tr e e2
    clear e2
    refine s_ret (w_signs1 T (m := 26) rfl rfl he hC hl (by decide) rfl rfl fun l k2 e2 hl => ?_)
    exact h l k2 (ext_tr e e2) hl 0
end

end NN

namespace NN
open PySem PySem.Spec PyProof.Rows L2 LamX AW ClX
open Tx1
/-! ### the signs that are so -/
def rowR (i : Nat) : Nat → Nat → List Str
  | _, 0 => []
  | m, n + 1 => (if tb i (m + 1) = true then [(sgnL[m]?).getD Str.empty] else []) ++ rowR i (m + 1) n
def prK (k : Hp) : V → Bool
  | .ref p => (match k p with | some (.tup [_, .bl b]) => b | _ => false)
  | _ => false
def fnK (k : Hp) : V → V
  | .ref p => (match k p with | some (.tup (y :: _)) => y | _ => .non)
  | _ => .non
theorem prK_of {k : Hp} {p : Addr} {y : V} {b : Bool} (h : k p = some (.tup [y, .bl b])) : prK k (.ref p) = b := by simp only [prK, h]
theorem fnK_of {k : Hp} {p : Addr} {y : V} {b : Bool} (h : k p = some (.tup [y, .bl b])) : fnK k (.ref p) = y := by simp only [fnK, h]
theorem row_of {k : Hp} {i : Nat} : ∀ (ps : List Addr) (m : Nat), (∀ (j : Nat) (p : Addr), ps[j]? = some p → ∃ s, sgnL[m + j]? = some s ∧ k p = some (.tup [.str s, .bl (tb i (m + j + 1))])) →
    (((ps.map V.ref).filter (prK k)).map (fnK k)) = (rowR i m ps.length).map V.str
  | [], _, _ => rfl
  | p :: r, m, h => by
    obtain ⟨s, h1, h2⟩ := h 0 p rfl
    have ih := row_of r (m + 1) fun j q hq => by
      obtain ⟨t, a, b⟩ := h (j + 1) q hq
      exact ⟨t, by rw [show m + 1 + j = m + (j + 1) by omega]; exact a, by rw [show m + 1 + j = m + (j + 1) by omega]; exact b⟩
    have h1 : sgnL[m]? = some s := h1
    have h2 : k p = some (.tup [.str s, .bl (tb i (m + 1))]) := h2
    rw [List.map_cons, List.filter_cons, prK_of h2]
    show _ = ((if tb i (m + 1) = true then [(sgnL[m]?).getD Str.empty] else []) ++ rowR i (m + 1) r.length).map V.str
    cases hb : tb i (m + 1) with
    | true =>
      rw [if_pos rfl, if_pos rfl, List.map_cons, fnK_of h2, ih, h1]
      rfl
    | false =>
      rw [if_neg (by decide), if_neg (by decide), ih]
      rfl
def bRaised {K : PySem.W.Frag} {mg : Str → Option Value} (T : Tx K mg) : List V → Hp → AK → AXK → Prop := fun vs kn Q _ => ∃ a i C, vs = [.ref a] ∧ (clsL T)[i]? = some C ∧ IsErr kn a C ∧ ∀ l k', Ext kn k' → k' l = some (.lst ((rowR i 0 27).map V.str)) → Q (.ref l) k'
theorem mo_raised {K : PySem.W.Frag} {mg : Str → Option Value} (T : Tx K mg) : MonoX (bRaised T) := by
  rintro vs kn Q R E F h1 h2 ⟨a, i, C, b, x, y, h⟩
  exact ⟨a, i, C, b, x, y, fun l k e s => h1 _ _ (h l k e s)⟩
theorem tb_zero : ∀ i, i < 28 → tb i 0 = true := by decide +kernel
section
variable {P : Program} {w : World} {K : PySem.W.Frag} {mg : Str → Option Value} {base : Heap}
theorem ok__law_raised (T : Tx K mg) : FnOk P w K mg base CX0 3 T.f__law_raised T.d__law_raised ["error"] (liftX (bRaised T)) := by
  refine T.F__law_raised.ok sc__law_raised (fun vs H Q E h => ?_) (fun cdv A outer s H vs Q E hr h => ?_)
  · obtain ⟨kn, _, _, a, i, C, rfl, _⟩ := h
    rfl
  · obtain ⟨kn, ex, nt, a, i, C, rfl, hC, he, h⟩ := h
    refine ⟨_, (pss_one (ps_ret (pe_ifExp (pt_val (pe_callB call_isV (by rfl) T.b_isinstance (by decide +kernel) (pa_cons (pv 0) (pa_cons (pe_glob (v := .ref T.c_StayError) (by rfl) T.g_StayError rfl) pa_nil)))) (pe_lc (own := [("sign", 1), ("is_so", 2)]) (g := gTup K 2 (gCons (gName 1) (gCons (gName 2) gNil))) (by rfl) sc__law_raised.nd (pi_list (pe_call (ok__law_signs T) (hr.mono (by decide)) (by rfl) T.g__law_signs T.F__law_signs.kp T.bd__law_signs .nil pass0 (pa_cons (pv 0) pa_nil))) (blkOk_by (own := [("sign", 1), ("is_so", 2)]) (N := ["error", "sign", "is_so"]) (sc := defScope s__law_raised) (by decide +kernel)) (fun _ _ _ _ _ => (pg_tup (by rfl) (pgs_cons (pg_name (i := 1) sc__law_raised.nd rfl (Or.inl rfl)) (pgs_cons (pg_name (i := 2) sc__law_raised.nd rfl (Or.inl rfl)) pgs_nil)))) (fun _ _ _ _ _ => (pts_one (pt_val (pv 2)))) (fun _ _ _ _ _ => (pv 1))) pe_non))), ?_⟩
    refine body_of (pure_start ex nt) ?_
    have k0 := cls_kit T hC (show (clsL T)[0]? = some T.c_StayError from rfl)
    rw [tb_zero i (cls_lt T hC)] at k0
    walk_at "w"
    refine r_isV he (.own _) (cls_exc T hC) k0 ?_
    walk_at "w"
    refine w_lcP (i_list ?_)
    walk_at "w"
    refine w_call (EA := fun _ _ _ _ => False) (mo_signs T) err_no ?_
    walk_at "w"
    refine ⟨a, i, C, rfl, hC, he, fun l k1 e1 hs => ?_⟩
    obtain ⟨ps, b1, b2, b3⟩ := hs
    refine ⟨l, _, rfl, b2, ?_⟩
    refine ⟨_, _, fnK k1, prK k1, gives_lst, by rw [List.length_map, b1]; decide, fun k e => e _ _ b2, fun x hx k ek => ?_, fun D hD => ?_⟩
    · obtain ⟨p, hm, rfl⟩ := List.mem_map.1 hx
      obtain ⟨j, hj⟩ := List.getElem?_of_mem hm
      obtain ⟨s, h1, h2⟩ := b3 j p hj
      refine g_tup (ek _ _ h2) rfl (g_cons (g_name (g_cons (g_name (g_nil ⟨rfl, rfl, rfl, ?_⟩)))))
      rw [prK_of h2, fnK_of h2]
      walk_at "w"
      refine ⟨rfl, fun _ => ?_⟩
      walk_at "w"
    · have r := row_of ps 0 fun j p hp => by rw [Nat.zero_add]; exact b3 j p hp
      rw [b1] at r
      rw [r]
      exact h D _ (ext_tr e1 (ext_new hD)) upd_same 0
end

end NN

namespace NN
open PySem PySem.Spec PyProof.Rows L2 LamX AW ClX
open Tx1
/-! ### lists of what was made -/
inductive All2 (R : Nat → Addr → Prop) : List Nat → List Addr → Prop
  | nil : All2 R [] []
  | cons {i : Nat} {p : Addr} {is : List Nat} {ps : List Addr} : R i p → All2 R is ps → All2 R (i :: is) (p :: ps)
theorem All2.imp {R S : Nat → Addr → Prop} (h : ∀ i p, R i p → S i p) : ∀ {is : List Nat} {ps : List Addr}, All2 R is ps → All2 S is ps
  | _, _, .nil => .nil
  | _, _, .cons a b => .cons (h _ _ a) (b.imp h)
theorem All2.append {R : Nat → Addr → Prop} : ∀ {is js : List Nat} {ps qs : List Addr}, All2 R is ps → All2 R js qs → All2 R (is ++ js) (ps ++ qs)
  | _, _, _, _, .nil, b => b
  | _, _, _, _, .cons a r, b => .cons a (r.append b)
theorem All2.len {R : Nat → Addr → Prop} : ∀ {is : List Nat} {ps : List Addr}, All2 R is ps → ps.length = is.length
  | _, _, .nil => rfl
  | _, _, .cons _ b => congrArg (· + 1) b.len
theorem All2.get {R : Nat → Addr → Prop} : ∀ {is : List Nat} {ps : List Addr} {j : Nat} {p : Addr}, All2 R is ps → ps[j]? = some p → ∃ i, is[j]? = some i ∧ R i p
  | _, _, 0, _, .cons a _, h => by cases h; exact ⟨_, rfl, a⟩
  | _, _, j + 1, _, .cons _ b, h => by
    obtain ⟨i, h1, h2⟩ := b.get (j := j) h
    exact ⟨i, h1, h2⟩
theorem all2_of {R : Nat → Addr → Prop} : ∀ (is : List Nat) (ys : List V), ys.length = is.length → (∀ (j i : Nat) (y : V), ys[j]? = some y → is[j]? = some i → ∃ p, y = .ref p ∧ R i p) → ∃ ps : List Addr, ys = ps.map V.ref ∧ All2 R is ps
  | [], [], _, _ => ⟨[], rfl, .nil⟩
  | [], _ :: _, h, _ => by cases h
  | _ :: _, [], h, _ => by cases h
  | i :: is, y :: ys, hl, h => by
    obtain ⟨p, rfl, hp⟩ := h 0 i y rfl rfl
    obtain ⟨ps, rfl, hps⟩ := all2_of is ys (Nat.succ.inj hl) fun j i' y' h1 h2 => h (j + 1) i' y' h1 h2
    exact ⟨p :: ps, rfl, .cons hp hps⟩
def LstOf (R : Hp → Nat → Addr → Prop) (k : Hp) (is : List Nat) (l : Addr) : Prop := ∃ ps : List Addr, k l = some (.lst (ps.map V.ref)) ∧ All2 (R k) is ps
/-- the sign of the class i -/
def sg (i : Nat) : Str := (sgnL[i - 1]?).getD Str.empty
section
variable {K : PySem.W.Frag} {mg : Str → Option Value}
/-- (error, sign) -/
def PairAt (T : Tx K mg) (f : Str) (v : V) (k : Hp) (i : Nat) (p : Addr) : Prop := ∃ a C, k p = some (.tup [.ref a, .str (sg i)]) ∧ ErrAt k a C [(f, v)] ∧ (clsL T)[i]? = some C
/-- (error, sign, field) -/
def RowAt (T : Tx K mg) (v : V) (k : Hp) (i : Nat) (p : Addr) : Prop := ∃ a C, k p = some (.tup [.ref a, .str (sg i), v]) ∧ IsErr k a C ∧ (clsL T)[i]? = some C
theorem PairAt.ext {T : Tx K mg} {f : Str} {v : V} {k k' : Hp} (e : Ext k k') (i : Nat) (p : Addr) (h : PairAt T f v k i p) : PairAt T f v k' i p := by
  obtain ⟨a, C, h1, h2, h3⟩ := h
  exact ⟨a, C, e _ _ h1, h2.ext e, h3⟩
theorem RowAt.ext {T : Tx K mg} {v : V} {k k' : Hp} (e : Ext k k') (i : Nat) (p : Addr) (h : RowAt T v k i p) : RowAt T v k' i p := by
  obtain ⟨a, C, h1, h2, h3⟩ := h
  exact ⟨a, C, e _ _ h1, h2.ext e, h3⟩
theorem RowAt.put {T : Tx K mg} {v : V} {k : Hp} {D : Addr} {zs : List V} {o : HO} (hD : k D = some (.lst zs)) (i : Nat) (p : Addr) (h : RowAt T v k i p) : RowAt T v (upd k D o) i p := by
  have keep : ∀ {q : Addr} {u : HO}, k q = some u → (∀ ys, u ≠ .lst ys) → upd k D o q = some u := fun {q u} e hu => by
    rw [upd_ne (fun z => by rw [z, hD] at e; exact hu _ (Option.some.inj e).symm)]
    exact e
  obtain ⟨a, C, h1, ⟨d, fs, h2, h4⟩, h3⟩ := h
  refine ⟨a, C, keep h1 (fun _ z => by cases z), ⟨d, fs, keep h2 (fun _ z => ?_), fun dd e => keep (h4 dd e) (fun _ z => ?_)⟩, h3⟩
  · have z' : HO.ext _ = HO.lst _ := z
    cases z'
  · have z' : HO.ext _ = HO.lst _ := z
    cases z'
end
theorem LstOf.ext {R : Hp → Nat → Addr → Prop} (hR : ∀ k k', Ext k k' → ∀ i p, R k i p → R k' i p) {k k' : Hp} {is : List Nat} {l : Addr} (e : Ext k k') (h : LstOf R k is l) : LstOf R k' is l := by
  obtain ⟨ps, a, b⟩ := h
  exact ⟨ps, e _ _ a, b.imp (hR _ _ e)⟩
section
variable {c : Cw} {kn : Hp} {n : Nat} {σ : L2.St} {Q : V → Hp → Nat → Prop} {K : PySem.W.Frag} {mg : Str → Option Value}
theorem r_catR {R : Hp → Nat → Addr → Prop} (hR : ∀ k k', Ext k k' → ∀ i p, R k i p → R k' i p) {l1 l2 : Addr} {is js : List Nat} (h1 : LstOf R kn is l1) (h2 : LstOf R kn js l2) (hs : is.length + js.length ≤ 1000)
    (q : ∀ l k, Ext kn k → LstOf R k (is ++ js) l → Q (.ref l) k n) : W c (rCat (.ref l1) (.ref l2)) kn n Q := by
  obtain ⟨ps, a1, a2⟩ := h1
  obtain ⟨qs, b1, b2⟩ := h2
  refine r_cat a1 b1 (by rw [List.length_map, List.length_map, a2.len, b2.len]; exact hs) fun l hl => ?_
  have e := ext_new (o := .lst (ps.map V.ref ++ qs.map V.ref)) hl
  exact q l _ e ⟨ps ++ qs, by rw [List.map_append]; exact upd_same, (a2.append b2).imp (hR _ _ e)⟩
theorem w_pairV (T : Tx K mg) {v : V} {f s : Str} {C : Addr} {i : Nat} (h0 : σ[0]? = some (some v)) (hC : (clsL T)[i]? = some C) (hs : sg i = s) (oc : OexC K C) (hf : PySem.W.findIn K (.ref C) f = some none)
    (q : ∀ p k, Ext kn k → PairAt T f v k i p → Q (.ref p) k n) : W c (tTup (tCons (tMkV C (spX1 K f) [] (tCons (tVar 0) tNil)) (tCons (tC (.str s)) tNil)) σ) kn n Q := by
  refine w_tup (w_cons (w_mkV1 oc hf (w_cons (w_var h0 (w_nil ⟨v, rfl, fun a k e na ea => w_cons (w_c (w_nil ⟨show 2 ≤ 1000 by decide, fun p hp => ?_⟩))⟩)))))
  have e2 := ext_new (o := .tup [V.ref a, .str s]) hp
  subst hs
  exact q p _ (ext_tr e e2) ⟨a, C, upd_same, ea.ext e2, hC⟩
theorem w_pairK (T : Tx K mg) {v : V} {f s : Str} {C : Addr} {i : Nat} (h0 : σ[0]? = some (some v)) (hC : (clsL T)[i]? = some C) (hs : sg i = s) (oc : OexC K C) (hf : PySem.W.findIn K (.ref C) f = some none)
    (q : ∀ p k, Ext kn k → PairAt T f v k i p → Q (.ref p) k n) : W c (tTup (tCons (tMkK C 1 (spX1 K f) gRev (tCons (tVar 0) tNil)) (tCons (tC (.str s)) tNil)) σ) kn n Q := by
  refine w_tup (w_cons (w_mkK1 (fun _ _ => rfl) oc hf (w_cons (w_var h0 (w_nil ⟨v, rfl, fun a k e na ea => w_cons (w_c (w_nil ⟨show 2 ≤ 1000 by decide, fun p hp => ?_⟩))⟩)))))
  have e2 := ext_new (o := .tup [V.ref a, .str s]) hp
  subst hs
  exact q p _ (ext_tr e e2) ⟨a, C, upd_same, ea.ext e2, hC⟩
/-- (error, sign, error.f) -/
theorem w_rowV (T : Tx K mg) {v : V} {f s : Str} {C a : Addr} {i j : Nat} (h0 : σ[j]? = some (some (.ref a))) (ea : ErrAt kn a C [(f, v)]) (hC : (clsL T)[i]? = some C) (hs : sg i = s) (xf : XfC K C) (hf : PySem.W.findIn K (.ref C) f = some none)
    (q : ∀ p k, Ext kn k → RowAt T v k i p → Q (.ref p) k n) : W c (tTup (tCons (tVar j) (tCons (tC (.str s)) (tCons (tXv K (tVar j) f) tNil))) σ) kn n Q := by
  refine w_tup (w_cons (w_var h0 (w_cons (w_c (w_cons (w_xv (w_var h0 ⟨a, C, _, v, rfl, ea, xf, hf, by simp [List.lookup], w_nil ⟨show 3 ≤ 1000 by decide, fun p hp => ?_⟩⟩)))))))
  have e2 := ext_new (o := .tup [V.ref a, .str s, v]) hp
  subst hs
  exact q p _ e2 ⟨a, C, upd_same, ea.is.ext e2, hC⟩
end
theorem wg_gen {c : Cw} {gt : TG} {v : V} {σ : L2.St} {k : Hp} {b : Addr} {o : HO} {n : Nat} {N : L2.St → Hp → Nat → Prop} (hb : k b = none) (h : ∀ k1, Ext k k1 → k1 b = some o → WG c gt v σ k1 n N) : WG c gt v σ (upd k b o) n N := h _ (ext_new hb) upd_same
def bRows {K : PySem.W.Frag} {mg : Str → Option Value} (T : Tx K mg) (is : List Nat) : List V → Hp → AK → AXK → Prop := fun vs kn Q _ => ∃ v, vs = [v] ∧ ∀ l k', Ext kn k' → LstOf (RowAt T v) k' is l → Q (.ref l) k'
theorem mo_rows {K : PySem.W.Frag} {mg : Str → Option Value} (T : Tx K mg) {is : List Nat} : MonoX (bRows T is) := by
  rintro vs kn Q R E F h1 h2 ⟨v, b, h⟩
  exact ⟨v, b, fun l k e s => h1 _ _ (h l k e s)⟩

end NN

namespace NN
open PySem PySem.Spec PyProof.Rows L2 LamX AW ClX
open Tx1
section
variable {K : PySem.W.Frag} {mg : Str → Option Value}
theorem part_cls (T : Tx K mg) {i : Nat} {C : Addr} (h4 : 4 ≤ i) (h11 : i ≤ 11) (hC : (clsL T)[i]? = some C) : XfC K C ∧ PySem.W.findIn K (.ref C) "part" = some none := by
  have : i = 4 ∨ i = 5 ∨ i = 6 ∨ i = 7 ∨ i = 8 ∨ i = 9 ∨ i = 10 ∨ i = 11 := by omega
  rcases this with rfl | rfl | rfl | rfl | rfl | rfl | rfl | rfl
  · cases hC; exact ⟨T.xf_BadLengths, T.nx_BadLengths_part⟩
  · cases hC; exact ⟨T.xf_BadDays, T.nx_BadDays_part⟩
  · cases hC; exact ⟨T.xf_BadStay, T.nx_BadStay_part⟩
  · cases hC; exact ⟨T.xf_BadRule, T.nx_BadRule_part⟩
  · cases hC; exact ⟨T.xf_BadBook, T.nx_BadBook_part⟩
  · cases hC; exact ⟨T.xf_BadStretch, T.nx_BadStretch_part⟩
  · cases hC; exact ⟨T.xf_BadCalendar, T.nx_BadCalendar_part⟩
  · cases hC; exact ⟨T.xf_BadDoor, T.nx_BadDoor_part⟩
end
section
variable {P : Program} {w : World} {K : PySem.W.Frag} {mg : Str → Option Value} {base : Heap}
theorem ok__law_inputs (T : Tx K mg) : FnOk P w K mg base CX0 4 T.f__law_inputs T.d__law_inputs ["thing"] (liftX (bRows T [4, 5, 6, 7, 8, 9, 10, 11, 12, 13, 14, 15, 17])) := by
  refine T.F__law_inputs.ok sc__law_inputs (fun vs H Q E h => ?_) (fun cdv A outer s H vs Q E hr h => ?_)
  · obtain ⟨kn, _, _, v, rfl, _⟩ := h
    rfl
  · obtain ⟨kn, ex, nt, v, rfl, h⟩ := h
    refine ⟨_, (pss_cons (ps_set (i := 1) sc__law_inputs.nd rfl (by first | exact Or.inl rfl | exact Or.inr rfl) (pe_lst (pa_cons (pe_tup (pa_cons (pe_oexV T.x_BadLengths T.fi_BadLengths___init__ T.ti_BadLengths (ok_BadLengths___init__ T) (hr.mono (by decide)) T.bd_BadLengths___init__ .nil pass0 (by rfl) T.g_BadLengths (pa_cons (pv 0) pa_nil)) (pa_cons pe_str pa_nil))) (pa_cons (pe_tup (pa_cons (pe_oexK (ks := ["part"]) T.x_BadDays T.fi_BadDays___init__ T.ti_BadDays (ok_BadDays___init__ T) (hr.mono (by decide)) (kb_BadDays T) pass0 (by rfl) T.g_BadDays (pk_cons (pv 0) pk_nil)) (pa_cons pe_str pa_nil))) (pa_cons (pe_tup (pa_cons (pe_oexV T.x_BadStay T.fi_BadStay___init__ T.ti_BadStay (ok_BadStay___init__ T) (hr.mono (by decide)) T.bd_BadStay___init__ .nil pass0 (by rfl) T.g_BadStay (pa_cons (pv 0) pa_nil)) (pa_cons pe_str pa_nil))) pa_nil)))))
       (pss_cons (ps_set (i := 1) sc__law_inputs.nd rfl (by first | exact Or.inl rfl | exact Or.inr rfl) (pe_op op_cat (pv 1) (pe_lst (pa_cons (pe_tup (pa_cons (pe_oexK (ks := ["part"]) T.x_BadRule T.fi_BadRule___init__ T.ti_BadRule (ok_BadRule___init__ T) (hr.mono (by decide)) (kb_BadRule T) pass0 (by rfl) T.g_BadRule (pk_cons (pv 0) pk_nil)) (pa_cons pe_str pa_nil))) (pa_cons (pe_tup (pa_cons (pe_oexV T.x_BadBook T.fi_BadBook___init__ T.ti_BadBook (ok_BadBook___init__ T) (hr.mono (by decide)) T.bd_BadBook___init__ .nil pass0 (by rfl) T.g_BadBook (pa_cons (pv 0) pa_nil)) (pa_cons pe_str pa_nil))) (pa_cons (pe_tup (pa_cons (pe_oexK (ks := ["part"]) T.x_BadStretch T.fi_BadStretch___init__ T.ti_BadStretch (ok_BadStretch___init__ T) (hr.mono (by decide)) (kb_BadStretch T) pass0 (by rfl) T.g_BadStretch (pk_cons (pv 0) pk_nil)) (pa_cons pe_str pa_nil))) pa_nil))))))
       (pss_cons (ps_set (i := 1) sc__law_inputs.nd rfl (by first | exact Or.inl rfl | exact Or.inr rfl) (pe_op op_cat (pv 1) (pe_lst (pa_cons (pe_tup (pa_cons (pe_oexV T.x_BadCalendar T.fi_BadCalendar___init__ T.ti_BadCalendar (ok_BadCalendar___init__ T) (hr.mono (by decide)) T.bd_BadCalendar___init__ .nil pass0 (by rfl) T.g_BadCalendar (pa_cons (pv 0) pa_nil)) (pa_cons pe_str pa_nil))) (pa_cons (pe_tup (pa_cons (pe_oexK (ks := ["part"]) T.x_BadDoor T.fi_BadDoor___init__ T.ti_BadDoor (ok_BadDoor___init__ T) (hr.mono (by decide)) (kb_BadDoor T) pass0 (by rfl) T.g_BadDoor (pk_cons (pv 0) pk_nil)) (pa_cons pe_str pa_nil))) pa_nil)))))
       (pss_cons (ps_setLc (i := 2) (own := [("error", 3), ("sign", 4)]) (g := gTup K 2 (gCons (gName 3) (gCons (gName 4) gNil))) (by rfl) sc__law_inputs.nd rfl rfl (sw_true rfl rfl rfl (by decide +kernel)) (pi_list (pv 1)) (blkOk_by (own := [("error", 3), ("sign", 4)]) (N := ["thing", "made", "found", "error", "sign", "one", "two", "three", "four", "last"]) (sc := defScope s__law_inputs) (by decide +kernel)) (fun _ _ _ _ _ => (pg_tup (by rfl) (pgs_cons (pg_name (i := 3) sc__law_inputs.nd rfl (Or.inl rfl)) (pgs_cons (pg_name (i := 4) sc__law_inputs.nd rfl (Or.inl rfl)) pgs_nil)))) (fun _ _ _ _ _ => pts_nil) (fun _ _ _ _ _ => (pe_tup (pa_cons (pv 3) (pa_cons (pv 4) (pa_cons (show PE _ _ (tXv K (tVar 3) "part") from pe_xv (pv 3)) pa_nil))))))
       (pss_cons (ps_par (i := 5) (j := 6) (by rfl) sc__law_inputs.nd rfl rfl (by decide) rfl rfl (pa_cons (pe_oexV T.x_BadName T.fi_BadName___init__ T.ti_BadName (ok_BadName___init__ T) (hr.mono (by decide)) T.bd_BadName___init__ .nil pass0 (by rfl) T.g_BadName (pa_cons (pv 0) pa_nil)) (pa_cons (pe_oexK (ks := ["value"]) T.x_BadCount T.fi_BadCount___init__ T.ti_BadCount (ok_BadCount___init__ T) (hr.mono (by decide)) (kb_BadCount T) pass0 (by rfl) T.g_BadCount (pk_cons (pv 0) pk_nil)) pa_nil)) (by rfl))
       (pss_cons (ps_par (i := 7) (j := 8) (by rfl) sc__law_inputs.nd rfl rfl (by decide) rfl rfl (pa_cons (pe_oexK (ks := ["at"]) T.x_BadWish T.fi_BadWish___init__ T.ti_BadWish (ok_BadWish___init__ T) (hr.mono (by decide)) (kb_BadWish T) pass0 (by rfl) T.g_BadWish (pk_cons (pv 0) pk_nil)) (pa_cons (pe_oexV T.x_BadRow T.fi_BadRow___init__ T.ti_BadRow (ok_BadRow___init__ T) (hr.mono (by decide)) T.bd_BadRow___init__ .nil pass0 (by rfl) T.g_BadRow (pa_cons (pv 0) pa_nil)) pa_nil)) (by rfl))
       (pss_cons (ps_set (i := 2) sc__law_inputs.nd rfl (by first | exact Or.inl rfl | exact Or.inr rfl) (pe_op op_cat (pv 2) (pe_lst (pa_cons (pe_tup (pa_cons (pv 5) (pa_cons pe_str (pa_cons (show PE _ _ (tXv K (tVar 5) "value") from pe_xv (pv 5)) pa_nil)))) (pa_cons (pe_tup (pa_cons (pv 6) (pa_cons pe_str (pa_cons (show PE _ _ (tXv K (tVar 6) "value") from pe_xv (pv 6)) pa_nil)))) pa_nil)))))
       (pss_cons (ps_set (i := 9) sc__law_inputs.nd rfl (by first | exact Or.inl rfl | exact Or.inr rfl) (pe_oexV T.x_BadLine T.fi_BadLine___init__ T.ti_BadLine (ok_BadLine___init__ T) (hr.mono (by decide)) T.bd_BadLine___init__ .nil pass0 (by rfl) T.g_BadLine (pa_cons (pv 0) pa_nil)))
       (pss_one (ps_ret (pe_op op_cat (pv 2) (pe_lst (pa_cons (pe_tup (pa_cons (pv 7) (pa_cons pe_str (pa_cons (show PE _ _ (tXv K (tVar 7) "at") from pe_xv (pv 7)) pa_nil)))) (pa_cons (pe_tup (pa_cons (pv 8) (pa_cons pe_str (pa_cons (show PE _ _ (tXv K (tVar 8) "at") from pe_xv (pv 8)) pa_nil)))) (pa_cons (pe_tup (pa_cons (pv 9) (pa_cons pe_str (pa_cons (show PE _ _ (tXv K (tVar 9) "word") from pe_xv (pv 9)) pa_nil)))) pa_nil))))))))))))))), ?_⟩
    refine body_of (pure_start ex nt) ?_
    refine s_seq (s_asg (w_lst (w_cons (w_pairV T (i := 4) rfl rfl (by decide +kernel) T.x_BadLengths T.nx_BadLengths_part fun p0 k0 e0 f0 => w_cons (w_pairK T (i := 5) rfl rfl (by decide +kernel) T.x_BadDays T.nx_BadDays_part fun p1 k1 e1 f1 => w_cons (w_pairV T (i := 6) rfl rfl (by decide +kernel) T.x_BadStay T.nx_BadStay_part fun p2 k2 e2 f2 => w_nil ⟨show 3 ≤ 1000 by decide, fun l2 hl2 => ?_⟩))))))
    refine wg_gen hl2 fun kA en fn => g_name ?_
    have hn : LstOf (PairAt T "part" v) kA [4, 5, 6] l2 := ⟨[p0, p1, p2], fn, (.cons (PairAt.ext (ext_tr e1 (ext_tr e2 en)) _ _ f0) (.cons (PairAt.ext (ext_tr e2 en) _ _ f1) (.cons (PairAt.ext en _ _ f2) .nil)))⟩
    have eA := ext_tr e0 (ext_tr e1 (ext_tr e2 en))
    clear f0 f1 f2 e0 e1 e2 en fn hl2
    have ec := eA
    clear eA
    refine s_seq (s_asg (w_op (w_var rfl (w_lst (w_cons (w_pairK T (i := 7) rfl rfl (by decide +kernel) T.x_BadRule T.nx_BadRule_part fun p0 k0 e0 f0 => w_cons (w_pairV T (i := 8) rfl rfl (by decide +kernel) T.x_BadBook T.nx_BadBook_part fun p1 k1 e1 f1 => w_cons (w_pairK T (i := 9) rfl rfl (by decide +kernel) T.x_BadStretch T.nx_BadStretch_part fun p2 k2 e2 f2 => w_nil ⟨show 3 ≤ 1000 by decide, fun l2 hl2 => ?_⟩))))))))
    refine w_gen hl2 fun kA en fn => ?_
    have hn2 : LstOf (PairAt T "part" v) kA [7, 8, 9] l2 := ⟨[p0, p1, p2], fn, (.cons (PairAt.ext (ext_tr e1 (ext_tr e2 en)) _ _ f0) (.cons (PairAt.ext (ext_tr e2 en) _ _ f1) (.cons (PairAt.ext en _ _ f2) .nil)))⟩
    have eA := ext_tr e0 (ext_tr e1 (ext_tr e2 en))
    have hn := LstOf.ext (fun _ _ => PairAt.ext) eA hn
    have ec := ext_tr ec eA
    clear eA en fn hl2
    refine r_catR (fun _ _ => PairAt.ext) hn hn2 (by decide) fun l kC eC hn => g_name ?_
    have ec := ext_tr ec eC
    clear hn2 eC
    refine s_seq (s_asg (w_op (w_var rfl (w_lst (w_cons (w_pairV T (i := 10) rfl rfl (by decide +kernel) T.x_BadCalendar T.nx_BadCalendar_part fun p0 k0 e0 f0 => w_cons (w_pairK T (i := 11) rfl rfl (by decide +kernel) T.x_BadDoor T.nx_BadDoor_part fun p1 k1 e1 f1 => w_nil ⟨show 2 ≤ 1000 by decide, fun l2 hl2 => ?_⟩)))))))
    refine w_gen hl2 fun kA en fn => ?_
    have hn2 : LstOf (PairAt T "part" v) kA [10, 11] l2 := ⟨[p0, p1], fn, (.cons (PairAt.ext (ext_tr e1 en) _ _ f0) (.cons (PairAt.ext en _ _ f1) .nil))⟩
    have eA := ext_tr e0 (ext_tr e1 en)
    have hn := LstOf.ext (fun _ _ => PairAt.ext) eA hn
    have ec := ext_tr ec eA
    clear eA en fn hl2
    refine r_catR (fun _ _ => PairAt.ext) hn hn2 (by decide) fun l kC eC hn => g_name ?_
    have ec := ext_tr ec eC
    clear hn2 eC
    have hn : LstOf (PairAt T "part" v) kC [4, 5, 6, 7, 8, 9, 10, 11] l := hn
    obtain ⟨ps, z1, z2⟩ := hn
    have pl := z2.len
    walk_at "w"
    refine w_lcN (fun j y k => ∀ i, ([4, 5, 6, 7, 8, 9, 10, 11] : List Nat)[j]? = some i → ∃ p, y = .ref p ∧ RowAt T v k i p) (fun j y k k' e h i hi => ?_) (fun j y k D zs o hD h i hi => ?_) (i_list (w_var rfl ⟨l, _, rfl, z1, ?_⟩))
    · obtain ⟨p, a, b⟩ := h i hi
      exact ⟨p, a, RowAt.ext e _ _ b⟩
    · obtain ⟨p, a, b⟩ := h i hi
      exact ⟨p, a, RowAt.put hD _ _ b⟩
    refine ⟨_, _, gives_lst, by rw [List.length_map, pl]; decide, fun k e => e _ _ z1, fun j x hx k ek => ?_, fun D k ys ek nD kD ly hy => ?_⟩
    · rw [List.getElem?_map] at hx
      obtain ⟨p, hp, rfl⟩ := Option.map_eq_some_iff.1 hx
      obtain ⟨i, hi, a, C, b1, b2, b3⟩ := z2.get hp
      have hm : ∀ x ∈ ([4, 5, 6, 7, 8, 9, 10, 11] : List Nat), 4 ≤ x ∧ x ≤ 11 := by decide
      have hm := hm i (List.mem_of_getElem? hi)
      obtain ⟨x1, x2⟩ := part_cls T hm.1 hm.2 b3
      have b2 := b2.ext ek
      refine g_tup (ek _ _ b1) rfl (g_cons (g_name (g_cons (g_name (g_nil ⟨rfl, rfl, rfl, ?_⟩)))))
      refine w_tup (w_cons (w_var rfl (w_cons (w_var rfl (w_cons (w_xv (w_var rfl ⟨a, C, _, v, rfl, b2, x1, x2, by simp [List.lookup], w_nil ⟨show 3 ≤ 1000 by decide, fun q hq => ⟨rfl, ext_new hq, fun i' hi' => ?_⟩⟩⟩)))))))
      rw [hi] at hi'
      cases hi'
      exact ⟨q, rfl, a, C, upd_same, b2.is.ext (ext_new hq), b3⟩
    obtain ⟨qs, rfl, hq⟩ := all2_of (R := RowAt T v k) [4, 5, 6, 7, 8, 9, 10, 11] ys (by rw [ly, List.length_map, pl]) fun j i y h1 h2 => hy j y h1 i h2
    have hr : LstOf (RowAt T v) k [4, 5, 6, 7, 8, 9, 10, 11] D := ⟨qs, kD, hq⟩
    have ec := ext_tr ec ek
    clear hy hq kD
    walk_at "w"
    refine w_mkV1 T.x_BadName T.nx_BadName_value (w_cons (w_var rfl (w_nil ⟨v, rfl, fun a1 k1 e1 _ r1 => ?_⟩)))
    walk_at "w"
    refine w_mkK1 (fun _ _ => rfl) T.x_BadCount T.nx_BadCount_value (w_cons (w_var rfl (w_nil ⟨v, rfl, fun a2 k2 e2 _ r2 => ?_⟩)))
    walk_at "w"
    refine ⟨_, _, rfl, ?_⟩
    walk_at "w"
    refine w_mkK1 (fun _ _ => rfl) T.x_BadWish T.nx_BadWish_at (w_cons (w_var rfl (w_nil ⟨v, rfl, fun a3 k3 e3 _ r3 => ?_⟩)))
    walk_at "w"
    refine w_mkV1 T.x_BadRow T.nx_BadRow_at (w_cons (w_var rfl (w_nil ⟨v, rfl, fun a4 k4 e4 _ r4 => ?_⟩)))
    walk_at "w"
    refine ⟨_, _, rfl, ?_⟩
    have r1 := r1.ext (ext_tr e2 (ext_tr e3 e4))
    have r2 := r2.ext (ext_tr e3 e4)
    have r3 := r3.ext e4
    have hr := LstOf.ext (fun _ _ => RowAt.ext) (ext_tr e1 (ext_tr e2 (ext_tr e3 e4))) hr
    have ec := ext_tr ec (ext_tr e1 (ext_tr e2 (ext_tr e3 e4)))
    clear e1 e2 e3 e4
    refine s_seq (s_asg (w_op (w_var rfl (w_lst (w_cons (w_rowV T (j := 5) (i := 12) rfl (r1) rfl (by decide +kernel) T.xf_BadName T.nx_BadName_value fun p0 m0 d0 g0 => w_cons (w_rowV T (j := 6) (i := 13) rfl (r2.ext d0) rfl (by decide +kernel) T.xf_BadCount T.nx_BadCount_value fun p1 m1 d1 g1 => w_nil ⟨show 2 ≤ 1000 by decide, fun l2 hl2 => ?_⟩)))))))
    refine w_gen hl2 fun kA en fn => ?_
    have hn2 : LstOf (RowAt T v) kA [12, 13] l2 := ⟨[p0, p1], fn, (.cons (RowAt.ext (ext_tr d1 en) _ _ g0) (.cons (RowAt.ext en _ _ g1) .nil))⟩
    have eA := ext_tr d0 (ext_tr d1 en)
    have r3 := r3.ext eA
    have r4 := r4.ext eA
    refine r_catR (fun _ _ => RowAt.ext) (LstOf.ext (fun _ _ => RowAt.ext) eA hr) hn2 (by decide) fun l kC eC hr => g_name ?_
    have r3 := r3.ext eC
    have r4 := r4.ext eC
    have ec := ext_tr ec (ext_tr eA eC)
    clear eC eA en fn hl2 hn2
    walk_at "w"
    refine w_mkV1 T.x_BadLine T.nx_BadLine_word (w_cons (w_var rfl (w_nil ⟨v, rfl, fun a5 k5 e5 _ r5 => ?_⟩)))
    have r3 := r3.ext e5
    have r4 := r4.ext e5
    have hr := LstOf.ext (fun _ _ => RowAt.ext) e5 hr
    have ec := ext_tr ec e5
    refine s_ret (w_op (w_var rfl (w_lst (w_cons (w_rowV T (j := 7) (i := 14) rfl (r3) rfl (by decide +kernel) T.xf_BadWish T.nx_BadWish_at fun p0 m0 d0 g0 => w_cons (w_rowV T (j := 8) (i := 15) rfl (r4.ext d0) rfl (by decide +kernel) T.xf_BadRow T.nx_BadRow_at fun p1 m1 d1 g1 => w_cons (w_rowV T (j := 9) (i := 17) rfl (r5.ext (ext_tr d0 d1)) rfl (by decide +kernel) T.xf_BadLine T.nx_BadLine_word fun p2 m2 d2 g2 => w_nil ⟨show 3 ≤ 1000 by decide, fun l2 hl2 => ?_⟩)))))))
    refine w_gen hl2 fun kA en fn => ?_
    have hn2 : LstOf (RowAt T v) kA [14, 15, 17] l2 := ⟨[p0, p1, p2], fn, (.cons (RowAt.ext (ext_tr d1 (ext_tr d2 en)) _ _ g0) (.cons (RowAt.ext (ext_tr d2 en) _ _ g1) (.cons (RowAt.ext en _ _ g2) .nil)))⟩
    have eA := ext_tr d0 (ext_tr d1 (ext_tr d2 en))
    refine r_catR (fun _ _ => RowAt.ext) (LstOf.ext (fun _ _ => RowAt.ext) eA hr) hn2 (by decide) fun l kC eC hr => ?_
    exact h l kC (ext_tr ec (ext_tr eA eC)) hr 0
end

end NN

namespace NN
open PySem PySem.Spec PyProof.Rows L2 LamX AW ClX
open Tx1
theorem s_par3 {c : Cw} {kn : Hp} {n : Nat} {σ : L2.St} {D : AE} {i j l : Nat} {ta : TA} (h : W c (ta σ) kn n fun vs kn1 n1 => ∃ u v w, vs = [u, v, w] ∧ D.nx (((σ.set i (some u)).set j (some v)).set l (some w)) kn1 n1) : WS c (tPar3 i j l ta) D σ kn n :=
  fun H g D' f => h H g _ fun vs kn1 n1 H1 ⟨u, v, w, e, hq⟩ g1 => ⟨u, v, w, e, f.nx _ _ _ _ hq g1⟩
section
variable {P : Program} {w : World} {K : PySem.W.Frag} {mg : Str → Option Value} {base : Heap}
theorem ok__law_others (T : Tx K mg) : FnOk P w K mg base CX0 4 T.f__law_others T.d__law_others ["thing"] (liftX (bRows T [18, 19, 20, 21, 22, 23])) := by
  refine T.F__law_others.ok sc__law_others (fun vs H Q E h => ?_) (fun cdv A outer s H vs Q E hr h => ?_)
  · obtain ⟨kn, _, _, v, rfl, _⟩ := h
    rfl
  · obtain ⟨kn, ex, nt, v, rfl, h⟩ := h
    refine ⟨_, (pss_cons (ps_par3 (i := 1) (j := 2) (l := 3) (by rfl) sc__law_others.nd rfl rfl rfl (by decide) (by decide) (by decide) rfl rfl rfl (pa_cons (pe_oexV T.x_Taken T.fi_Taken___init__ T.ti_Taken (ok_Taken___init__ T) (hr.mono (by decide)) T.bd_Taken___init__ .nil pass0 (by rfl) T.g_Taken (pa_cons (pv 0) pa_nil)) (pa_cons (pe_oexK (ks := ["name"]) T.x_NoGuest T.fi_NoGuest___init__ T.ti_NoGuest (ok_NoGuest___init__ T) (hr.mono (by decide)) (kb_NoGuest T) pass0 (by rfl) T.g_NoGuest (pk_cons (pv 0) pk_nil)) (pa_cons (pe_oexV T.x_NotLet T.fi_NotLet___init__ T.ti_NotLet (ok_NotLet___init__ T) (hr.mono (by decide)) T.bd_NotLet___init__ .nil pass0 (by rfl) T.g_NotLet (pa_cons (pv 0) pa_nil)) pa_nil))) (by rfl))
       (pss_cons (ps_set (i := 4) sc__law_others.nd rfl (by first | exact Or.inl rfl | exact Or.inr rfl) (pe_lst (pa_cons (pe_tup (pa_cons (pv 1) (pa_cons pe_str (pa_cons (show PE _ _ (tXv K (tVar 1) "name") from pe_xv (pv 1)) pa_nil)))) (pa_cons (pe_tup (pa_cons (pv 2) (pa_cons pe_str (pa_cons (show PE _ _ (tXv K (tVar 2) "name") from pe_xv (pv 2)) pa_nil)))) (pa_cons (pe_tup (pa_cons (pv 3) (pa_cons pe_str (pa_cons (show PE _ _ (tXv K (tVar 3) "stay") from pe_xv (pv 3)) pa_nil)))) pa_nil)))))
       (pss_cons (ps_par3 (i := 1) (j := 2) (l := 3) (by rfl) sc__law_others.nd rfl rfl rfl (by decide) (by decide) (by decide) rfl rfl rfl (pa_cons (pe_oexK (ks := ["stay"]) T.x_Outside T.fi_Outside___init__ T.ti_Outside (ok_Outside___init__ T) (hr.mono (by decide)) (kb_Outside T) pass0 (by rfl) T.g_Outside (pk_cons (pv 0) pk_nil)) (pa_cons (pe_oexV T.x_Full T.fi_Full___init__ T.ti_Full (ok_Full___init__ T) (hr.mono (by decide)) T.bd_Full___init__ .nil pass0 (by rfl) T.g_Full (pa_cons (pv 0) pa_nil)) (pa_cons (pe_oexK (ks := ["name"]) T.x_Loose T.fi_Loose___init__ T.ti_Loose (ok_Loose___init__ T) (hr.mono (by decide)) (kb_Loose T) pass0 (by rfl) T.g_Loose (pk_cons (pv 0) pk_nil)) pa_nil))) (by rfl))
       (pss_one (ps_ret (pe_op op_cat (pv 4) (pe_lst (pa_cons (pe_tup (pa_cons (pv 1) (pa_cons pe_str (pa_cons (show PE _ _ (tXv K (tVar 1) "stay") from pe_xv (pv 1)) pa_nil)))) (pa_cons (pe_tup (pa_cons (pv 2) (pa_cons pe_str (pa_cons (show PE _ _ (tXv K (tVar 2) "night") from pe_xv (pv 2)) pa_nil)))) (pa_cons (pe_tup (pa_cons (pv 3) (pa_cons pe_str (pa_cons (show PE _ _ (tXv K (tVar 3) "name") from pe_xv (pv 3)) pa_nil)))) pa_nil)))))))))), ?_⟩
    refine body_of (pure_start ex nt) ?_
    refine s_seq (s_par3 (w_cons (w_mkV1 T.x_Taken T.nx_Taken_name (w_cons (w_var rfl (w_nil ⟨v, rfl, fun a1 k1 e1 _ r1 => w_cons (w_mkK1 (fun _ _ => rfl) T.x_NoGuest T.nx_NoGuest_name (w_cons (w_var rfl (w_nil ⟨v, rfl, fun a2 k2 e2 _ r2 => w_cons (w_mkV1 T.x_NotLet T.nx_NotLet_stay (w_cons (w_var rfl (w_nil ⟨v, rfl, fun a3 k3 e3 _ r3 => w_nil ?_⟩))))⟩))))⟩))))))
    refine ⟨_, _, _, rfl, ?_⟩
    have r1 := r1.ext (ext_tr e2 e3)
    have r2 := r2.ext e3
    have ec := ext_tr e1 (ext_tr e2 e3)
    clear e1 e2 e3
    refine s_seq (s_asg (w_lst (w_cons (w_rowV T (j := 1) (i := 18) rfl (r1) rfl (by decide +kernel) T.xf_Taken T.nx_Taken_name fun p0 m0 d0 g0 => w_cons (w_rowV T (j := 2) (i := 19) rfl (r2.ext d0) rfl (by decide +kernel) T.xf_NoGuest T.nx_NoGuest_name fun p1 m1 d1 g1 => w_cons (w_rowV T (j := 3) (i := 20) rfl (r3.ext (ext_tr d0 d1)) rfl (by decide +kernel) T.xf_NotLet T.nx_NotLet_stay fun p2 m2 d2 g2 => w_nil ⟨show 3 ≤ 1000 by decide, fun l2 hl2 => ?_⟩))))))
    refine wg_gen hl2 fun kA en fn => g_name ?_
    have hn2 : LstOf (RowAt T v) kA [18, 19, 20] l2 := ⟨[p0, p1, p2], fn, (.cons (RowAt.ext (ext_tr d1 (ext_tr d2 en)) _ _ g0) (.cons (RowAt.ext (ext_tr d2 en) _ _ g1) (.cons (RowAt.ext en _ _ g2) .nil)))⟩
    have eA := ext_tr d0 (ext_tr d1 (ext_tr d2 en))
    have hr1 := hn2
    have ec := ext_tr ec eA
    clear eA en fn hl2 hn2
    refine s_seq (s_par3 (w_cons (w_mkK1 (fun _ _ => rfl) T.x_Outside T.nx_Outside_stay (w_cons (w_var rfl (w_nil ⟨v, rfl, fun a4 k4 e4 _ r4 => w_cons (w_mkV1 T.x_Full T.nx_Full_night (w_cons (w_var rfl (w_nil ⟨v, rfl, fun a5 k5 e5 _ r5 => w_cons (w_mkK1 (fun _ _ => rfl) T.x_Loose T.nx_Loose_name (w_cons (w_var rfl (w_nil ⟨v, rfl, fun a6 k6 e6 _ r6 => w_nil ?_⟩))))⟩))))⟩))))))
    refine ⟨_, _, _, rfl, ?_⟩
    have r4 := r4.ext (ext_tr e5 e6)
    have r5 := r5.ext e6
    have e456 := ext_tr e4 (ext_tr e5 e6)
    have hr1 := LstOf.ext (fun _ _ => RowAt.ext) e456 hr1
    have ec := ext_tr ec e456
    refine s_ret (w_op (w_var rfl (w_lst (w_cons (w_rowV T (j := 1) (i := 21) rfl (r4) rfl (by decide +kernel) T.xf_Outside T.nx_Outside_stay fun p0 m0 d0 g0 => w_cons (w_rowV T (j := 2) (i := 22) rfl (r5.ext d0) rfl (by decide +kernel) T.xf_Full T.nx_Full_night fun p1 m1 d1 g1 => w_cons (w_rowV T (j := 3) (i := 23) rfl (r6.ext (ext_tr d0 d1)) rfl (by decide +kernel) T.xf_Loose T.nx_Loose_name fun p2 m2 d2 g2 => w_nil ⟨show 3 ≤ 1000 by decide, fun l2 hl2 => ?_⟩)))))))
    refine w_gen hl2 fun kA en fn => ?_
    have hn2 : LstOf (RowAt T v) kA [21, 22, 23] l2 := ⟨[p0, p1, p2], fn, (.cons (RowAt.ext (ext_tr d1 (ext_tr d2 en)) _ _ g0) (.cons (RowAt.ext (ext_tr d2 en) _ _ g1) (.cons (RowAt.ext en _ _ g2) .nil)))⟩
    have eA := ext_tr d0 (ext_tr d1 (ext_tr d2 en))
    refine r_catR (fun _ _ => RowAt.ext) (LstOf.ext (fun _ _ => RowAt.ext) eA hr1) hn2 (by decide) fun l kC eC hr => ?_
    exact h l kC (ext_tr ec (ext_tr eA eC)) hr 0
end

end NN

namespace NN
open PySem PySem.Spec PyProof.Rows L2 LamX AW ClX
open Tx1
/-! ### the law -/
theorem row_in : ∀ i ∈ ([4, 5, 6, 7, 8, 9, 10, 11, 12, 13, 14, 15, 17] : List Nat), rowR i 0 27 = [Str.ofString "input", sg i] := by decide +kernel
theorem row_re : ∀ i ∈ ([18, 19, 20, 21, 22, 23] : List Nat), rowR i 0 27 = [Str.ofString "refused", sg i] := by decide +kernel
theorem row_16 : rowR 16 0 27 = [Str.ofString "input", Str.ofString "text"] := by decide +kernel
theorem row_24 : rowR 24 0 27 = [Str.ofString "refused", Str.ofString "many"] := by decide +kernel
theorem row_25 : rowR 25 0 27 = [Str.ofString "answer", Str.ofString "dead"] := by decide +kernel
theorem row_26 : rowR 26 0 27 = [Str.ofString "answer", Str.ofString "deed"] := by decide +kernel
theorem row_27 : rowR 27 0 27 = [Str.ofString "answer", Str.ofString "house"] := by decide +kernel
theorem row_0 : rowR 0 0 27 = [] := by decide +kernel
theorem row_1 : rowR 1 0 27 = [Str.ofString "input"] := by decide +kernel
theorem row_2 : rowR 2 0 27 = [Str.ofString "refused"] := by decide +kernel
theorem row_3 : rowR 3 0 27 = [Str.ofString "answer"] := by decide +kernel
theorem dp_strs {K : PySem.W.Frag} {H : Hp} : ∀ ns : List Str, DpAll K H (ns.map V.str) (ns.map PyData.str)
  | [] => .nil
  | n :: r => .cons (.str n) (dp_strs r)
theorem sh_in : ∀ i ∈ ([4, 5, 6, 7, 8, 9, 10, 11, 12, 13, 14, 15, 17] : List Nat), SeqAt.shaped (.list [.str (Str.ofString "input"), .str (sg i)]) = true := by decide +kernel
theorem sh_re : ∀ i ∈ ([18, 19, 20, 21, 22, 23] : List Nat), SeqAt.shaped (.list [.str (Str.ofString "refused"), .str (sg i)]) = true := by decide +kernel
section
variable {c : Cw} {kn : Hp} {n : Nat} {σ : L2.St} {Q : V → Hp → Nat → Prop} {K : PySem.W.Frag} {mg : Str → Option Value}
/-- _law_raised(error) != [group, sign] -/
theorem w_neR (T : Tx K mg) {te : TE} {tl : TA} {E : XK} {s1 s2 : Str} (h : W c (te σ) kn n fun x k1 n1 => ∃ a i C, x = .ref a ∧ (clsL T)[i]? = some C ∧ IsErr k1 a C ∧ rowR i 0 27 = [s1, s2] ∧ SeqAt.shaped (.list [.str s1, .str s2]) = true ∧
      (∀ kk (R : List V → Hp → Nat → Prop), Ext k1 kk → R [.str s1, .str s2] kk n1 → W c (tl σ) kk n1 R) ∧ ∀ kk, Ext k1 kk → Q (.bl false) kk n1) : W c (tOp (rNeD K) (tCall (liftX (bRaised T)) [] E (tCons te tNil)) (tLstB tl) σ) kn n Q := by
  refine w_op (w_call (EA := fun _ _ _ _ => False) (mo_raised T) err_no (w_cons (h.mono fun x k1 n1 hx => w_nil ?_)))
  obtain ⟨a, i, C, rfl, hC, he, hr, hsh, hl, q⟩ := hx
  refine ⟨a, i, C, rfl, hC, he, fun l k2 e2 f2 => ?_⟩
  rw [hr] at f2
  refine w_lstB (hl k2 _ e2 ⟨show 2 ≤ 1000 by decide, fun b hb _ => w_gen hb fun k3 e3 f3 => ?_⟩)
  refine r_ne_d (d := .list [.str s1, .str s2]) (e := .list [.str s1, .str s2]) (.lst (sql (e3 _ _ f2)) (dp_strs [s1, s2])) (.lst (sql f3) (dp_strs [s1, s2])) hsh hsh ?_
  have ee : PyData.eqv (.list [.str s1, .str s2]) (.list [.str s1, .str s2]) = true := by simp [PyData.eqv, PyData.eqvAll]
  rw [ee]
  exact q k3 (ext_tr e2 e3)
theorem ds_long : ∀ (ds : List PyData), (∀ d ∈ ds, d.shown.length ≤ 100) → ((PyData.shownAll ds).map (·.length)).sum ≤ 100 * ds.length ∧ (PyData.shownAll ds).length = ds.length
  | [], _ => ⟨Nat.le_refl _, rfl⟩
  | d :: ds, h => by
    obtain ⟨h1, h2⟩ := ds_long ds fun x hx => h x (.tail _ hx)
    have h3 := h d (.head _)
    simp only [PyData.shownAll, List.map_cons, List.sum_cons, List.length_cons]
    omega
theorem ds_deep : ∀ (ds : List PyData), (∀ d ∈ ds, d.depth ≤ 3) → PyData.depthAll ds ≤ 3
  | [], _ => by simp [PyData.depthAll]
  | d :: ds, h => by
    have h1 := ds_deep ds fun x hx => h x (.tail _ hx)
    have h3 := h d (.head _)
    simp only [PyData.depthAll]
    omega
theorem ds_show : ∀ (ds : List PyData), (∀ d ∈ ds, d.showable = true) → PyData.showableAll ds = true
  | [], _ => by simp [PyData.showableAll]
  | d :: ds, h => by
    simp only [PyData.showableAll, h d (.head _), Bool.true_and]
    exact ds_show ds fun x hx => h x (.tail _ hx)
theorem ths {k : Hp} : ∀ {vs : List V} {ds : List PyData}, (∀ (j : Nat) (v : V) (d : PyData), vs[j]? = some v → ds[j]? = some d → Th k v d) → vs.length = ds.length → DqAll k vs ds
  | [], [], _, _ => .nil
  | v :: vs, d :: ds, h, hl => .cons (h 0 v d rfl rfl).is (ths (fun j v d h1 h2 => h (j + 1) v d h1 h2) (Nat.succ.inj hl))
  | [], _ :: _, _, hl => by cases hl
  | _ :: _, [], _, hl => by cases hl
/-- repr([..]) != repr([..]) of the very same things -/
theorem w_neRepr {ta tb : TA} {vs : List V} {ds : List PyData} (hl : vs.length ≤ 20) (hz : DqAll kn vs ds) (h1 : ∀ d ∈ ds, d.showable = true) (h2 : ∀ d ∈ ds, d.depth ≤ 3) (h3 : ∀ d ∈ ds, d.shown.length ≤ 100) (hd : ds.length ≤ 20)
    (ha : ∀ R : List V → Hp → Nat → Prop, R vs kn n → W c (ta σ) kn n R) (hb : ∀ kk (R : List V → Hp → Nat → Prop), Ext kn kk → R vs kk n → W c (tb σ) kk n R) (q : ∀ kk, Ext kn kk → Q (.bl false) kk n) :
    W c (tOp rNe (tCB rReprQ (tCons (tLstB ta) tNil)) (tCB rReprQ (tCons (tLstB tb) tNil)) σ) kn n Q := by
  obtain ⟨b1, b2⟩ := ds_long ds h3
  have sh : (PyData.shown (.list ds)).length ≤ sizeLine := by
    simp only [PyData.shown]
    refine Nat.le_trans (listText_len_le _) ?_
    have : 5000 ≤ sizeLine := by rw [sizeLine_eq]; decide
    omega
  have dp : PyData.depth (.list ds) ≤ 64 := by
    have := ds_deep ds h2
    simp only [PyData.depth]
    omega
  refine w_op (w_cb (w_cons (w_lstB (ha _ ⟨by omega, fun x hx sx => w_gen hx fun k1 e1 f1 => w_nil (r_reprQL f1 sx (dqa_ext e1 hz) (ds_show ds h1) dp sh ?_)⟩))))
  refine w_cb (w_cons (w_lstB (hb k1 _ e1 ⟨by omega, fun y hy sy => w_gen hy fun k2 e2 f2 => w_nil (r_reprQL f2 sy (dqa_ext (ext_tr e1 e2) hz) (ds_show ds h1) dp sh ?_)⟩)))
  exact r_ne rfl (by rw [decide_eq_true rfl]; exact q k2 (ext_tr e1 e2))
end
def spLaw {K : PySem.W.Frag} {mg : Str → Option Value} (_ : Tx K mg) : Sp := fun vs H Q _ => ∃ (sc : Addr) (ns : List Int), vs = [.ref sc] ∧ SqL K H sc (ns.map V.int) ∧ ∀ H', Q (.bl true) H'
theorem gname_run {i : Nat} {v : V} {σ : L2.St} {H : Hp} {N : L2.St → Hp → Prop} (h : N (σ.set i (some v)) H) : gName i v σ H N := h
theorem tabs_nil {H : Hp} : Tabs [] H := fun p hp => by cases hp
section
variable {P : Program} {w : World} {K : PySem.W.Frag} {mg : Str → Option Value} {base : Heap}
theorem ok_law (T : Tx K mg) : L2.FnG P w K mg base CX0 40 T.f_law T.d_law ["script"] (spLaw T) := by
  refine T.F_law.okG sc_law (fun vs H Q E h => ?_) (fun cdv A outer s H vs Q E hr hg h => ?_)
  · obtain ⟨sc, ns, rfl, _⟩ := h
    rfl
  · obtain ⟨sc, ns, rfl, hs, h⟩ := h
    refine ⟨_, (pss_cons (ps_set (i := 1) sc_law.nd rfl (by first | exact Or.inl rfl | exact Or.inr rfl) (pe_call (ok__law_pen T) (hr.mono (by decide)) (by rfl) T.g__law_pen T.F__law_pen.kp T.bd__law_pen .nil pass0 (pa_cons (pv 0) pa_nil)))
       (pss_cons (ps_for PassesOwn.never rfl (pi_range1 (by rfl) T.b_range (pa_cons pe_int pa_nil)) (pg_name (i := 2) sc_law.nd rfl (by first | exact Or.inl rfl | exact Or.inr rfl))
       (pss_cons (ps_par (i := 3) (j := 4) (by rfl) sc_law.nd rfl rfl (by decide) rfl rfl (pa_cons (pe_call (ok__law_value T) (hr.mono (by decide)) (by rfl) T.g__law_value T.F__law_value.kp T.bd__law_value .nil pass0 (pa_cons (pv 1) pa_nil)) (pa_cons (pe_call (ok__law_value T) (hr.mono (by decide)) (by rfl) T.g__law_value T.F__law_value.kp T.bd__law_value .nil pass0 (pa_cons (pv 1) pa_nil)) pa_nil)) (by rfl))
       (pss_cons (ps_for PassesOwn.never rfl (pi_list (pe_lstB (pa_cons (pe_tup (pa_cons pe_str (pa_cons (pe_call (ok__law_inputs T) (hr.mono (by decide)) (by rfl) T.g__law_inputs T.F__law_inputs.kp T.bd__law_inputs .nil pass0 (pa_cons (pv 3) pa_nil)) pa_nil))) (pa_cons (pe_tup (pa_cons pe_str (pa_cons (pe_call (ok__law_others T) (hr.mono (by decide)) (by rfl) T.g__law_others T.F__law_others.kp T.bd__law_others .nil pass0 (pa_cons (pv 3) pa_nil)) pa_nil))) pa_nil)))) (pg_tup (by rfl) (pgs_cons (pg_name (i := 5) sc_law.nd rfl (by first | exact Or.inl rfl | exact Or.inr rfl)) (pgs_cons (pg_name (i := 6) sc_law.nd rfl (by first | exact Or.inl rfl | exact Or.inr rfl)) pgs_nil)))
       (pss_one (ps_for PassesOwn.never rfl (pi_list (pv 6)) (pg_tup (by rfl) (pgs_cons (pg_name (i := 7) sc_law.nd rfl (by first | exact Or.inl rfl | exact Or.inr rfl)) (pgs_cons (pg_name (i := 8) sc_law.nd rfl (by first | exact Or.inl rfl | exact Or.inr rfl)) (pgs_cons (pg_name (i := 9) sc_law.nd rfl (by first | exact Or.inl rfl | exact Or.inr rfl)) pgs_nil))))
       (pss_one (ps_if (PW.pt (pw_or (pt_cmpR op_ne (pe_callB (c_reprQ hg (room_u128 hr)) (by rfl) T.b_repr (by decide +kernel) (pa_cons (pv 9) pa_nil)) (pe_callB (c_reprQ hg (room_u128 hr)) (by rfl) T.b_repr (by decide +kernel) (pa_cons (pv 3) pa_nil)) (nomark _)) (pw_or1 (pt_cmpR (op_neD hr.units) (pe_call (ok__law_raised T) (hr.mono (by decide)) (by rfl) T.g__law_raised T.F__law_raised.kp T.bd__law_raised .nil pass0 (pa_cons (pv 7) pa_nil)) (pe_lstB (pa_cons (pv 5) (pa_cons (pv 8) pa_nil))) (nomark _)))))
       (pss_one (ps_ret pe_bl))
       pss_nil)))))
       (pss_cons (ps_par3 (i := 10) (j := 11) (l := 12) (by rfl) sc_law.nd rfl rfl rfl (by decide) (by decide) (by decide) rfl rfl rfl (pa_cons (pe_oexK (ks := ["word", "line"]) T.x_BadText T.fi_BadText___init__ T.ti_BadText (ok_BadText___init__ T) (hr.mono (by decide)) (kb_BadText T) pass0 (by rfl) T.g_BadText (pk_cons (pv 4) (pk_cons (pv 3) pk_nil))) (pa_cons (pe_oexV T.x_TooMany T.fi_TooMany___init__ T.ti_TooMany (ok_TooMany___init__ T) (hr.mono (by decide)) T.bd_TooMany___init__ .nil pass0 (by rfl) T.g_TooMany (pa_cons (pv 3) (pa_cons (pv 4) pa_nil))) (pa_cons (pe_oexK (ks := ["bar"]) T.x_Dead T.fi_Dead___init__ T.ti_Dead (ok_Dead___init__ T) (hr.mono (by decide)) (kb_Dead T) pass0 (by rfl) T.g_Dead (pk_cons (pv 3) pk_nil)) pa_nil))) (by rfl))
       (pss_cons (ps_if (pt_cmpR op_ne (pe_callB (c_reprQ hg (room_u128 hr)) (by rfl) T.b_repr (by decide +kernel) (pa_cons (pe_lstB (pa_cons (show PE _ _ (tXv K (tVar 10) "line") from pe_xv (pv 10)) (pa_cons (show PE _ _ (tXv K (tVar 10) "word") from pe_xv (pv 10)) (pa_cons (show PE _ _ (tXv K (tVar 11) "what") from pe_xv (pv 11)) (pa_cons (show PE _ _ (tXv K (tVar 11) "most") from pe_xv (pv 11)) (pa_cons (show PE _ _ (tXv K (tVar 12) "bar") from pe_xv (pv 12)) pa_nil)))))) pa_nil)) (pe_callB (c_reprQ hg (room_u128 hr)) (by rfl) T.b_repr (by decide +kernel) (pa_cons (pe_lstB (pa_cons (pv 3) (pa_cons (pv 4) (pa_cons (pv 3) (pa_cons (pv 4) (pa_cons (pv 3) pa_nil)))))) pa_nil)) (nomark _))
       (pss_one (ps_ret pe_bl))
       pss_nil)
       (pss_cons (ps_set (i := 13) sc_law.nd rfl (by first | exact Or.inl rfl | exact Or.inr rfl) (pe_oexV T.x_BadText T.fi_BadText___init__ T.ti_BadText (ok_BadText___init__ T) (hr.mono (by decide)) T.bd_BadText___init__ .nil pass0 (by rfl) T.g_BadText (pa_cons (pv 3) (pa_cons (pv 4) pa_nil))))
       (pss_cons (ps_if (pt_cmpR op_ne (pe_callB (c_reprQ hg (room_u128 hr)) (by rfl) T.b_repr (by decide +kernel) (pa_cons (pe_lstB (pa_cons (show PE _ _ (tXv K (tVar 13) "line") from pe_xv (pv 13)) (pa_cons (show PE _ _ (tXv K (tVar 13) "word") from pe_xv (pv 13)) pa_nil))) pa_nil)) (pe_callB (c_reprQ hg (room_u128 hr)) (by rfl) T.b_repr (by decide +kernel) (pa_cons (pe_lstB (pa_cons (pv 3) (pa_cons (pv 4) pa_nil))) pa_nil)) (nomark _))
       (pss_one (ps_ret pe_bl))
       pss_nil)
       (pss_cons (ps_if (PW.pt (pw_or (pt_cmpR (op_neD hr.units) (pe_call (ok__law_raised T) (hr.mono (by decide)) (by rfl) T.g__law_raised T.F__law_raised.kp T.bd__law_raised .nil pass0 (pa_cons (pv 10) pa_nil)) (pe_lstB (pa_cons pe_str (pa_cons pe_str pa_nil))) (nomark _)) (pw_or1 (pt_cmpR (op_neD hr.units) (pe_call (ok__law_raised T) (hr.mono (by decide)) (by rfl) T.g__law_raised T.F__law_raised.kp T.bd__law_raised .nil pass0 (pa_cons (pv 11) pa_nil)) (pe_lstB (pa_cons pe_str (pa_cons pe_str pa_nil))) (nomark _)))))
       (pss_one (ps_ret pe_bl))
       pss_nil)
       (pss_one (ps_if (PW.pt (pw_or (pt_cmpR (op_neD hr.units) (pe_call (ok__law_raised T) (hr.mono (by decide)) (by rfl) T.g__law_raised T.F__law_raised.kp T.bd__law_raised .nil pass0 (pa_cons (pv 12) pa_nil)) (pe_lstB (pa_cons pe_str (pa_cons pe_str pa_nil))) (nomark _)) (pw_or1 (pt_cmpR (op_neD hr.units) (pe_call (ok__law_raised T) (hr.mono (by decide)) (by rfl) T.g__law_raised T.F__law_raised.kp T.bd__law_raised .nil pass0 (pa_cons (pe_oexK (ks := ["most", "what"]) T.x_TooMany T.fi_TooMany___init__ T.ti_TooMany (ok_TooMany___init__ T) (hr.mono (by decide)) (kb_TooMany T) pass0 (by rfl) T.g_TooMany (pk_cons pe_int (pk_cons pe_str pk_nil))) pa_nil)) (pe_lstB (pa_cons pe_str (pa_cons pe_str pa_nil))) (nomark _)))))
       (pss_one (ps_ret pe_bl))
       pss_nil))))))))))
       (pss_cons (ps_if (PW.pt (pw_or (pt_cmpR (op_neD hr.units) (pe_call (ok__law_raised T) (hr.mono (by decide)) (by rfl) T.g__law_raised T.F__law_raised.kp T.bd__law_raised .nil pass0 (pa_cons (pe_oex0 T.x_NoDeed T.in0_NoDeed (by rfl) T.g_NoDeed) pa_nil)) (pe_lstB (pa_cons pe_str (pa_cons pe_str pa_nil))) (nomark _)) (pw_or1 (pt_cmpR (op_neD hr.units) (pe_call (ok__law_raised T) (hr.mono (by decide)) (by rfl) T.g__law_raised T.F__law_raised.kp T.bd__law_raised .nil pass0 (pa_cons (pe_oex0 T.x_NoHouse T.in0_NoHouse (by rfl) T.g_NoHouse) pa_nil)) (pe_lstB (pa_cons pe_str (pa_cons pe_str pa_nil))) (nomark _)))))
       (pss_one (ps_ret pe_bl))
       pss_nil)
       (pss_cons (ps_set (i := 14) sc_law.nd rfl (by first | exact Or.inl rfl | exact Or.inr rfl) (pe_lstB (pa_cons (pe_call (ok__law_raised T) (hr.mono (by decide)) (by rfl) T.g__law_raised T.F__law_raised.kp T.bd__law_raised .nil pass0 (pa_cons (pe_oex0 T.x_StayError T.in0_StayError (by rfl) T.g_StayError) pa_nil)) (pa_cons (pe_call (ok__law_raised T) (hr.mono (by decide)) (by rfl) T.g__law_raised T.F__law_raised.kp T.bd__law_raised .nil pass0 (pa_cons (pe_oex0 T.x_BadInput T.in0_BadInput (by rfl) T.g_BadInput) pa_nil)) (pa_cons (pe_call (ok__law_raised T) (hr.mono (by decide)) (by rfl) T.g__law_raised T.F__law_raised.kp T.bd__law_raised .nil pass0 (pa_cons (pe_oex0 T.x_Refused T.in0_Refused (by rfl) T.g_Refused) pa_nil)) (pa_cons (pe_call (ok__law_raised T) (hr.mono (by decide)) (by rfl) T.g__law_raised T.F__law_raised.kp T.bd__law_raised .nil pass0 (pa_cons (pe_oex0 T.x_NoAnswer T.in0_NoAnswer (by rfl) T.g_NoAnswer) pa_nil)) pa_nil))))))
       (pss_one (ps_ret (pe_and (pe_cmpR (op_eqD hr.units) (pv 14) (pe_lstB (pa_cons (pe_lstB pa_nil) (pa_cons (pe_lstB (pa_cons pe_str pa_nil)) (pa_cons (pe_lstB (pa_cons pe_str pa_nil)) (pa_cons (pe_lstB (pa_cons pe_str pa_nil)) pa_nil))))) (nomark _)) (pe_one (pe_callB call_isV (by rfl) T.b_isinstance (by decide +kernel) (pa_cons (pe_oex0 T.x_StayError T.in0_StayError (by rfl) T.g_StayError) (pa_cons (pe_bltn (v := .ty "ValueError") (u := .type "ValueError") (by rfl) T.b_ValueError (by decide +kernel) rfl) pa_nil))))))))))), ?_⟩
    refine ⟨_, rfl, sc, ns, rfl, hs, fun p a ns' H1 pa hp ha h1 h2 eH => ?_⟩
    have g1 : AW.Good (penC p a ns' []) (fun _ => none) 0 H1 := ⟨fun x o z => (by cases z), ⟨⟨⟨0, 0, h1, by omega, by omega, by omega⟩, h2, pa⟩, tabs_nil⟩, fun _ _ => rfl, fun x o z => (by cases z)⟩
    refine gname_run ?_
    dsimp only
    refine body_of g1 ?_
    refine s_seq ?_
    refine s_join (fun σ' kn' n' => n' ≤ 1000 ∧ ∃ x0 x2 x3 x4 x5 x6 x7 x8 x9 x10 x11 x12 x13 x14, σ' = [x0, some (.ref p), x2, x3, x4, x5, x6, x7, x8, x9, x10, x11, x12, x13, x14]) ?_ ?_
    · refine s_forR1 (j := 6) (fun i σ' kn' n' => n' ≤ 4 * i ∧ ∃ x0 x2 x3 x4 x5 x6 x7 x8 x9 x10 x11 x12 x13 x14, σ' = [x0, some (.ref p), x2, x3, x4, x5, x6, x7, x8, x9, x10, x11, x12, x13, x14]) ?_ ?_ ?_
      · walk_at "w"
        refine ⟨rfl, by decide, by decide, by omega, ?_⟩
        exact ⟨_, _, _, _, _, _, _, _, _, _, _, _, _, _, rfl⟩
      · rintro i σ' kn n hi ⟨hn, x0, x2, x3, x4, x5, x6, x7, x8, x9, x10, x11, x12, x13, x14, rfl⟩
        have hi8 : i < 6 := hi
        walk_at "w"
        refine w_callP mo_val err_no ?_
        walk_at "w"
        refine ⟨by omega, rfl, fun v d k1 e1 tv => ?_⟩
        walk_at "w"
        refine w_callP mo_val err_no ?_
        walk_at "w"
        refine ⟨by omega, rfl, fun u du k2 e2 tu => ?_⟩
        walk_at "w"
        refine ⟨_, _, rfl, ?_⟩
        replace tv := tv.ext e2
        clear e1
        refine s_seq (s_forJ (i_list (w_lstB ?_)))
        walk_at "w"
        refine w_call (EA := fun _ _ _ _ => False) (mo_rows T) err_no ?_
        walk_at "w"
        refine ⟨v, rfl, fun l1 k3 e3 r1 => ?_⟩
        walk_at "w"
        refine ⟨show 2 ≤ 1000 by decide, fun t1 ht1 => w_gen ht1 fun k4 e4 f4 => ?_⟩
        walk_at "w"
        refine w_call (EA := fun _ _ _ _ => False) (mo_rows T) err_no ?_
        walk_at "w"
        refine ⟨v, rfl, fun l2 k5 e5 r2 => ?_⟩
        walk_at "w"
        refine ⟨show 2 ≤ 1000 by decide, fun t2 ht2 => w_gen ht2 fun k6 e6 f6 => ?_⟩
        walk_at "w"
        refine ⟨show 2 ≤ 1000 by decide, fun l3 h3 _ => ?_⟩
        have eX : Ext k6 (upd k6 l3 (.lst [V.ref t1, V.ref t2])) := ext_new h3
        have fX : (upd k6 l3 (.lst [V.ref t1, V.ref t2]) : Hp) l3 = some (.lst [V.ref t1, V.ref t2]) := upd_same
        generalize (upd k6 l3 (.lst [V.ref t1, V.ref t2]) : Hp) = kX at eX fX ⊢
        have y6 := ext_tr e6 eX
        have y5 := ext_tr e5 y6
        have y4 := ext_tr e4 y5
        have y3 := ext_tr e3 y4
        replace r1 := LstOf.ext (fun _ _ => RowAt.ext) y4 r1
        replace r2 := LstOf.ext (fun _ _ => RowAt.ext) y6 r2
        replace f4 := y5 _ _ f4
        replace f6 := eX _ _ f6
        replace tv := tv.ext y3
        replace tu := tu.ext y3
        clear e2 e3 e4 e5 e6 eX y3 y4 y5 y6 h3 ht1 ht2
        refine ⟨l3, _, rfl, fX, ?_⟩
        refine ⟨_, _, fun j σ' k m => m = n + 2 + 2 ∧ Ext kX k ∧ ∃ z0 z2 z5 z6 z7 z8 z9 z10 z11 z12 z13 z14, σ' = [z0, some (.ref p), z2, some v, some u, z5, z6, z7, z8, z9, z10, z11, z12, z13, z14], gives_lst, ⟨rfl, ext_rf, _, _, _, _, _, _, _, _, _, _, _, _, rfl⟩, fun j σ' k m hh => hh.2.1 _ _ fX, ?_, ?_⟩
        · rintro j x σ' k m hx ⟨rfl, ek, z0, z2, z5, z6, z7, z8, z9, z10, z11, z12, z13, z14, rfl⟩
          obtain ⟨grp, is, l, t, rfl, ht, hl, hrow⟩ : ∃ grp is l t, x = .ref t ∧ kX t = some (.tup [.str grp, .ref l]) ∧ LstOf (RowAt T v) kX is l ∧ ∀ i ∈ is, rowR i 0 27 = [grp, sg i] ∧ SeqAt.shaped (.list [.str grp, .str (sg i)]) = true := by
            match j, hx with
            | 0, hx => cases hx; exact ⟨_, _, _, _, rfl, f4, r1, fun i hi => ⟨row_in i hi, sh_in i hi⟩⟩
            | 1, hx => cases hx; exact ⟨_, _, _, _, rfl, f6, r2, fun i hi => ⟨row_re i hi, sh_re i hi⟩⟩
            | j + 2, hx => cases hx
          obtain ⟨ps, q1, q2⟩ := hl
          refine g_tup (ek _ _ ht) rfl (g_cons (g_name (g_cons (g_name (g_nil ?_)))))
          refine s_forJ (i_list (w_var rfl ⟨l, _, rfl, ek _ _ q1, ?_⟩))
          refine ⟨_, _, fun j' σ' k' m => m = n + 2 + 2 ∧ Ext kX k' ∧ ∃ z0 z2 z7 z8 z9 z10 z11 z12 z13 z14, σ' = [z0, some (.ref p), z2, some v, some u, some (.str grp), some (.ref l), z7, z8, z9, z10, z11, z12, z13, z14], gives_lst, ⟨rfl, ek, _, _, _, _, _, _, _, _, _, _, rfl⟩, fun j σ' k m hh => hh.2.1 _ _ q1, ?_, ?_⟩
          · rintro j' x σ' k' m hx ⟨rfl, ek', z0, z2, z7, z8, z9, z10, z11, z12, z13, z14, rfl⟩
            rw [List.getElem?_map] at hx
            obtain ⟨pp, hp2, rfl⟩ := Option.map_eq_some_iff.1 hx
            obtain ⟨i', hi', b, C, c1, c2, c3⟩ := q2.get hp2
            obtain ⟨hr, hsh⟩ := hrow i' (List.mem_of_getElem? hi')
            refine g_tup (ek' _ _ c1) rfl (g_cons (g_name (g_cons (g_name (g_cons (g_name (g_nil ?_)))))))
            have tk := tv.ext ek'
            refine s_if (W.mono (Q := fun b kq m => b = false ∧ Ext k' kq ∧ m = n + 2 + 2) ?_ fun b kq m ⟨eb, eq, em⟩ => ?_)
            · walk_at "w"
              have big : 100 ≤ sizeLine := by rw [sizeLine_eq]; decide
              refine r_reprQ tk.is tk.shows (by have := tk.deep; omega) (Nat.le_trans tk.long big) ?_
              walk_at "w"
              refine r_reprQ tk.is tk.shows (by have := tk.deep; omega) (Nat.le_trans tk.long big) ?_
              refine r_neSelf ?_
              refine ⟨_, rfl, fun _ => ?_, fun z => (by cases z)⟩
              refine w_test (w_neR T (w_var rfl ⟨b, i', C, rfl, c3, c2.ext ek', hr, hsh, fun kk R e hR => w_cons (w_var rfl (w_cons (w_var rfl (w_nil hR)))), fun kk e => ?_⟩))
              exact ⟨_, rfl, rfl, e, rfl⟩
            subst eb em
            refine ⟨(fun z => nomatch z), fun _ => s_next ?_⟩
            exact ⟨rfl, ext_tr ek' eq, _, _, _, _, _, _, _, _, _, _, rfl⟩
          · rintro σ' k' m ⟨rfl, ek', z0, z2, z7, z8, z9, z10, z11, z12, z13, z14, rfl⟩
            exact ⟨rfl, ek', _, _, _, _, _, _, _, _, _, _, _, _, rfl⟩
        rintro σ' k m ⟨rfl, ek, z0, z2, z5, z6, z7, z8, z9, z10, z11, z12, z13, z14, rfl⟩
        replace tv := tv.ext ek
        replace tu := tu.ext ek
        clear f4 f6 fX r1 r2 ek
        refine s_seq (s_par3 (w_cons (w_mkK2 (fun _ _ _ => rfl) T.x_BadText T.nx_BadText_line T.nx_BadText_word (w_cons (w_var rfl (w_cons (w_var rfl (w_nil ⟨v, u, rfl, fun a1 k1 e1 _ r1 => w_cons (w_mkV2 T.x_TooMany T.nx_TooMany_what T.nx_TooMany_most (w_cons (w_var rfl (w_cons (w_var rfl (w_nil ⟨v, u, rfl, fun a2 k2 e2 _ r2 => w_cons (w_mkK1 (fun _ _ => rfl) T.x_Dead T.nx_Dead_bar (w_cons (w_var rfl (w_nil ⟨v, rfl, fun a3 k3 e3 _ r3 => w_nil ?_⟩))))⟩))))))⟩))))))))
        refine ⟨_, _, _, rfl, ?_⟩
        replace r1 := r1.ext (ext_tr e2 e3)
        replace r2 := r2.ext e3
        replace tv := tv.ext (ext_tr e1 (ext_tr e2 e3))
        replace tu := tu.ext (ext_tr e1 (ext_tr e2 e3))
        clear e1 e2 e3
        have five : ∀ x ∈ [d, du, d, du, d], x.showable = true ∧ x.depth ≤ 3 ∧ x.shown.length ≤ 100 := fun x hx => by
          simp only [List.mem_cons, List.mem_nil_iff, or_false] at hx
          rcases hx with rfl | rfl | rfl | rfl | rfl
          · exact ⟨tv.shows, tv.deep, tv.long⟩
          · exact ⟨tu.shows, tu.deep, tu.long⟩
          · exact ⟨tv.shows, tv.deep, tv.long⟩
          · exact ⟨tu.shows, tu.deep, tu.long⟩
          · exact ⟨tv.shows, tv.deep, tv.long⟩
        refine s_seq (s_if (w_test (w_neRepr (vs := [v, u, v, u, v]) (ds := [d, du, d, du, d]) (show 5 ≤ 20 by decide) (.cons tv.is (.cons tu.is (.cons tv.is (.cons tu.is (.cons tv.is .nil))))) (fun x hx => (five x hx).1) (fun x hx => (five x hx).2.1) (fun x hx => (five x hx).2.2) (show 5 ≤ 20 by decide) (fun R hR => ?_) (fun kk R e hR => ?_) fun kk e => ⟨_, rfl, fun z => (by cases z), fun _ => s_next ?_⟩)))
        · refine w_cons (w_xv (w_var rfl ⟨a1, _, _, v, rfl, r1, T.xf_BadText, T.nx_BadText_line, by first | rfl | simp [List.lookup], ?_⟩))
          refine w_cons (w_xv (w_var rfl ⟨a1, _, _, u, rfl, r1, T.xf_BadText, T.nx_BadText_word, by first | rfl | simp [List.lookup], ?_⟩))
          refine w_cons (w_xv (w_var rfl ⟨a2, _, _, v, rfl, r2, T.xf_TooMany, T.nx_TooMany_what, by first | rfl | simp [List.lookup], ?_⟩))
          refine w_cons (w_xv (w_var rfl ⟨a2, _, _, u, rfl, r2, T.xf_TooMany, T.nx_TooMany_most, by first | rfl | simp [List.lookup], ?_⟩))
          refine w_cons (w_xv (w_var rfl ⟨a3, _, _, v, rfl, r3, T.xf_Dead, T.nx_Dead_bar, by first | rfl | simp [List.lookup], ?_⟩))
          exact w_nil hR
        · exact w_cons (w_var rfl (w_cons (w_var rfl (w_cons (w_var rfl (w_cons (w_var rfl (w_cons (w_var rfl (w_nil hR))))))))))
        replace r1 := r1.ext e
        replace r2 := r2.ext e
        replace r3 := r3.ext e
        replace tv := tv.ext e
        replace tu := tu.ext e
        have two : ∀ x ∈ [d, du], x.showable = true ∧ x.depth ≤ 3 ∧ x.shown.length ≤ 100 := fun x hx => by
          simp only [List.mem_cons, List.mem_nil_iff, or_false] at hx
          rcases hx with rfl | rfl
          · exact ⟨tv.shows, tv.deep, tv.long⟩
          · exact ⟨tu.shows, tu.deep, tu.long⟩
        refine s_seq (s_asg (w_mkV2 T.x_BadText T.nx_BadText_line T.nx_BadText_word (w_cons (w_var rfl (w_cons (w_var rfl (w_nil ⟨v, u, rfl, fun a4 k4 e4 _ r4 => g_name ?_⟩)))))))
        replace r1 := r1.ext e4
        replace r2 := r2.ext e4
        replace r3 := r3.ext e4
        replace tv := tv.ext e4
        replace tu := tu.ext e4
        refine s_seq (s_if (w_test (w_neRepr (vs := [v, u]) (ds := [d, du]) (show 2 ≤ 20 by decide) (.cons tv.is (.cons tu.is .nil)) (fun x hx => (two x hx).1) (fun x hx => (two x hx).2.1) (fun x hx => (two x hx).2.2) (show 2 ≤ 20 by decide) (fun R hR => ?_) (fun kk R e hR => ?_) fun k5 e5 => ⟨_, rfl, fun z => (by cases z), fun _ => s_next ?_⟩)))
        · refine w_cons (w_xv (w_var rfl ⟨a4, _, _, v, rfl, r4, T.xf_BadText, T.nx_BadText_line, by first | rfl | simp [List.lookup], ?_⟩))
          refine w_cons (w_xv (w_var rfl ⟨a4, _, _, u, rfl, r4, T.xf_BadText, T.nx_BadText_word, by first | rfl | simp [List.lookup], ?_⟩))
          exact w_nil hR
        · exact w_cons (w_var rfl (w_cons (w_var rfl (w_nil hR))))
        replace r1 := r1.ext e5
        replace r2 := r2.ext e5
        replace r3 := r3.ext e5
        refine s_seq (s_if (w_or (w_test (w_neR T (w_var rfl ⟨a1, 16, _, rfl, rfl, r1.is, row_16, by decide +kernel, fun kk R e hR => w_cons (w_c (w_cons (w_c (w_nil hR)))), fun k6 e6 => ⟨_, rfl, fun _ => ?_, fun z => (by cases z)⟩⟩)))))
        refine w_test (w_neR T (w_var rfl ⟨a2, 24, _, rfl, rfl, r2.is.ext e6, row_24, by decide +kernel, fun kk R e hR => w_cons (w_c (w_cons (w_c (w_nil hR)))), fun k7 e7 => ⟨_, rfl, fun z => (by cases z), fun _ => s_next ?_⟩⟩))
        refine s_if (w_or (w_test (w_neR T (w_var rfl ⟨a3, 25, _, rfl, rfl, r3.is.ext (ext_tr e6 e7), row_25, by decide +kernel, fun kk R e hR => w_cons (w_c (w_cons (w_c (w_nil hR)))), fun k8 e8 => ⟨_, rfl, fun _ => ?_, fun z => (by cases z)⟩⟩))))
        refine w_test (w_neR T (w_mkK2 (fun _ _ _ => rfl) T.x_TooMany T.nx_TooMany_what T.nx_TooMany_most (w_cons (w_c (w_cons (w_c (w_nil ⟨_, _, rfl, fun a9 k9 e9 _ r9 => ⟨a9, 24, _, rfl, rfl, r9.is, row_24, by decide +kernel, fun kk R e hR => w_cons (w_c (w_cons (w_c (w_nil hR)))), fun k10 e10 => ⟨_, rfl, fun z => (by cases z), fun _ => s_next ?_⟩⟩⟩)))))))
        exact ⟨by omega, _, _, _, _, _, _, _, _, _, _, _, _, _, _, rfl⟩
      · rintro σ' kn n ⟨hn, x0, x2, x3, x4, x5, x6, x7, x8, x9, x10, x11, x12, x13, x14, rfl⟩
        exact ⟨by omega, _, _, _, _, _, _, _, _, _, _, _, _, _, _, rfl⟩
    · rintro σ' kn n ⟨hn, x0, x2, x3, x4, x5, x6, x7, x8, x9, x10, x11, x12, x13, x14, rfl⟩
      have none_ : ∀ {k : Hp} {a C : Addr}, IsErr (upd k a (exo a C none)) a C := fun {k a C} => ⟨none, [], upd_same, fun dd z => by cases z⟩
      refine s_seq (s_if (w_or (w_test (w_neR T (w_mk0 fun b1 hb1 => ⟨b1, 26, T.c_NoDeed, rfl, rfl, none_, row_26, by decide +kernel, fun kk R e hR => w_cons (w_c (w_cons (w_c (w_nil hR)))), fun k6 e6 => ⟨_, rfl, fun _ => ?_, fun z => (by cases z)⟩⟩)))))
      refine w_test (w_neR T (w_mk0 fun b2 hb2 => ⟨b2, 27, T.c_NoHouse, rfl, rfl, none_, row_27, by decide +kernel, fun kk R e hR => w_cons (w_c (w_cons (w_c (w_nil hR)))), fun k7 e7 => ⟨_, rfl, fun z => (by cases z), fun _ => s_next ?_⟩⟩))
      clear e6 e7 hb1 hb2
      refine s_seq (s_asg (w_lstB ?_))
      refine w_cons (w_call (EA := fun _ _ _ _ => False) (mo_raised T) err_no (w_cons (w_mk0 fun b1 hb1 => w_nil ⟨b1, 0, T.c_StayError, rfl, rfl, none_, fun l1 k1 e1 f1 => ?_⟩)))
      refine w_cons (w_call (EA := fun _ _ _ _ => False) (mo_raised T) err_no (w_cons (w_mk0 fun b2 hb2 => w_nil ⟨b2, 1, T.c_BadInput, rfl, rfl, none_, fun l2 k2 e2 f2 => ?_⟩)))
      refine w_cons (w_call (EA := fun _ _ _ _ => False) (mo_raised T) err_no (w_cons (w_mk0 fun b3 hb3 => w_nil ⟨b3, 2, T.c_Refused, rfl, rfl, none_, fun l3 k3 e3 f3 => ?_⟩)))
      refine w_cons (w_call (EA := fun _ _ _ _ => False) (mo_raised T) err_no (w_cons (w_mk0 fun b4 hb4 => w_nil ⟨b4, 3, T.c_NoAnswer, rfl, rfl, none_, fun l4 k4 e4 f4 => ?_⟩)))
      refine w_nil ⟨show 4 ≤ 1000 by decide, fun l5 h5 _ => wg_gen h5 fun k5 e5 f5 => g_name ?_⟩
      have e2 := ext_tr (ext_new (o := exo b2 T.c_BadInput none) hb2) e2
      have e3 := ext_tr (ext_new (o := exo b3 T.c_Refused none) hb3) e3
      have e4 := ext_tr (ext_new (o := exo b4 T.c_NoAnswer none) hb4) e4
      replace f1 := ext_tr e2 (ext_tr e3 (ext_tr e4 e5)) _ _ f1
      replace f2 := ext_tr e3 (ext_tr e4 e5) _ _ f2
      replace f3 := ext_tr e4 e5 _ _ f3
      replace f4 := e5 _ _ f4
      rw [row_0] at f1
      rw [row_1] at f2
      rw [row_2] at f3
      rw [row_3] at f4
      refine s_ret (w_andV (w_op (w_var rfl (w_lstB ?_))))
      refine w_cons (w_lstB (w_nil ⟨show 0 ≤ 1000 by decide, fun m1 q1 _ => w_gen q1 fun k6 e6 g1 => ?_⟩))
      refine w_cons (w_lstB (w_cons (w_c (w_nil ⟨show 1 ≤ 1000 by decide, fun m2 q2 _ => w_gen q2 fun k7 e7 g2 => ?_⟩))))
      refine w_cons (w_lstB (w_cons (w_c (w_nil ⟨show 1 ≤ 1000 by decide, fun m3 q3 _ => w_gen q3 fun k8 e8 g3 => ?_⟩))))
      refine w_cons (w_lstB (w_cons (w_c (w_nil ⟨show 1 ≤ 1000 by decide, fun m4 q4 _ => w_gen q4 fun k9 e9 g4 => ?_⟩))))
      refine w_nil ⟨show 4 ≤ 1000 by decide, fun m5 q5 _ => w_gen q5 fun k10 e10 g5 => ?_⟩
      have y9 := e10
      have y8 := ext_tr e9 y9
      have y7 := ext_tr e8 y8
      have y6 := ext_tr e7 y7
      have y5 := ext_tr e6 y6
      let dd : PyData := .list [.list [], .list [.str (Str.ofString "input")], .list [.str (Str.ofString "refused")], .list [.str (Str.ofString "answer")]]
      refine r_eq_d (d := dd) (e := dd) (.lst (sql (y5 _ _ f5)) (.cons (.lst (sql (y5 _ _ f1)) (dp_strs [])) (.cons (.lst (sql (y5 _ _ f2)) (dp_strs [_])) (.cons (.lst (sql (y5 _ _ f3)) (dp_strs [_])) (.cons (.lst (sql (y5 _ _ f4)) (dp_strs [_])) .nil)))))
        (.lst (sql g5) (.cons (.lst (sql (y6 _ _ g1)) (dp_strs [])) (.cons (.lst (sql (y7 _ _ g2)) (dp_strs [_])) (.cons (.lst (sql (y8 _ _ g3)) (dp_strs [_])) (.cons (.lst (sql (y9 _ _ g4)) (dp_strs [_])) .nil))))) (by decide +kernel) (by decide +kernel) ?_
      rw [show PyData.eqv dd dd = true by decide +kernel]
      walk_at "w"
      refine w_mk0 fun b5 hb5 => ?_
      walk_at "w"
      refine r_isV none_ (.ty "ValueError") T.xc_StayError T.kitVE ?_
      walk_at "w"
      exact fun H' _ => h H'
end
/-- the law at its head -/
theorem law_at {l : PySem.W.OpenLaw} {w : World} {K : PySem.W.Frag} {mg : Str → Option Value} {h : Heap} {fa : Addr} (T : Tx K mg) (hfa : T.f_law = fa) : LawAtG l w K CX0 40 63 "script" mg fa h := by
  subst hfa
  refine ⟨T.d_law, [], spLaw T, ?_, ?_, ?_, ?_, ?_, ?_⟩
  · intro p hp
    cases hp
  · intro p hp
    cases hp
  · intro p hp
    cases hp
  · intro s u
    obtain ⟨oc, od, kV, doc, pm, an, cdv, ct, osl, hfd, _, _⟩ := T.F_law.ex
    rw [hfd]
    exact BindsTo.of_eq (by rfl)
  · intro H a nums hl hb ht hs
    exact ⟨a, nums, rfl, hs, fun H' => rfl⟩
  · intro base hK hNs ht
    exact ok_law T

end NN

namespace NN
open PySem PySem.Spec PyProof.Rows L2 LamX AW ClX
theorem all_mk {K : PySem.W.Frag} {h : Heap} {mg : Str → Option Value} {l : PySem.W.OpenLaw} {w : World} {fa : Addr} (hfa : mg "law" = some (.ref fa)) (X : K.In h) (G : h.Ns mainGlobals mg)
    {c_StayError : Addr}
    {nm_StayError : Str}
    {q_StayError : Str}
    {N_StayError : Addr}
    {bs_StayError : List Value}
    {bm_StayError : List Value}
    {sn_StayError : List Str}
    {sub_StayError : List Value}
    {ab_StayError : Bool}
    {col_StayError : Option Bool}
    {dd_StayError : Option Addr}
    {m0_StayError : Option Value}
    {m1_StayError : Option Value}
    {m2_StayError : Option Value}
    {m3_StayError : Option Value}
    {m5_StayError : Option Value}
    {c_BadInput : Addr}
    {nm_BadInput : Str}
    {q_BadInput : Str}
    {N_BadInput : Addr}
    {bs_BadInput : List Value}
    {bm_BadInput : List Value}
    {sn_BadInput : List Str}
    {sub_BadInput : List Value}
    {ab_BadInput : Bool}
    {col_BadInput : Option Bool}
    {dd_BadInput : Option Addr}
    {m0_BadInput : Option Value}
    {m1_BadInput : Option Value}
    {m2_BadInput : Option Value}
    {m3_BadInput : Option Value}
    {m5_BadInput : Option Value}
    {c_Refused : Addr}
    {nm_Refused : Str}
    {q_Refused : Str}
    {N_Refused : Addr}
    {bs_Refused : List Value}
    {bm_Refused : List Value}
    {sn_Refused : List Str}
    {sub_Refused : List Value}
    {ab_Refused : Bool}
    {col_Refused : Option Bool}
    {dd_Refused : Option Addr}
    {m0_Refused : Option Value}
    {m1_Refused : Option Value}
    {m2_Refused : Option Value}
    {m3_Refused : Option Value}
    {m5_Refused : Option Value}
    {c_NoAnswer : Addr}
    {nm_NoAnswer : Str}
    {q_NoAnswer : Str}
    {N_NoAnswer : Addr}
    {bs_NoAnswer : List Value}
    {bm_NoAnswer : List Value}
    {sn_NoAnswer : List Str}
    {sub_NoAnswer : List Value}
    {ab_NoAnswer : Bool}
    {col_NoAnswer : Option Bool}
    {dd_NoAnswer : Option Addr}
    {m0_NoAnswer : Option Value}
    {m1_NoAnswer : Option Value}
    {m2_NoAnswer : Option Value}
    {m3_NoAnswer : Option Value}
    {m5_NoAnswer : Option Value}
    {c_BadLengths : Addr}
    {nm_BadLengths : Str}
    {q_BadLengths : Str}
    {N_BadLengths : Addr}
    {bs_BadLengths : List Value}
    {bm_BadLengths : List Value}
    {sn_BadLengths : List Str}
    {sub_BadLengths : List Value}
    {ab_BadLengths : Bool}
    {col_BadLengths : Option Bool}
    {dd_BadLengths : Option Addr}
    {m0_BadLengths : Option Value}
    {m1_BadLengths : Option Value}
    {m2_BadLengths : Option Value}
    {m3_BadLengths : Option Value}
    {m5_BadLengths : Option Value}
    {f_BadLengths___init__ : Addr}
    {oc_BadLengths___init__ : Value}
    {kV_BadLengths___init__ : Value}
    {dc_BadLengths___init__ : Value}
    {pm_BadLengths___init__ : Value}
    {cd_BadLengths___init__ : Value}
    {ct_BadLengths___init__ : Value}
    {od_BadLengths___init__ : Option Addr}
    {an_BadLengths___init__ : Option Addr}
    {sl_BadLengths___init__ : Array (Option Value)}
    {c_BadDays : Addr}
    {nm_BadDays : Str}
    {q_BadDays : Str}
    {N_BadDays : Addr}
    {bs_BadDays : List Value}
    {bm_BadDays : List Value}
    {sn_BadDays : List Str}
    {sub_BadDays : List Value}
    {ab_BadDays : Bool}
    {col_BadDays : Option Bool}
    {dd_BadDays : Option Addr}
    {m0_BadDays : Option Value}
    {m1_BadDays : Option Value}
    {m2_BadDays : Option Value}
    {m3_BadDays : Option Value}
    {m5_BadDays : Option Value}
    {f_BadDays___init__ : Addr}
    {oc_BadDays___init__ : Value}
    {kV_BadDays___init__ : Value}
    {dc_BadDays___init__ : Value}
    {pm_BadDays___init__ : Value}
    {cd_BadDays___init__ : Value}
    {ct_BadDays___init__ : Value}
    {od_BadDays___init__ : Option Addr}
    {an_BadDays___init__ : Option Addr}
    {sl_BadDays___init__ : Array (Option Value)}
    {c_BadStay : Addr}
    {nm_BadStay : Str}
    {q_BadStay : Str}
    {N_BadStay : Addr}
    {bs_BadStay : List Value}
    {bm_BadStay : List Value}
    {sn_BadStay : List Str}
    {sub_BadStay : List Value}
    {ab_BadStay : Bool}
    {col_BadStay : Option Bool}
    {dd_BadStay : Option Addr}
    {m0_BadStay : Option Value}
    {m1_BadStay : Option Value}
    {m2_BadStay : Option Value}
    {m3_BadStay : Option Value}
    {m5_BadStay : Option Value}
    {f_BadStay___init__ : Addr}
    {oc_BadStay___init__ : Value}
    {kV_BadStay___init__ : Value}
    {dc_BadStay___init__ : Value}
    {pm_BadStay___init__ : Value}
    {cd_BadStay___init__ : Value}
    {ct_BadStay___init__ : Value}
    {od_BadStay___init__ : Option Addr}
    {an_BadStay___init__ : Option Addr}
    {sl_BadStay___init__ : Array (Option Value)}
    {c_BadRule : Addr}
    {nm_BadRule : Str}
    {q_BadRule : Str}
    {N_BadRule : Addr}
    {bs_BadRule : List Value}
    {bm_BadRule : List Value}
    {sn_BadRule : List Str}
    {sub_BadRule : List Value}
    {ab_BadRule : Bool}
    {col_BadRule : Option Bool}
    {dd_BadRule : Option Addr}
    {m0_BadRule : Option Value}
    {m1_BadRule : Option Value}
    {m2_BadRule : Option Value}
    {m3_BadRule : Option Value}
    {m5_BadRule : Option Value}
    {f_BadRule___init__ : Addr}
    {oc_BadRule___init__ : Value}
    {kV_BadRule___init__ : Value}
    {dc_BadRule___init__ : Value}
    {pm_BadRule___init__ : Value}
    {cd_BadRule___init__ : Value}
    {ct_BadRule___init__ : Value}
    {od_BadRule___init__ : Option Addr}
    {an_BadRule___init__ : Option Addr}
    {sl_BadRule___init__ : Array (Option Value)}
    {c_BadBook : Addr}
    {nm_BadBook : Str}
    {q_BadBook : Str}
    {N_BadBook : Addr}
    {bs_BadBook : List Value}
    {bm_BadBook : List Value}
    {sn_BadBook : List Str}
    {sub_BadBook : List Value}
    {ab_BadBook : Bool}
    {col_BadBook : Option Bool}
    {dd_BadBook : Option Addr}
    {m0_BadBook : Option Value}
    {m1_BadBook : Option Value}
    {m2_BadBook : Option Value}
    {m3_BadBook : Option Value}
    {m5_BadBook : Option Value}
    {f_BadBook___init__ : Addr}
    {oc_BadBook___init__ : Value}
    {kV_BadBook___init__ : Value}
    {dc_BadBook___init__ : Value}
    {pm_BadBook___init__ : Value}
    {cd_BadBook___init__ : Value}
    {ct_BadBook___init__ : Value}
    {od_BadBook___init__ : Option Addr}
    {an_BadBook___init__ : Option Addr}
    {sl_BadBook___init__ : Array (Option Value)}
    {c_BadStretch : Addr}
    {nm_BadStretch : Str}
    {q_BadStretch : Str}
    {N_BadStretch : Addr}
    {bs_BadStretch : List Value}
    {bm_BadStretch : List Value}
    {sn_BadStretch : List Str}
    {sub_BadStretch : List Value}
    {ab_BadStretch : Bool}
    {col_BadStretch : Option Bool}
    {dd_BadStretch : Option Addr}
    {m0_BadStretch : Option Value}
    {m1_BadStretch : Option Value}
    {m2_BadStretch : Option Value}
    {m3_BadStretch : Option Value}
    {m5_BadStretch : Option Value}
    {f_BadStretch___init__ : Addr}
    {oc_BadStretch___init__ : Value}
    {kV_BadStretch___init__ : Value}
    {dc_BadStretch___init__ : Value}
    {pm_BadStretch___init__ : Value}
    {cd_BadStretch___init__ : Value}
    {ct_BadStretch___init__ : Value}
    {od_BadStretch___init__ : Option Addr}
    {an_BadStretch___init__ : Option Addr}
    {sl_BadStretch___init__ : Array (Option Value)}
    {c_BadCalendar : Addr}
    {nm_BadCalendar : Str}
    {q_BadCalendar : Str}
    {N_BadCalendar : Addr}
    {bs_BadCalendar : List Value}
    {bm_BadCalendar : List Value}
    {sn_BadCalendar : List Str}
    {sub_BadCalendar : List Value}
    {ab_BadCalendar : Bool}
    {col_BadCalendar : Option Bool}
    {dd_BadCalendar : Option Addr}
    {m0_BadCalendar : Option Value}
    {m1_BadCalendar : Option Value}
    {m2_BadCalendar : Option Value}
    {m3_BadCalendar : Option Value}
    {m5_BadCalendar : Option Value}
    {f_BadCalendar___init__ : Addr}
    {oc_BadCalendar___init__ : Value}
    {kV_BadCalendar___init__ : Value}
    {dc_BadCalendar___init__ : Value}
    {pm_BadCalendar___init__ : Value}
    {cd_BadCalendar___init__ : Value}
    {ct_BadCalendar___init__ : Value}
    {od_BadCalendar___init__ : Option Addr}
    {an_BadCalendar___init__ : Option Addr}
    {sl_BadCalendar___init__ : Array (Option Value)}
    {c_BadDoor : Addr}
    {nm_BadDoor : Str}
    {q_BadDoor : Str}
    {N_BadDoor : Addr}
    {bs_BadDoor : List Value}
    {bm_BadDoor : List Value}
    {sn_BadDoor : List Str}
    {sub_BadDoor : List Value}
    {ab_BadDoor : Bool}
    {col_BadDoor : Option Bool}
    {dd_BadDoor : Option Addr}
    {m0_BadDoor : Option Value}
    {m1_BadDoor : Option Value}
    {m2_BadDoor : Option Value}
    {m3_BadDoor : Option Value}
    {m5_BadDoor : Option Value}
    {f_BadDoor___init__ : Addr}
    {oc_BadDoor___init__ : Value}
    {kV_BadDoor___init__ : Value}
    {dc_BadDoor___init__ : Value}
    {pm_BadDoor___init__ : Value}
    {cd_BadDoor___init__ : Value}
    {ct_BadDoor___init__ : Value}
    {od_BadDoor___init__ : Option Addr}
    {an_BadDoor___init__ : Option Addr}
    {sl_BadDoor___init__ : Array (Option Value)}
    {c_BadName : Addr}
    {nm_BadName : Str}
    {q_BadName : Str}
    {N_BadName : Addr}
    {bs_BadName : List Value}
    {bm_BadName : List Value}
    {sn_BadName : List Str}
    {sub_BadName : List Value}
    {ab_BadName : Bool}
    {col_BadName : Option Bool}
    {dd_BadName : Option Addr}
    {m0_BadName : Option Value}
    {m1_BadName : Option Value}
    {m2_BadName : Option Value}
    {m3_BadName : Option Value}
    {m5_BadName : Option Value}
    {f_BadName___init__ : Addr}
    {oc_BadName___init__ : Value}
    {kV_BadName___init__ : Value}
    {dc_BadName___init__ : Value}
    {pm_BadName___init__ : Value}
    {cd_BadName___init__ : Value}
    {ct_BadName___init__ : Value}
    {od_BadName___init__ : Option Addr}
    {an_BadName___init__ : Option Addr}
    {sl_BadName___init__ : Array (Option Value)}
    {c_BadCount : Addr}
    {nm_BadCount : Str}
    {q_BadCount : Str}
    {N_BadCount : Addr}
    {bs_BadCount : List Value}
    {bm_BadCount : List Value}
    {sn_BadCount : List Str}
    {sub_BadCount : List Value}
    {ab_BadCount : Bool}
    {col_BadCount : Option Bool}
    {dd_BadCount : Option Addr}
    {m0_BadCount : Option Value}
    {m1_BadCount : Option Value}
    {m2_BadCount : Option Value}
    {m3_BadCount : Option Value}
    {m5_BadCount : Option Value}
    {f_BadCount___init__ : Addr}
    {oc_BadCount___init__ : Value}
    {kV_BadCount___init__ : Value}
    {dc_BadCount___init__ : Value}
    {pm_BadCount___init__ : Value}
    {cd_BadCount___init__ : Value}
    {ct_BadCount___init__ : Value}
    {od_BadCount___init__ : Option Addr}
    {an_BadCount___init__ : Option Addr}
    {sl_BadCount___init__ : Array (Option Value)}
    {c_BadWish : Addr}
    {nm_BadWish : Str}
    {q_BadWish : Str}
    {N_BadWish : Addr}
    {bs_BadWish : List Value}
    {bm_BadWish : List Value}
    {sn_BadWish : List Str}
    {sub_BadWish : List Value}
    {ab_BadWish : Bool}
    {col_BadWish : Option Bool}
    {dd_BadWish : Option Addr}
    {m0_BadWish : Option Value}
    {m1_BadWish : Option Value}
    {m2_BadWish : Option Value}
    {m3_BadWish : Option Value}
    {m5_BadWish : Option Value}
    {f_BadWish___init__ : Addr}
    {oc_BadWish___init__ : Value}
    {kV_BadWish___init__ : Value}
    {dc_BadWish___init__ : Value}
    {pm_BadWish___init__ : Value}
    {cd_BadWish___init__ : Value}
    {ct_BadWish___init__ : Value}
    {od_BadWish___init__ : Option Addr}
    {an_BadWish___init__ : Option Addr}
    {sl_BadWish___init__ : Array (Option Value)}
    {c_BadRow : Addr}
    {nm_BadRow : Str}
    {q_BadRow : Str}
    {N_BadRow : Addr}
    {bs_BadRow : List Value}
    {bm_BadRow : List Value}
    {sn_BadRow : List Str}
    {sub_BadRow : List Value}
    {ab_BadRow : Bool}
    {col_BadRow : Option Bool}
    {dd_BadRow : Option Addr}
    {m0_BadRow : Option Value}
    {m1_BadRow : Option Value}
    {m2_BadRow : Option Value}
    {m3_BadRow : Option Value}
    {m5_BadRow : Option Value}
    {f_BadRow___init__ : Addr}
    {oc_BadRow___init__ : Value}
    {kV_BadRow___init__ : Value}
    {dc_BadRow___init__ : Value}
    {pm_BadRow___init__ : Value}
    {cd_BadRow___init__ : Value}
    {ct_BadRow___init__ : Value}
    {od_BadRow___init__ : Option Addr}
    {an_BadRow___init__ : Option Addr}
    {sl_BadRow___init__ : Array (Option Value)}
    {c_BadText : Addr}
    {nm_BadText : Str}
    {q_BadText : Str}
    {N_BadText : Addr}
    {bs_BadText : List Value}
    {bm_BadText : List Value}
    {sn_BadText : List Str}
    {sub_BadText : List Value}
    {ab_BadText : Bool}
    {col_BadText : Option Bool}
    {dd_BadText : Option Addr}
    {m0_BadText : Option Value}
    {m1_BadText : Option Value}
    {m2_BadText : Option Value}
    {m3_BadText : Option Value}
    {m5_BadText : Option Value}
    {f_BadText___init__ : Addr}
    {oc_BadText___init__ : Value}
    {kV_BadText___init__ : Value}
    {dc_BadText___init__ : Value}
    {pm_BadText___init__ : Value}
    {cd_BadText___init__ : Value}
    {ct_BadText___init__ : Value}
    {od_BadText___init__ : Option Addr}
    {an_BadText___init__ : Option Addr}
    {sl_BadText___init__ : Array (Option Value)}
    {c_BadLine : Addr}
    {nm_BadLine : Str}
    {q_BadLine : Str}
    {N_BadLine : Addr}
    {bs_BadLine : List Value}
    {bm_BadLine : List Value}
    {sn_BadLine : List Str}
    {sub_BadLine : List Value}
    {ab_BadLine : Bool}
    {col_BadLine : Option Bool}
    {dd_BadLine : Option Addr}
    {m0_BadLine : Option Value}
    {m1_BadLine : Option Value}
    {m2_BadLine : Option Value}
    {m3_BadLine : Option Value}
    {m5_BadLine : Option Value}
    {f_BadLine___init__ : Addr}
    {oc_BadLine___init__ : Value}
    {kV_BadLine___init__ : Value}
    {dc_BadLine___init__ : Value}
    {pm_BadLine___init__ : Value}
    {cd_BadLine___init__ : Value}
    {ct_BadLine___init__ : Value}
    {od_BadLine___init__ : Option Addr}
    {an_BadLine___init__ : Option Addr}
    {sl_BadLine___init__ : Array (Option Value)}
    {c_Taken : Addr}
    {nm_Taken : Str}
    {q_Taken : Str}
    {N_Taken : Addr}
    {bs_Taken : List Value}
    {bm_Taken : List Value}
    {sn_Taken : List Str}
    {sub_Taken : List Value}
    {ab_Taken : Bool}
    {col_Taken : Option Bool}
    {dd_Taken : Option Addr}
    {m0_Taken : Option Value}
    {m1_Taken : Option Value}
    {m2_Taken : Option Value}
    {m3_Taken : Option Value}
    {m5_Taken : Option Value}
    {f_Taken___init__ : Addr}
    {oc_Taken___init__ : Value}
    {kV_Taken___init__ : Value}
    {dc_Taken___init__ : Value}
    {pm_Taken___init__ : Value}
    {cd_Taken___init__ : Value}
    {ct_Taken___init__ : Value}
    {od_Taken___init__ : Option Addr}
    {an_Taken___init__ : Option Addr}
    {sl_Taken___init__ : Array (Option Value)}
    {c_NoGuest : Addr}
    {nm_NoGuest : Str}
    {q_NoGuest : Str}
    {N_NoGuest : Addr}
    {bs_NoGuest : List Value}
    {bm_NoGuest : List Value}
    {sn_NoGuest : List Str}
    {sub_NoGuest : List Value}
    {ab_NoGuest : Bool}
    {col_NoGuest : Option Bool}
    {dd_NoGuest : Option Addr}
    {m0_NoGuest : Option Value}
    {m1_NoGuest : Option Value}
    {m2_NoGuest : Option Value}
    {m3_NoGuest : Option Value}
    {m5_NoGuest : Option Value}
    {f_NoGuest___init__ : Addr}
    {oc_NoGuest___init__ : Value}
    {kV_NoGuest___init__ : Value}
    {dc_NoGuest___init__ : Value}
    {pm_NoGuest___init__ : Value}
    {cd_NoGuest___init__ : Value}
    {ct_NoGuest___init__ : Value}
    {od_NoGuest___init__ : Option Addr}
    {an_NoGuest___init__ : Option Addr}
    {sl_NoGuest___init__ : Array (Option Value)}
    {c_NotLet : Addr}
    {nm_NotLet : Str}
    {q_NotLet : Str}
    {N_NotLet : Addr}
    {bs_NotLet : List Value}
    {bm_NotLet : List Value}
    {sn_NotLet : List Str}
    {sub_NotLet : List Value}
    {ab_NotLet : Bool}
    {col_NotLet : Option Bool}
    {dd_NotLet : Option Addr}
    {m0_NotLet : Option Value}
    {m1_NotLet : Option Value}
    {m2_NotLet : Option Value}
    {m3_NotLet : Option Value}
    {m5_NotLet : Option Value}
    {f_NotLet___init__ : Addr}
    {oc_NotLet___init__ : Value}
    {kV_NotLet___init__ : Value}
    {dc_NotLet___init__ : Value}
    {pm_NotLet___init__ : Value}
    {cd_NotLet___init__ : Value}
    {ct_NotLet___init__ : Value}
    {od_NotLet___init__ : Option Addr}
    {an_NotLet___init__ : Option Addr}
    {sl_NotLet___init__ : Array (Option Value)}
    {c_Outside : Addr}
    {nm_Outside : Str}
    {q_Outside : Str}
    {N_Outside : Addr}
    {bs_Outside : List Value}
    {bm_Outside : List Value}
    {sn_Outside : List Str}
    {sub_Outside : List Value}
    {ab_Outside : Bool}
    {col_Outside : Option Bool}
    {dd_Outside : Option Addr}
    {m0_Outside : Option Value}
    {m1_Outside : Option Value}
    {m2_Outside : Option Value}
    {m3_Outside : Option Value}
    {m5_Outside : Option Value}
    {f_Outside___init__ : Addr}
    {oc_Outside___init__ : Value}
    {kV_Outside___init__ : Value}
    {dc_Outside___init__ : Value}
    {pm_Outside___init__ : Value}
    {cd_Outside___init__ : Value}
    {ct_Outside___init__ : Value}
    {od_Outside___init__ : Option Addr}
    {an_Outside___init__ : Option Addr}
    {sl_Outside___init__ : Array (Option Value)}
    {c_Full : Addr}
    {nm_Full : Str}
    {q_Full : Str}
    {N_Full : Addr}
    {bs_Full : List Value}
    {bm_Full : List Value}
    {sn_Full : List Str}
    {sub_Full : List Value}
    {ab_Full : Bool}
    {col_Full : Option Bool}
    {dd_Full : Option Addr}
    {m0_Full : Option Value}
    {m1_Full : Option Value}
    {m2_Full : Option Value}
    {m3_Full : Option Value}
    {m5_Full : Option Value}
    {f_Full___init__ : Addr}
    {oc_Full___init__ : Value}
    {kV_Full___init__ : Value}
    {dc_Full___init__ : Value}
    {pm_Full___init__ : Value}
    {cd_Full___init__ : Value}
    {ct_Full___init__ : Value}
    {od_Full___init__ : Option Addr}
    {an_Full___init__ : Option Addr}
    {sl_Full___init__ : Array (Option Value)}
    {c_Loose : Addr}
    {nm_Loose : Str}
    {q_Loose : Str}
    {N_Loose : Addr}
    {bs_Loose : List Value}
    {bm_Loose : List Value}
    {sn_Loose : List Str}
    {sub_Loose : List Value}
    {ab_Loose : Bool}
    {col_Loose : Option Bool}
    {dd_Loose : Option Addr}
    {m0_Loose : Option Value}
    {m1_Loose : Option Value}
    {m2_Loose : Option Value}
    {m3_Loose : Option Value}
    {m5_Loose : Option Value}
    {f_Loose___init__ : Addr}
    {oc_Loose___init__ : Value}
    {kV_Loose___init__ : Value}
    {dc_Loose___init__ : Value}
    {pm_Loose___init__ : Value}
    {cd_Loose___init__ : Value}
    {ct_Loose___init__ : Value}
    {od_Loose___init__ : Option Addr}
    {an_Loose___init__ : Option Addr}
    {sl_Loose___init__ : Array (Option Value)}
    {c_TooMany : Addr}
    {nm_TooMany : Str}
    {q_TooMany : Str}
    {N_TooMany : Addr}
    {bs_TooMany : List Value}
    {bm_TooMany : List Value}
    {sn_TooMany : List Str}
    {sub_TooMany : List Value}
    {ab_TooMany : Bool}
    {col_TooMany : Option Bool}
    {dd_TooMany : Option Addr}
    {m0_TooMany : Option Value}
    {m1_TooMany : Option Value}
    {m2_TooMany : Option Value}
    {m3_TooMany : Option Value}
    {m5_TooMany : Option Value}
    {f_TooMany___init__ : Addr}
    {oc_TooMany___init__ : Value}
    {kV_TooMany___init__ : Value}
    {dc_TooMany___init__ : Value}
    {pm_TooMany___init__ : Value}
    {cd_TooMany___init__ : Value}
    {ct_TooMany___init__ : Value}
    {od_TooMany___init__ : Option Addr}
    {an_TooMany___init__ : Option Addr}
    {sl_TooMany___init__ : Array (Option Value)}
    {c_Dead : Addr}
    {nm_Dead : Str}
    {q_Dead : Str}
    {N_Dead : Addr}
    {bs_Dead : List Value}
    {bm_Dead : List Value}
    {sn_Dead : List Str}
    {sub_Dead : List Value}
    {ab_Dead : Bool}
    {col_Dead : Option Bool}
    {dd_Dead : Option Addr}
    {m0_Dead : Option Value}
    {m1_Dead : Option Value}
    {m2_Dead : Option Value}
    {m3_Dead : Option Value}
    {m5_Dead : Option Value}
    {f_Dead___init__ : Addr}
    {oc_Dead___init__ : Value}
    {kV_Dead___init__ : Value}
    {dc_Dead___init__ : Value}
    {pm_Dead___init__ : Value}
    {cd_Dead___init__ : Value}
    {ct_Dead___init__ : Value}
    {od_Dead___init__ : Option Addr}
    {an_Dead___init__ : Option Addr}
    {sl_Dead___init__ : Array (Option Value)}
    {c_NoDeed : Addr}
    {nm_NoDeed : Str}
    {q_NoDeed : Str}
    {N_NoDeed : Addr}
    {bs_NoDeed : List Value}
    {bm_NoDeed : List Value}
    {sn_NoDeed : List Str}
    {sub_NoDeed : List Value}
    {ab_NoDeed : Bool}
    {col_NoDeed : Option Bool}
    {dd_NoDeed : Option Addr}
    {m0_NoDeed : Option Value}
    {m1_NoDeed : Option Value}
    {m2_NoDeed : Option Value}
    {m3_NoDeed : Option Value}
    {m5_NoDeed : Option Value}
    {c_NoHouse : Addr}
    {nm_NoHouse : Str}
    {q_NoHouse : Str}
    {N_NoHouse : Addr}
    {bs_NoHouse : List Value}
    {bm_NoHouse : List Value}
    {sn_NoHouse : List Str}
    {sub_NoHouse : List Value}
    {ab_NoHouse : Bool}
    {col_NoHouse : Option Bool}
    {dd_NoHouse : Option Addr}
    {m0_NoHouse : Option Value}
    {m1_NoHouse : Option Value}
    {m2_NoHouse : Option Value}
    {m3_NoHouse : Option Value}
    {m5_NoHouse : Option Value}
    {f__law_pen : Addr}
    {oc__law_pen : Value}
    {kV__law_pen : Value}
    {dc__law_pen : Value}
    {pm__law_pen : Value}
    {cd__law_pen : Value}
    {ct__law_pen : Value}
    {od__law_pen : Option Addr}
    {an__law_pen : Option Addr}
    {sl__law_pen : Array (Option Value)}
    {f__law_draw : Addr}
    {oc__law_draw : Value}
    {kV__law_draw : Value}
    {dc__law_draw : Value}
    {pm__law_draw : Value}
    {cd__law_draw : Value}
    {ct__law_draw : Value}
    {od__law_draw : Option Addr}
    {an__law_draw : Option Addr}
    {sl__law_draw : Array (Option Value)}
    {f__law_pick : Addr}
    {oc__law_pick : Value}
    {kV__law_pick : Value}
    {dc__law_pick : Value}
    {pm__law_pick : Value}
    {cd__law_pick : Value}
    {ct__law_pick : Value}
    {od__law_pick : Option Addr}
    {an__law_pick : Option Addr}
    {sl__law_pick : Array (Option Value)}
    {f__law_value : Addr}
    {oc__law_value : Value}
    {kV__law_value : Value}
    {dc__law_value : Value}
    {pm__law_value : Value}
    {cd__law_value : Value}
    {ct__law_value : Value}
    {od__law_value : Option Addr}
    {an__law_value : Option Addr}
    {sl__law_value : Array (Option Value)}
    {f__law_raised : Addr}
    {oc__law_raised : Value}
    {kV__law_raised : Value}
    {dc__law_raised : Value}
    {pm__law_raised : Value}
    {cd__law_raised : Value}
    {ct__law_raised : Value}
    {od__law_raised : Option Addr}
    {an__law_raised : Option Addr}
    {sl__law_raised : Array (Option Value)}
    {f__law_signs : Addr}
    {oc__law_signs : Value}
    {kV__law_signs : Value}
    {dc__law_signs : Value}
    {pm__law_signs : Value}
    {cd__law_signs : Value}
    {ct__law_signs : Value}
    {od__law_signs : Option Addr}
    {an__law_signs : Option Addr}
    {sl__law_signs : Array (Option Value)}
    {f__law_inputs : Addr}
    {oc__law_inputs : Value}
    {kV__law_inputs : Value}
    {dc__law_inputs : Value}
    {pm__law_inputs : Value}
    {cd__law_inputs : Value}
    {ct__law_inputs : Value}
    {od__law_inputs : Option Addr}
    {an__law_inputs : Option Addr}
    {sl__law_inputs : Array (Option Value)}
    {f__law_others : Addr}
    {oc__law_others : Value}
    {kV__law_others : Value}
    {dc__law_others : Value}
    {pm__law_others : Value}
    {cd__law_others : Value}
    {ct__law_others : Value}
    {od__law_others : Option Addr}
    {an__law_others : Option Addr}
    {sl__law_others : Array (Option Value)}
    {f_law : Addr}
    {oc_law : Value}
    {kV_law : Value}
    {dc_law : Value}
    {pm_law : Value}
    {cd_law : Value}
    {ct_law : Value}
    {od_law : Option Addr}
    {an_law : Option Addr}
    {sl_law : Array (Option Value)}
    (a_StayError : PySem.W.nsIn K mainGlobals "StayError" = some (some (.ref c_StayError)))
    (h_StayError_l : K.lookup c_StayError = some (excClassObj nm_StayError q_StayError c_StayError N_StayError bs_StayError bm_StayError true sn_StayError sub_StayError ab_StayError col_StayError dd_StayError m0_StayError m1_StayError m2_StayError m3_StayError m5_StayError "ValueError.__new__"))
    (h_StayError_bm : PySem.HandSPX.refsVE bm_StayError = true)
    (h_StayError_sa : PySem.W.findIn K (.ref c_StayError) "__setattr__" = some (some (.builtin "object.__setattr__")))
    (h_StayError_ex : PySem.W.subIn K (.ref c_StayError) (.type "BaseException") = some true)
    (h_StayError_ty : PySem.W.typeIn K (.ref c_StayError) = some (.type "type"))
    (h_StayError_kp : PySem.W.keepIn K (.ref c_StayError) = true)
    (h_StayError_ga : PySem.W.findIn K (.ref c_StayError) "__getattribute__" = some (some (.builtin "BaseException.__getattribute__")))
    (h_StayError_gg : PySem.W.findIn K (.ref c_StayError) "__getattr__" = some none)
    (h_StayError_hd : PySem.W.hasDictIn K c_StayError = true)
    (h_StayError_cls : PySem.W.findIn K (.ref c_StayError) "__class__" = some (some (.builtin "object.__class__")))
    (h_StayError_mro : PySem.W.mroIn K c_StayError (.type "object") = some true)
    (h_cget : PySem.W.specialIn K (.builtin "object.__class__") "__get__" = some (some (.builtin "getset_descriptor.__get__")))
    (h_ctak : PySem.W.takesIn K (.builtin "object.__class__") = some true)
    (h_in0_StayError : PySem.W.findIn K (.ref c_StayError) "__init__" = some (some (.builtin "ValueError.__init__")))
    (a_BadInput : PySem.W.nsIn K mainGlobals "BadInput" = some (some (.ref c_BadInput)))
    (h_BadInput_l : K.lookup c_BadInput = some (excClassObj nm_BadInput q_BadInput c_BadInput N_BadInput bs_BadInput bm_BadInput true sn_BadInput sub_BadInput ab_BadInput col_BadInput dd_BadInput m0_BadInput m1_BadInput m2_BadInput m3_BadInput m5_BadInput "ValueError.__new__"))
    (h_BadInput_bm : PySem.HandSPX.refsVE bm_BadInput = true)
    (h_BadInput_sa : PySem.W.findIn K (.ref c_BadInput) "__setattr__" = some (some (.builtin "object.__setattr__")))
    (h_BadInput_ex : PySem.W.subIn K (.ref c_BadInput) (.type "BaseException") = some true)
    (h_BadInput_ty : PySem.W.typeIn K (.ref c_BadInput) = some (.type "type"))
    (h_BadInput_kp : PySem.W.keepIn K (.ref c_BadInput) = true)
    (h_BadInput_ga : PySem.W.findIn K (.ref c_BadInput) "__getattribute__" = some (some (.builtin "BaseException.__getattribute__")))
    (h_BadInput_gg : PySem.W.findIn K (.ref c_BadInput) "__getattr__" = some none)
    (h_BadInput_hd : PySem.W.hasDictIn K c_BadInput = true)
    (h_BadInput_cls : PySem.W.findIn K (.ref c_BadInput) "__class__" = some (some (.builtin "object.__class__")))
    (h_BadInput_mro : PySem.W.mroIn K c_BadInput (.type "object") = some true)
    (h_in0_BadInput : PySem.W.findIn K (.ref c_BadInput) "__init__" = some (some (.builtin "ValueError.__init__")))
    (a_Refused : PySem.W.nsIn K mainGlobals "Refused" = some (some (.ref c_Refused)))
    (h_Refused_l : K.lookup c_Refused = some (excClassObj nm_Refused q_Refused c_Refused N_Refused bs_Refused bm_Refused true sn_Refused sub_Refused ab_Refused col_Refused dd_Refused m0_Refused m1_Refused m2_Refused m3_Refused m5_Refused "ValueError.__new__"))
    (h_Refused_bm : PySem.HandSPX.refsVE bm_Refused = true)
    (h_Refused_sa : PySem.W.findIn K (.ref c_Refused) "__setattr__" = some (some (.builtin "object.__setattr__")))
    (h_Refused_ex : PySem.W.subIn K (.ref c_Refused) (.type "BaseException") = some true)
    (h_Refused_ty : PySem.W.typeIn K (.ref c_Refused) = some (.type "type"))
    (h_Refused_kp : PySem.W.keepIn K (.ref c_Refused) = true)
    (h_Refused_ga : PySem.W.findIn K (.ref c_Refused) "__getattribute__" = some (some (.builtin "BaseException.__getattribute__")))
    (h_Refused_gg : PySem.W.findIn K (.ref c_Refused) "__getattr__" = some none)
    (h_Refused_hd : PySem.W.hasDictIn K c_Refused = true)
    (h_Refused_cls : PySem.W.findIn K (.ref c_Refused) "__class__" = some (some (.builtin "object.__class__")))
    (h_Refused_mro : PySem.W.mroIn K c_Refused (.type "object") = some true)
    (h_in0_Refused : PySem.W.findIn K (.ref c_Refused) "__init__" = some (some (.builtin "ValueError.__init__")))
    (a_NoAnswer : PySem.W.nsIn K mainGlobals "NoAnswer" = some (some (.ref c_NoAnswer)))
    (h_NoAnswer_l : K.lookup c_NoAnswer = some (excClassObj nm_NoAnswer q_NoAnswer c_NoAnswer N_NoAnswer bs_NoAnswer bm_NoAnswer true sn_NoAnswer sub_NoAnswer ab_NoAnswer col_NoAnswer dd_NoAnswer m0_NoAnswer m1_NoAnswer m2_NoAnswer m3_NoAnswer m5_NoAnswer "ValueError.__new__"))
    (h_NoAnswer_bm : PySem.HandSPX.refsVE bm_NoAnswer = true)
    (h_NoAnswer_sa : PySem.W.findIn K (.ref c_NoAnswer) "__setattr__" = some (some (.builtin "object.__setattr__")))
    (h_NoAnswer_ex : PySem.W.subIn K (.ref c_NoAnswer) (.type "BaseException") = some true)
    (h_NoAnswer_ty : PySem.W.typeIn K (.ref c_NoAnswer) = some (.type "type"))
    (h_NoAnswer_kp : PySem.W.keepIn K (.ref c_NoAnswer) = true)
    (h_NoAnswer_ga : PySem.W.findIn K (.ref c_NoAnswer) "__getattribute__" = some (some (.builtin "BaseException.__getattribute__")))
    (h_NoAnswer_gg : PySem.W.findIn K (.ref c_NoAnswer) "__getattr__" = some none)
    (h_NoAnswer_hd : PySem.W.hasDictIn K c_NoAnswer = true)
    (h_NoAnswer_cls : PySem.W.findIn K (.ref c_NoAnswer) "__class__" = some (some (.builtin "object.__class__")))
    (h_NoAnswer_mro : PySem.W.mroIn K c_NoAnswer (.type "object") = some true)
    (h_in0_NoAnswer : PySem.W.findIn K (.ref c_NoAnswer) "__init__" = some (some (.builtin "ValueError.__init__")))
    (a_BadLengths : PySem.W.nsIn K mainGlobals "BadLengths" = some (some (.ref c_BadLengths)))
    (h_BadLengths_l : K.lookup c_BadLengths = some (excClassObj nm_BadLengths q_BadLengths c_BadLengths N_BadLengths bs_BadLengths bm_BadLengths true sn_BadLengths sub_BadLengths ab_BadLengths col_BadLengths dd_BadLengths m0_BadLengths m1_BadLengths m2_BadLengths m3_BadLengths m5_BadLengths "ValueError.__new__"))
    (h_BadLengths_bm : PySem.HandSPX.refsVE bm_BadLengths = true)
    (h_BadLengths_sa : PySem.W.findIn K (.ref c_BadLengths) "__setattr__" = some (some (.builtin "object.__setattr__")))
    (h_BadLengths_ex : PySem.W.subIn K (.ref c_BadLengths) (.type "BaseException") = some true)
    (h_BadLengths_ty : PySem.W.typeIn K (.ref c_BadLengths) = some (.type "type"))
    (h_BadLengths_kp : PySem.W.keepIn K (.ref c_BadLengths) = true)
    (h_BadLengths_ga : PySem.W.findIn K (.ref c_BadLengths) "__getattribute__" = some (some (.builtin "BaseException.__getattribute__")))
    (h_BadLengths_gg : PySem.W.findIn K (.ref c_BadLengths) "__getattr__" = some none)
    (h_BadLengths_hd : PySem.W.hasDictIn K c_BadLengths = true)
    (h_BadLengths_cls : PySem.W.findIn K (.ref c_BadLengths) "__class__" = some (some (.builtin "object.__class__")))
    (h_BadLengths_mro : PySem.W.mroIn K c_BadLengths (.type "object") = some true)
    (h_nx_BadLengths_part : PySem.W.findIn K (.ref c_BadLengths) "part" = some none)
    (a_BadLengths___init__ : PySem.W.findIn K (.ref c_BadLengths) "__init__" = some (some (.ref f_BadLengths___init__)))
    (i_BadLengths___init__ : PySem.W.isFn K (.ref f_BadLengths___init__) = true)
    (l_BadLengths___init__ : K.lookup f_BadLengths___init__ = some ⟨oc_BadLengths___init__, od_BadLengths___init__, .func (PySem.W.fnOf "__init__" "BadLengths.__init__" (defArgs s_BadLengths___init__) (defBody s_BadLengths___init__) (defScope s_BadLengths___init__) .none kV_BadLengths___init__ dc_BadLengths___init__ pm_BadLengths___init__ an_BadLengths___init__ cd_BadLengths___init__ ct_BadLengths___init__), sl_BadLengths___init__⟩)
    (c_BadLengths___init___ : PySem.W.codeIn K cd_BadLengths___init__ "BadLengths.__init__" = true)
    (k_BadLengths___init__ : PySem.W.keepIn K (.ref f_BadLengths___init__) = true)
    (t_BadLengths___init__ : PySem.W.typeIn K (.ref f_BadLengths___init__) = some (.type "function"))
    (a_BadDays : PySem.W.nsIn K mainGlobals "BadDays" = some (some (.ref c_BadDays)))
    (h_BadDays_l : K.lookup c_BadDays = some (excClassObj nm_BadDays q_BadDays c_BadDays N_BadDays bs_BadDays bm_BadDays true sn_BadDays sub_BadDays ab_BadDays col_BadDays dd_BadDays m0_BadDays m1_BadDays m2_BadDays m3_BadDays m5_BadDays "ValueError.__new__"))
    (h_BadDays_bm : PySem.HandSPX.refsVE bm_BadDays = true)
    (h_BadDays_sa : PySem.W.findIn K (.ref c_BadDays) "__setattr__" = some (some (.builtin "object.__setattr__")))
    (h_BadDays_ex : PySem.W.subIn K (.ref c_BadDays) (.type "BaseException") = some true)
    (h_BadDays_ty : PySem.W.typeIn K (.ref c_BadDays) = some (.type "type"))
    (h_BadDays_kp : PySem.W.keepIn K (.ref c_BadDays) = true)
    (h_BadDays_ga : PySem.W.findIn K (.ref c_BadDays) "__getattribute__" = some (some (.builtin "BaseException.__getattribute__")))
    (h_BadDays_gg : PySem.W.findIn K (.ref c_BadDays) "__getattr__" = some none)
    (h_BadDays_hd : PySem.W.hasDictIn K c_BadDays = true)
    (h_BadDays_cls : PySem.W.findIn K (.ref c_BadDays) "__class__" = some (some (.builtin "object.__class__")))
    (h_BadDays_mro : PySem.W.mroIn K c_BadDays (.type "object") = some true)
    (h_nx_BadDays_part : PySem.W.findIn K (.ref c_BadDays) "part" = some none)
    (a_BadDays___init__ : PySem.W.findIn K (.ref c_BadDays) "__init__" = some (some (.ref f_BadDays___init__)))
    (i_BadDays___init__ : PySem.W.isFn K (.ref f_BadDays___init__) = true)
    (l_BadDays___init__ : K.lookup f_BadDays___init__ = some ⟨oc_BadDays___init__, od_BadDays___init__, .func (PySem.W.fnOf "__init__" "BadDays.__init__" (defArgs s_BadDays___init__) (defBody s_BadDays___init__) (defScope s_BadDays___init__) .none kV_BadDays___init__ dc_BadDays___init__ pm_BadDays___init__ an_BadDays___init__ cd_BadDays___init__ ct_BadDays___init__), sl_BadDays___init__⟩)
    (c_BadDays___init___ : PySem.W.codeIn K cd_BadDays___init__ "BadDays.__init__" = true)
    (k_BadDays___init__ : PySem.W.keepIn K (.ref f_BadDays___init__) = true)
    (t_BadDays___init__ : PySem.W.typeIn K (.ref f_BadDays___init__) = some (.type "function"))
    (a_BadStay : PySem.W.nsIn K mainGlobals "BadStay" = some (some (.ref c_BadStay)))
    (h_BadStay_l : K.lookup c_BadStay = some (excClassObj nm_BadStay q_BadStay c_BadStay N_BadStay bs_BadStay bm_BadStay true sn_BadStay sub_BadStay ab_BadStay col_BadStay dd_BadStay m0_BadStay m1_BadStay m2_BadStay m3_BadStay m5_BadStay "ValueError.__new__"))
    (h_BadStay_bm : PySem.HandSPX.refsVE bm_BadStay = true)
    (h_BadStay_sa : PySem.W.findIn K (.ref c_BadStay) "__setattr__" = some (some (.builtin "object.__setattr__")))
    (h_BadStay_ex : PySem.W.subIn K (.ref c_BadStay) (.type "BaseException") = some true)
    (h_BadStay_ty : PySem.W.typeIn K (.ref c_BadStay) = some (.type "type"))
    (h_BadStay_kp : PySem.W.keepIn K (.ref c_BadStay) = true)
    (h_BadStay_ga : PySem.W.findIn K (.ref c_BadStay) "__getattribute__" = some (some (.builtin "BaseException.__getattribute__")))
    (h_BadStay_gg : PySem.W.findIn K (.ref c_BadStay) "__getattr__" = some none)
    (h_BadStay_hd : PySem.W.hasDictIn K c_BadStay = true)
    (h_BadStay_cls : PySem.W.findIn K (.ref c_BadStay) "__class__" = some (some (.builtin "object.__class__")))
    (h_BadStay_mro : PySem.W.mroIn K c_BadStay (.type "object") = some true)
    (h_nx_BadStay_part : PySem.W.findIn K (.ref c_BadStay) "part" = some none)
    (a_BadStay___init__ : PySem.W.findIn K (.ref c_BadStay) "__init__" = some (some (.ref f_BadStay___init__)))
    (i_BadStay___init__ : PySem.W.isFn K (.ref f_BadStay___init__) = true)
    (l_BadStay___init__ : K.lookup f_BadStay___init__ = some ⟨oc_BadStay___init__, od_BadStay___init__, .func (PySem.W.fnOf "__init__" "BadStay.__init__" (defArgs s_BadStay___init__) (defBody s_BadStay___init__) (defScope s_BadStay___init__) .none kV_BadStay___init__ dc_BadStay___init__ pm_BadStay___init__ an_BadStay___init__ cd_BadStay___init__ ct_BadStay___init__), sl_BadStay___init__⟩)
    (c_BadStay___init___ : PySem.W.codeIn K cd_BadStay___init__ "BadStay.__init__" = true)
    (k_BadStay___init__ : PySem.W.keepIn K (.ref f_BadStay___init__) = true)
    (t_BadStay___init__ : PySem.W.typeIn K (.ref f_BadStay___init__) = some (.type "function"))
    (a_BadRule : PySem.W.nsIn K mainGlobals "BadRule" = some (some (.ref c_BadRule)))
    (h_BadRule_l : K.lookup c_BadRule = some (excClassObj nm_BadRule q_BadRule c_BadRule N_BadRule bs_BadRule bm_BadRule true sn_BadRule sub_BadRule ab_BadRule col_BadRule dd_BadRule m0_BadRule m1_BadRule m2_BadRule m3_BadRule m5_BadRule "ValueError.__new__"))
    (h_BadRule_bm : PySem.HandSPX.refsVE bm_BadRule = true)
    (h_BadRule_sa : PySem.W.findIn K (.ref c_BadRule) "__setattr__" = some (some (.builtin "object.__setattr__")))
    (h_BadRule_ex : PySem.W.subIn K (.ref c_BadRule) (.type "BaseException") = some true)
    (h_BadRule_ty : PySem.W.typeIn K (.ref c_BadRule) = some (.type "type"))
    (h_BadRule_kp : PySem.W.keepIn K (.ref c_BadRule) = true)
    (h_BadRule_ga : PySem.W.findIn K (.ref c_BadRule) "__getattribute__" = some (some (.builtin "BaseException.__getattribute__")))
    (h_BadRule_gg : PySem.W.findIn K (.ref c_BadRule) "__getattr__" = some none)
    (h_BadRule_hd : PySem.W.hasDictIn K c_BadRule = true)
    (h_BadRule_cls : PySem.W.findIn K (.ref c_BadRule) "__class__" = some (some (.builtin "object.__class__")))
    (h_BadRule_mro : PySem.W.mroIn K c_BadRule (.type "object") = some true)
    (h_nx_BadRule_part : PySem.W.findIn K (.ref c_BadRule) "part" = some none)
    (a_BadRule___init__ : PySem.W.findIn K (.ref c_BadRule) "__init__" = some (some (.ref f_BadRule___init__)))
    (i_BadRule___init__ : PySem.W.isFn K (.ref f_BadRule___init__) = true)
    (l_BadRule___init__ : K.lookup f_BadRule___init__ = some ⟨oc_BadRule___init__, od_BadRule___init__, .func (PySem.W.fnOf "__init__" "BadRule.__init__" (defArgs s_BadRule___init__) (defBody s_BadRule___init__) (defScope s_BadRule___init__) .none kV_BadRule___init__ dc_BadRule___init__ pm_BadRule___init__ an_BadRule___init__ cd_BadRule___init__ ct_BadRule___init__), sl_BadRule___init__⟩)
    (c_BadRule___init___ : PySem.W.codeIn K cd_BadRule___init__ "BadRule.__init__" = true)
    (k_BadRule___init__ : PySem.W.keepIn K (.ref f_BadRule___init__) = true)
    (t_BadRule___init__ : PySem.W.typeIn K (.ref f_BadRule___init__) = some (.type "function"))
    (a_BadBook : PySem.W.nsIn K mainGlobals "BadBook" = some (some (.ref c_BadBook)))
    (h_BadBook_l : K.lookup c_BadBook = some (excClassObj nm_BadBook q_BadBook c_BadBook N_BadBook bs_BadBook bm_BadBook true sn_BadBook sub_BadBook ab_BadBook col_BadBook dd_BadBook m0_BadBook m1_BadBook m2_BadBook m3_BadBook m5_BadBook "ValueError.__new__"))
    (h_BadBook_bm : PySem.HandSPX.refsVE bm_BadBook = true)
    (h_BadBook_sa : PySem.W.findIn K (.ref c_BadBook) "__setattr__" = some (some (.builtin "object.__setattr__")))
    (h_BadBook_ex : PySem.W.subIn K (.ref c_BadBook) (.type "BaseException") = some true)
    (h_BadBook_ty : PySem.W.typeIn K (.ref c_BadBook) = some (.type "type"))
    (h_BadBook_kp : PySem.W.keepIn K (.ref c_BadBook) = true)
    (h_BadBook_ga : PySem.W.findIn K (.ref c_BadBook) "__getattribute__" = some (some (.builtin "BaseException.__getattribute__")))
    (h_BadBook_gg : PySem.W.findIn K (.ref c_BadBook) "__getattr__" = some none)
    (h_BadBook_hd : PySem.W.hasDictIn K c_BadBook = true)
    (h_BadBook_cls : PySem.W.findIn K (.ref c_BadBook) "__class__" = some (some (.builtin "object.__class__")))
    (h_BadBook_mro : PySem.W.mroIn K c_BadBook (.type "object") = some true)
    (h_nx_BadBook_part : PySem.W.findIn K (.ref c_BadBook) "part" = some none)
    (a_BadBook___init__ : PySem.W.findIn K (.ref c_BadBook) "__init__" = some (some (.ref f_BadBook___init__)))
    (i_BadBook___init__ : PySem.W.isFn K (.ref f_BadBook___init__) = true)
    (l_BadBook___init__ : K.lookup f_BadBook___init__ = some ⟨oc_BadBook___init__, od_BadBook___init__, .func (PySem.W.fnOf "__init__" "BadBook.__init__" (defArgs s_BadBook___init__) (defBody s_BadBook___init__) (defScope s_BadBook___init__) .none kV_BadBook___init__ dc_BadBook___init__ pm_BadBook___init__ an_BadBook___init__ cd_BadBook___init__ ct_BadBook___init__), sl_BadBook___init__⟩)
    (c_BadBook___init___ : PySem.W.codeIn K cd_BadBook___init__ "BadBook.__init__" = true)
    (k_BadBook___init__ : PySem.W.keepIn K (.ref f_BadBook___init__) = true)
    (t_BadBook___init__ : PySem.W.typeIn K (.ref f_BadBook___init__) = some (.type "function"))
    (a_BadStretch : PySem.W.nsIn K mainGlobals "BadStretch" = some (some (.ref c_BadStretch)))
    (h_BadStretch_l : K.lookup c_BadStretch = some (excClassObj nm_BadStretch q_BadStretch c_BadStretch N_BadStretch bs_BadStretch bm_BadStretch true sn_BadStretch sub_BadStretch ab_BadStretch col_BadStretch dd_BadStretch m0_BadStretch m1_BadStretch m2_BadStretch m3_BadStretch m5_BadStretch "ValueError.__new__"))
    (h_BadStretch_bm : PySem.HandSPX.refsVE bm_BadStretch = true)
    (h_BadStretch_sa : PySem.W.findIn K (.ref c_BadStretch) "__setattr__" = some (some (.builtin "object.__setattr__")))
    (h_BadStretch_ex : PySem.W.subIn K (.ref c_BadStretch) (.type "BaseException") = some true)
    (h_BadStretch_ty : PySem.W.typeIn K (.ref c_BadStretch) = some (.type "type"))
    (h_BadStretch_kp : PySem.W.keepIn K (.ref c_BadStretch) = true)
    (h_BadStretch_ga : PySem.W.findIn K (.ref c_BadStretch) "__getattribute__" = some (some (.builtin "BaseException.__getattribute__")))
    (h_BadStretch_gg : PySem.W.findIn K (.ref c_BadStretch) "__getattr__" = some none)
    (h_BadStretch_hd : PySem.W.hasDictIn K c_BadStretch = true)
    (h_BadStretch_cls : PySem.W.findIn K (.ref c_BadStretch) "__class__" = some (some (.builtin "object.__class__")))
    (h_BadStretch_mro : PySem.W.mroIn K c_BadStretch (.type "object") = some true)
    (h_nx_BadStretch_part : PySem.W.findIn K (.ref c_BadStretch) "part" = some none)
    (a_BadStretch___init__ : PySem.W.findIn K (.ref c_BadStretch) "__init__" = some (some (.ref f_BadStretch___init__)))
    (i_BadStretch___init__ : PySem.W.isFn K (.ref f_BadStretch___init__) = true)
    (l_BadStretch___init__ : K.lookup f_BadStretch___init__ = some ⟨oc_BadStretch___init__, od_BadStretch___init__, .func (PySem.W.fnOf "__init__" "BadStretch.__init__" (defArgs s_BadStretch___init__) (defBody s_BadStretch___init__) (defScope s_BadStretch___init__) .none kV_BadStretch___init__ dc_BadStretch___init__ pm_BadStretch___init__ an_BadStretch___init__ cd_BadStretch___init__ ct_BadStretch___init__), sl_BadStretch___init__⟩)
    (c_BadStretch___init___ : PySem.W.codeIn K cd_BadStretch___init__ "BadStretch.__init__" = true)
    (k_BadStretch___init__ : PySem.W.keepIn K (.ref f_BadStretch___init__) = true)
    (t_BadStretch___init__ : PySem.W.typeIn K (.ref f_BadStretch___init__) = some (.type "function"))
    (a_BadCalendar : PySem.W.nsIn K mainGlobals "BadCalendar" = some (some (.ref c_BadCalendar)))
    (h_BadCalendar_l : K.lookup c_BadCalendar = some (excClassObj nm_BadCalendar q_BadCalendar c_BadCalendar N_BadCalendar bs_BadCalendar bm_BadCalendar true sn_BadCalendar sub_BadCalendar ab_BadCalendar col_BadCalendar dd_BadCalendar m0_BadCalendar m1_BadCalendar m2_BadCalendar m3_BadCalendar m5_BadCalendar "ValueError.__new__"))
    (h_BadCalendar_bm : PySem.HandSPX.refsVE bm_BadCalendar = true)
    (h_BadCalendar_sa : PySem.W.findIn K (.ref c_BadCalendar) "__setattr__" = some (some (.builtin "object.__setattr__")))
    (h_BadCalendar_ex : PySem.W.subIn K (.ref c_BadCalendar) (.type "BaseException") = some true)
    (h_BadCalendar_ty : PySem.W.typeIn K (.ref c_BadCalendar) = some (.type "type"))
    (h_BadCalendar_kp : PySem.W.keepIn K (.ref c_BadCalendar) = true)
    (h_BadCalendar_ga : PySem.W.findIn K (.ref c_BadCalendar) "__getattribute__" = some (some (.builtin "BaseException.__getattribute__")))
    (h_BadCalendar_gg : PySem.W.findIn K (.ref c_BadCalendar) "__getattr__" = some none)
    (h_BadCalendar_hd : PySem.W.hasDictIn K c_BadCalendar = true)
    (h_BadCalendar_cls : PySem.W.findIn K (.ref c_BadCalendar) "__class__" = some (some (.builtin "object.__class__")))
    (h_BadCalendar_mro : PySem.W.mroIn K c_BadCalendar (.type "object") = some true)
    (h_nx_BadCalendar_part : PySem.W.findIn K (.ref c_BadCalendar) "part" = some none)
    (a_BadCalendar___init__ : PySem.W.findIn K (.ref c_BadCalendar) "__init__" = some (some (.ref f_BadCalendar___init__)))
    (i_BadCalendar___init__ : PySem.W.isFn K (.ref f_BadCalendar___init__) = true)
    (l_BadCalendar___init__ : K.lookup f_BadCalendar___init__ = some ⟨oc_BadCalendar___init__, od_BadCalendar___init__, .func (PySem.W.fnOf "__init__" "BadCalendar.__init__" (defArgs s_BadCalendar___init__) (defBody s_BadCalendar___init__) (defScope s_BadCalendar___init__) .none kV_BadCalendar___init__ dc_BadCalendar___init__ pm_BadCalendar___init__ an_BadCalendar___init__ cd_BadCalendar___init__ ct_BadCalendar___init__), sl_BadCalendar___init__⟩)
    (c_BadCalendar___init___ : PySem.W.codeIn K cd_BadCalendar___init__ "BadCalendar.__init__" = true)
    (k_BadCalendar___init__ : PySem.W.keepIn K (.ref f_BadCalendar___init__) = true)
    (t_BadCalendar___init__ : PySem.W.typeIn K (.ref f_BadCalendar___init__) = some (.type "function"))
    (a_BadDoor : PySem.W.nsIn K mainGlobals "BadDoor" = some (some (.ref c_BadDoor)))
    (h_BadDoor_l : K.lookup c_BadDoor = some (excClassObj nm_BadDoor q_BadDoor c_BadDoor N_BadDoor bs_BadDoor bm_BadDoor true sn_BadDoor sub_BadDoor ab_BadDoor col_BadDoor dd_BadDoor m0_BadDoor m1_BadDoor m2_BadDoor m3_BadDoor m5_BadDoor "ValueError.__new__"))
    (h_BadDoor_bm : PySem.HandSPX.refsVE bm_BadDoor = true)
    (h_BadDoor_sa : PySem.W.findIn K (.ref c_BadDoor) "__setattr__" = some (some (.builtin "object.__setattr__")))
    (h_BadDoor_ex : PySem.W.subIn K (.ref c_BadDoor) (.type "BaseException") = some true)
    (h_BadDoor_ty : PySem.W.typeIn K (.ref c_BadDoor) = some (.type "type"))
    (h_BadDoor_kp : PySem.W.keepIn K (.ref c_BadDoor) = true)
    (h_BadDoor_ga : PySem.W.findIn K (.ref c_BadDoor) "__getattribute__" = some (some (.builtin "BaseException.__getattribute__")))
    (h_BadDoor_gg : PySem.W.findIn K (.ref c_BadDoor) "__getattr__" = some none)
    (h_BadDoor_hd : PySem.W.hasDictIn K c_BadDoor = true)
    (h_BadDoor_cls : PySem.W.findIn K (.ref c_BadDoor) "__class__" = some (some (.builtin "object.__class__")))
    (h_BadDoor_mro : PySem.W.mroIn K c_BadDoor (.type "object") = some true)
    (h_nx_BadDoor_part : PySem.W.findIn K (.ref c_BadDoor) "part" = some none)
    (a_BadDoor___init__ : PySem.W.findIn K (.ref c_BadDoor) "__init__" = some (some (.ref f_BadDoor___init__)))
    (i_BadDoor___init__ : PySem.W.isFn K (.ref f_BadDoor___init__) = true)
    (l_BadDoor___init__ : K.lookup f_BadDoor___init__ = some ⟨oc_BadDoor___init__, od_BadDoor___init__, .func (PySem.W.fnOf "__init__" "BadDoor.__init__" (defArgs s_BadDoor___init__) (defBody s_BadDoor___init__) (defScope s_BadDoor___init__) .none kV_BadDoor___init__ dc_BadDoor___init__ pm_BadDoor___init__ an_BadDoor___init__ cd_BadDoor___init__ ct_BadDoor___init__), sl_BadDoor___init__⟩)
    (c_BadDoor___init___ : PySem.W.codeIn K cd_BadDoor___init__ "BadDoor.__init__" = true)
    (k_BadDoor___init__ : PySem.W.keepIn K (.ref f_BadDoor___init__) = true)
    (t_BadDoor___init__ : PySem.W.typeIn K (.ref f_BadDoor___init__) = some (.type "function"))
    (a_BadName : PySem.W.nsIn K mainGlobals "BadName" = some (some (.ref c_BadName)))
    (h_BadName_l : K.lookup c_BadName = some (excClassObj nm_BadName q_BadName c_BadName N_BadName bs_BadName bm_BadName true sn_BadName sub_BadName ab_BadName col_BadName dd_BadName m0_BadName m1_BadName m2_BadName m3_BadName m5_BadName "ValueError.__new__"))
    (h_BadName_bm : PySem.HandSPX.refsVE bm_BadName = true)
    (h_BadName_sa : PySem.W.findIn K (.ref c_BadName) "__setattr__" = some (some (.builtin "object.__setattr__")))
    (h_BadName_ex : PySem.W.subIn K (.ref c_BadName) (.type "BaseException") = some true)
    (h_BadName_ty : PySem.W.typeIn K (.ref c_BadName) = some (.type "type"))
    (h_BadName_kp : PySem.W.keepIn K (.ref c_BadName) = true)
    (h_BadName_ga : PySem.W.findIn K (.ref c_BadName) "__getattribute__" = some (some (.builtin "BaseException.__getattribute__")))
    (h_BadName_gg : PySem.W.findIn K (.ref c_BadName) "__getattr__" = some none)
    (h_BadName_hd : PySem.W.hasDictIn K c_BadName = true)
    (h_BadName_cls : PySem.W.findIn K (.ref c_BadName) "__class__" = some (some (.builtin "object.__class__")))
    (h_BadName_mro : PySem.W.mroIn K c_BadName (.type "object") = some true)
    (h_nx_BadName_value : PySem.W.findIn K (.ref c_BadName) "value" = some none)
    (a_BadName___init__ : PySem.W.findIn K (.ref c_BadName) "__init__" = some (some (.ref f_BadName___init__)))
    (i_BadName___init__ : PySem.W.isFn K (.ref f_BadName___init__) = true)
    (l_BadName___init__ : K.lookup f_BadName___init__ = some ⟨oc_BadName___init__, od_BadName___init__, .func (PySem.W.fnOf "__init__" "BadName.__init__" (defArgs s_BadName___init__) (defBody s_BadName___init__) (defScope s_BadName___init__) .none kV_BadName___init__ dc_BadName___init__ pm_BadName___init__ an_BadName___init__ cd_BadName___init__ ct_BadName___init__), sl_BadName___init__⟩)
    (c_BadName___init___ : PySem.W.codeIn K cd_BadName___init__ "BadName.__init__" = true)
    (k_BadName___init__ : PySem.W.keepIn K (.ref f_BadName___init__) = true)
    (t_BadName___init__ : PySem.W.typeIn K (.ref f_BadName___init__) = some (.type "function"))
    (a_BadCount : PySem.W.nsIn K mainGlobals "BadCount" = some (some (.ref c_BadCount)))
    (h_BadCount_l : K.lookup c_BadCount = some (excClassObj nm_BadCount q_BadCount c_BadCount N_BadCount bs_BadCount bm_BadCount true sn_BadCount sub_BadCount ab_BadCount col_BadCount dd_BadCount m0_BadCount m1_BadCount m2_BadCount m3_BadCount m5_BadCount "ValueError.__new__"))
    (h_BadCount_bm : PySem.HandSPX.refsVE bm_BadCount = true)
    (h_BadCount_sa : PySem.W.findIn K (.ref c_BadCount) "__setattr__" = some (some (.builtin "object.__setattr__")))
    (h_BadCount_ex : PySem.W.subIn K (.ref c_BadCount) (.type "BaseException") = some true)
    (h_BadCount_ty : PySem.W.typeIn K (.ref c_BadCount) = some (.type "type"))
    (h_BadCount_kp : PySem.W.keepIn K (.ref c_BadCount) = true)
    (h_BadCount_ga : PySem.W.findIn K (.ref c_BadCount) "__getattribute__" = some (some (.builtin "BaseException.__getattribute__")))
    (h_BadCount_gg : PySem.W.findIn K (.ref c_BadCount) "__getattr__" = some none)
    (h_BadCount_hd : PySem.W.hasDictIn K c_BadCount = true)
    (h_BadCount_cls : PySem.W.findIn K (.ref c_BadCount) "__class__" = some (some (.builtin "object.__class__")))
    (h_BadCount_mro : PySem.W.mroIn K c_BadCount (.type "object") = some true)
    (h_nx_BadCount_value : PySem.W.findIn K (.ref c_BadCount) "value" = some none)
    (a_BadCount___init__ : PySem.W.findIn K (.ref c_BadCount) "__init__" = some (some (.ref f_BadCount___init__)))
    (i_BadCount___init__ : PySem.W.isFn K (.ref f_BadCount___init__) = true)
    (l_BadCount___init__ : K.lookup f_BadCount___init__ = some ⟨oc_BadCount___init__, od_BadCount___init__, .func (PySem.W.fnOf "__init__" "BadCount.__init__" (defArgs s_BadCount___init__) (defBody s_BadCount___init__) (defScope s_BadCount___init__) .none kV_BadCount___init__ dc_BadCount___init__ pm_BadCount___init__ an_BadCount___init__ cd_BadCount___init__ ct_BadCount___init__), sl_BadCount___init__⟩)
    (c_BadCount___init___ : PySem.W.codeIn K cd_BadCount___init__ "BadCount.__init__" = true)
    (k_BadCount___init__ : PySem.W.keepIn K (.ref f_BadCount___init__) = true)
    (t_BadCount___init__ : PySem.W.typeIn K (.ref f_BadCount___init__) = some (.type "function"))
    (a_BadWish : PySem.W.nsIn K mainGlobals "BadWish" = some (some (.ref c_BadWish)))
    (h_BadWish_l : K.lookup c_BadWish = some (excClassObj nm_BadWish q_BadWish c_BadWish N_BadWish bs_BadWish bm_BadWish true sn_BadWish sub_BadWish ab_BadWish col_BadWish dd_BadWish m0_BadWish m1_BadWish m2_BadWish m3_BadWish m5_BadWish "ValueError.__new__"))
    (h_BadWish_bm : PySem.HandSPX.refsVE bm_BadWish = true)
    (h_BadWish_sa : PySem.W.findIn K (.ref c_BadWish) "__setattr__" = some (some (.builtin "object.__setattr__")))
    (h_BadWish_ex : PySem.W.subIn K (.ref c_BadWish) (.type "BaseException") = some true)
    (h_BadWish_ty : PySem.W.typeIn K (.ref c_BadWish) = some (.type "type"))
    (h_BadWish_kp : PySem.W.keepIn K (.ref c_BadWish) = true)
    (h_BadWish_ga : PySem.W.findIn K (.ref c_BadWish) "__getattribute__" = some (some (.builtin "BaseException.__getattribute__")))
    (h_BadWish_gg : PySem.W.findIn K (.ref c_BadWish) "__getattr__" = some none)
    (h_BadWish_hd : PySem.W.hasDictIn K c_BadWish = true)
    (h_BadWish_cls : PySem.W.findIn K (.ref c_BadWish) "__class__" = some (some (.builtin "object.__class__")))
    (h_BadWish_mro : PySem.W.mroIn K c_BadWish (.type "object") = some true)
    (h_nx_BadWish_at : PySem.W.findIn K (.ref c_BadWish) "at" = some none)
    (a_BadWish___init__ : PySem.W.findIn K (.ref c_BadWish) "__init__" = some (some (.ref f_BadWish___init__)))
    (i_BadWish___init__ : PySem.W.isFn K (.ref f_BadWish___init__) = true)
    (l_BadWish___init__ : K.lookup f_BadWish___init__ = some ⟨oc_BadWish___init__, od_BadWish___init__, .func (PySem.W.fnOf "__init__" "BadWish.__init__" (defArgs s_BadWish___init__) (defBody s_BadWish___init__) (defScope s_BadWish___init__) .none kV_BadWish___init__ dc_BadWish___init__ pm_BadWish___init__ an_BadWish___init__ cd_BadWish___init__ ct_BadWish___init__), sl_BadWish___init__⟩)
    (c_BadWish___init___ : PySem.W.codeIn K cd_BadWish___init__ "BadWish.__init__" = true)
    (k_BadWish___init__ : PySem.W.keepIn K (.ref f_BadWish___init__) = true)
    (t_BadWish___init__ : PySem.W.typeIn K (.ref f_BadWish___init__) = some (.type "function"))
    (a_BadRow : PySem.W.nsIn K mainGlobals "BadRow" = some (some (.ref c_BadRow)))
    (h_BadRow_l : K.lookup c_BadRow = some (excClassObj nm_BadRow q_BadRow c_BadRow N_BadRow bs_BadRow bm_BadRow true sn_BadRow sub_BadRow ab_BadRow col_BadRow dd_BadRow m0_BadRow m1_BadRow m2_BadRow m3_BadRow m5_BadRow "ValueError.__new__"))
    (h_BadRow_bm : PySem.HandSPX.refsVE bm_BadRow = true)
    (h_BadRow_sa : PySem.W.findIn K (.ref c_BadRow) "__setattr__" = some (some (.builtin "object.__setattr__")))
    (h_BadRow_ex : PySem.W.subIn K (.ref c_BadRow) (.type "BaseException") = some true)
    (h_BadRow_ty : PySem.W.typeIn K (.ref c_BadRow) = some (.type "type"))
    (h_BadRow_kp : PySem.W.keepIn K (.ref c_BadRow) = true)
    (h_BadRow_ga : PySem.W.findIn K (.ref c_BadRow) "__getattribute__" = some (some (.builtin "BaseException.__getattribute__")))
    (h_BadRow_gg : PySem.W.findIn K (.ref c_BadRow) "__getattr__" = some none)
    (h_BadRow_hd : PySem.W.hasDictIn K c_BadRow = true)
    (h_BadRow_cls : PySem.W.findIn K (.ref c_BadRow) "__class__" = some (some (.builtin "object.__class__")))
    (h_BadRow_mro : PySem.W.mroIn K c_BadRow (.type "object") = some true)
    (h_nx_BadRow_at : PySem.W.findIn K (.ref c_BadRow) "at" = some none)
    (a_BadRow___init__ : PySem.W.findIn K (.ref c_BadRow) "__init__" = some (some (.ref f_BadRow___init__)))
    (i_BadRow___init__ : PySem.W.isFn K (.ref f_BadRow___init__) = true)
    (l_BadRow___init__ : K.lookup f_BadRow___init__ = some ⟨oc_BadRow___init__, od_BadRow___init__, .func (PySem.W.fnOf "__init__" "BadRow.__init__" (defArgs s_BadRow___init__) (defBody s_BadRow___init__) (defScope s_BadRow___init__) .none kV_BadRow___init__ dc_BadRow___init__ pm_BadRow___init__ an_BadRow___init__ cd_BadRow___init__ ct_BadRow___init__), sl_BadRow___init__⟩)
    (c_BadRow___init___ : PySem.W.codeIn K cd_BadRow___init__ "BadRow.__init__" = true)
    (k_BadRow___init__ : PySem.W.keepIn K (.ref f_BadRow___init__) = true)
    (t_BadRow___init__ : PySem.W.typeIn K (.ref f_BadRow___init__) = some (.type "function"))
    (a_BadText : PySem.W.nsIn K mainGlobals "BadText" = some (some (.ref c_BadText)))
    (h_BadText_l : K.lookup c_BadText = some (excClassObj nm_BadText q_BadText c_BadText N_BadText bs_BadText bm_BadText true sn_BadText sub_BadText ab_BadText col_BadText dd_BadText m0_BadText m1_BadText m2_BadText m3_BadText m5_BadText "ValueError.__new__"))
    (h_BadText_bm : PySem.HandSPX.refsVE bm_BadText = true)
    (h_BadText_sa : PySem.W.findIn K (.ref c_BadText) "__setattr__" = some (some (.builtin "object.__setattr__")))
    (h_BadText_ex : PySem.W.subIn K (.ref c_BadText) (.type "BaseException") = some true)
    (h_BadText_ty : PySem.W.typeIn K (.ref c_BadText) = some (.type "type"))
    (h_BadText_kp : PySem.W.keepIn K (.ref c_BadText) = true)
    (h_BadText_ga : PySem.W.findIn K (.ref c_BadText) "__getattribute__" = some (some (.builtin "BaseException.__getattribute__")))
    (h_BadText_gg : PySem.W.findIn K (.ref c_BadText) "__getattr__" = some none)
    (h_BadText_hd : PySem.W.hasDictIn K c_BadText = true)
    (h_BadText_cls : PySem.W.findIn K (.ref c_BadText) "__class__" = some (some (.builtin "object.__class__")))
    (h_BadText_mro : PySem.W.mroIn K c_BadText (.type "object") = some true)
    (h_nx_BadText_line : PySem.W.findIn K (.ref c_BadText) "line" = some none)
    (h_nx_BadText_word : PySem.W.findIn K (.ref c_BadText) "word" = some none)
    (a_BadText___init__ : PySem.W.findIn K (.ref c_BadText) "__init__" = some (some (.ref f_BadText___init__)))
    (i_BadText___init__ : PySem.W.isFn K (.ref f_BadText___init__) = true)
    (l_BadText___init__ : K.lookup f_BadText___init__ = some ⟨oc_BadText___init__, od_BadText___init__, .func (PySem.W.fnOf "__init__" "BadText.__init__" (defArgs s_BadText___init__) (defBody s_BadText___init__) (defScope s_BadText___init__) .none kV_BadText___init__ dc_BadText___init__ pm_BadText___init__ an_BadText___init__ cd_BadText___init__ ct_BadText___init__), sl_BadText___init__⟩)
    (c_BadText___init___ : PySem.W.codeIn K cd_BadText___init__ "BadText.__init__" = true)
    (k_BadText___init__ : PySem.W.keepIn K (.ref f_BadText___init__) = true)
    (t_BadText___init__ : PySem.W.typeIn K (.ref f_BadText___init__) = some (.type "function"))
    (a_BadLine : PySem.W.nsIn K mainGlobals "BadLine" = some (some (.ref c_BadLine)))
    (h_BadLine_l : K.lookup c_BadLine = some (excClassObj nm_BadLine q_BadLine c_BadLine N_BadLine bs_BadLine bm_BadLine true sn_BadLine sub_BadLine ab_BadLine col_BadLine dd_BadLine m0_BadLine m1_BadLine m2_BadLine m3_BadLine m5_BadLine "ValueError.__new__"))
    (h_BadLine_bm : PySem.HandSPX.refsVE bm_BadLine = true)
    (h_BadLine_sa : PySem.W.findIn K (.ref c_BadLine) "__setattr__" = some (some (.builtin "object.__setattr__")))
    (h_BadLine_ex : PySem.W.subIn K (.ref c_BadLine) (.type "BaseException") = some true)
    (h_BadLine_ty : PySem.W.typeIn K (.ref c_BadLine) = some (.type "type"))
    (h_BadLine_kp : PySem.W.keepIn K (.ref c_BadLine) = true)
    (h_BadLine_ga : PySem.W.findIn K (.ref c_BadLine) "__getattribute__" = some (some (.builtin "BaseException.__getattribute__")))
    (h_BadLine_gg : PySem.W.findIn K (.ref c_BadLine) "__getattr__" = some none)
    (h_BadLine_hd : PySem.W.hasDictIn K c_BadLine = true)
    (h_BadLine_cls : PySem.W.findIn K (.ref c_BadLine) "__class__" = some (some (.builtin "object.__class__")))
    (h_BadLine_mro : PySem.W.mroIn K c_BadLine (.type "object") = some true)
    (h_nx_BadLine_word : PySem.W.findIn K (.ref c_BadLine) "word" = some none)
    (a_BadLine___init__ : PySem.W.findIn K (.ref c_BadLine) "__init__" = some (some (.ref f_BadLine___init__)))
    (i_BadLine___init__ : PySem.W.isFn K (.ref f_BadLine___init__) = true)
    (l_BadLine___init__ : K.lookup f_BadLine___init__ = some ⟨oc_BadLine___init__, od_BadLine___init__, .func (PySem.W.fnOf "__init__" "BadLine.__init__" (defArgs s_BadLine___init__) (defBody s_BadLine___init__) (defScope s_BadLine___init__) .none kV_BadLine___init__ dc_BadLine___init__ pm_BadLine___init__ an_BadLine___init__ cd_BadLine___init__ ct_BadLine___init__), sl_BadLine___init__⟩)
    (c_BadLine___init___ : PySem.W.codeIn K cd_BadLine___init__ "BadLine.__init__" = true)
    (k_BadLine___init__ : PySem.W.keepIn K (.ref f_BadLine___init__) = true)
    (t_BadLine___init__ : PySem.W.typeIn K (.ref f_BadLine___init__) = some (.type "function"))
    (a_Taken : PySem.W.nsIn K mainGlobals "Taken" = some (some (.ref c_Taken)))
    (h_Taken_l : K.lookup c_Taken = some (excClassObj nm_Taken q_Taken c_Taken N_Taken bs_Taken bm_Taken true sn_Taken sub_Taken ab_Taken col_Taken dd_Taken m0_Taken m1_Taken m2_Taken m3_Taken m5_Taken "ValueError.__new__"))
    (h_Taken_bm : PySem.HandSPX.refsVE bm_Taken = true)
    (h_Taken_sa : PySem.W.findIn K (.ref c_Taken) "__setattr__" = some (some (.builtin "object.__setattr__")))
    (h_Taken_ex : PySem.W.subIn K (.ref c_Taken) (.type "BaseException") = some true)
    (h_Taken_ty : PySem.W.typeIn K (.ref c_Taken) = some (.type "type"))
    (h_Taken_kp : PySem.W.keepIn K (.ref c_Taken) = true)
    (h_Taken_ga : PySem.W.findIn K (.ref c_Taken) "__getattribute__" = some (some (.builtin "BaseException.__getattribute__")))
    (h_Taken_gg : PySem.W.findIn K (.ref c_Taken) "__getattr__" = some none)
    (h_Taken_hd : PySem.W.hasDictIn K c_Taken = true)
    (h_Taken_cls : PySem.W.findIn K (.ref c_Taken) "__class__" = some (some (.builtin "object.__class__")))
    (h_Taken_mro : PySem.W.mroIn K c_Taken (.type "object") = some true)
    (h_nx_Taken_name : PySem.W.findIn K (.ref c_Taken) "name" = some none)
    (a_Taken___init__ : PySem.W.findIn K (.ref c_Taken) "__init__" = some (some (.ref f_Taken___init__)))
    (i_Taken___init__ : PySem.W.isFn K (.ref f_Taken___init__) = true)
    (l_Taken___init__ : K.lookup f_Taken___init__ = some ⟨oc_Taken___init__, od_Taken___init__, .func (PySem.W.fnOf "__init__" "Taken.__init__" (defArgs s_Taken___init__) (defBody s_Taken___init__) (defScope s_Taken___init__) .none kV_Taken___init__ dc_Taken___init__ pm_Taken___init__ an_Taken___init__ cd_Taken___init__ ct_Taken___init__), sl_Taken___init__⟩)
    (c_Taken___init___ : PySem.W.codeIn K cd_Taken___init__ "Taken.__init__" = true)
    (k_Taken___init__ : PySem.W.keepIn K (.ref f_Taken___init__) = true)
    (t_Taken___init__ : PySem.W.typeIn K (.ref f_Taken___init__) = some (.type "function"))
    (a_NoGuest : PySem.W.nsIn K mainGlobals "NoGuest" = some (some (.ref c_NoGuest)))
    (h_NoGuest_l : K.lookup c_NoGuest = some (excClassObj nm_NoGuest q_NoGuest c_NoGuest N_NoGuest bs_NoGuest bm_NoGuest true sn_NoGuest sub_NoGuest ab_NoGuest col_NoGuest dd_NoGuest m0_NoGuest m1_NoGuest m2_NoGuest m3_NoGuest m5_NoGuest "ValueError.__new__"))
    (h_NoGuest_bm : PySem.HandSPX.refsVE bm_NoGuest = true)
    (h_NoGuest_sa : PySem.W.findIn K (.ref c_NoGuest) "__setattr__" = some (some (.builtin "object.__setattr__")))
    (h_NoGuest_ex : PySem.W.subIn K (.ref c_NoGuest) (.type "BaseException") = some true)
    (h_NoGuest_ty : PySem.W.typeIn K (.ref c_NoGuest) = some (.type "type"))
    (h_NoGuest_kp : PySem.W.keepIn K (.ref c_NoGuest) = true)
    (h_NoGuest_ga : PySem.W.findIn K (.ref c_NoGuest) "__getattribute__" = some (some (.builtin "BaseException.__getattribute__")))
    (h_NoGuest_gg : PySem.W.findIn K (.ref c_NoGuest) "__getattr__" = some none)
    (h_NoGuest_hd : PySem.W.hasDictIn K c_NoGuest = true)
    (h_NoGuest_cls : PySem.W.findIn K (.ref c_NoGuest) "__class__" = some (some (.builtin "object.__class__")))
    (h_NoGuest_mro : PySem.W.mroIn K c_NoGuest (.type "object") = some true)
    (h_nx_NoGuest_name : PySem.W.findIn K (.ref c_NoGuest) "name" = some none)
    (a_NoGuest___init__ : PySem.W.findIn K (.ref c_NoGuest) "__init__" = some (some (.ref f_NoGuest___init__)))
    (i_NoGuest___init__ : PySem.W.isFn K (.ref f_NoGuest___init__) = true)
    (l_NoGuest___init__ : K.lookup f_NoGuest___init__ = some ⟨oc_NoGuest___init__, od_NoGuest___init__, .func (PySem.W.fnOf "__init__" "NoGuest.__init__" (defArgs s_NoGuest___init__) (defBody s_NoGuest___init__) (defScope s_NoGuest___init__) .none kV_NoGuest___init__ dc_NoGuest___init__ pm_NoGuest___init__ an_NoGuest___init__ cd_NoGuest___init__ ct_NoGuest___init__), sl_NoGuest___init__⟩)
    (c_NoGuest___init___ : PySem.W.codeIn K cd_NoGuest___init__ "NoGuest.__init__" = true)
    (k_NoGuest___init__ : PySem.W.keepIn K (.ref f_NoGuest___init__) = true)
    (t_NoGuest___init__ : PySem.W.typeIn K (.ref f_NoGuest___init__) = some (.type "function"))
    (a_NotLet : PySem.W.nsIn K mainGlobals "NotLet" = some (some (.ref c_NotLet)))
    (h_NotLet_l : K.lookup c_NotLet = some (excClassObj nm_NotLet q_NotLet c_NotLet N_NotLet bs_NotLet bm_NotLet true sn_NotLet sub_NotLet ab_NotLet col_NotLet dd_NotLet m0_NotLet m1_NotLet m2_NotLet m3_NotLet m5_NotLet "ValueError.__new__"))
    (h_NotLet_bm : PySem.HandSPX.refsVE bm_NotLet = true)
    (h_NotLet_sa : PySem.W.findIn K (.ref c_NotLet) "__setattr__" = some (some (.builtin "object.__setattr__")))
    (h_NotLet_ex : PySem.W.subIn K (.ref c_NotLet) (.type "BaseException") = some true)
    (h_NotLet_ty : PySem.W.typeIn K (.ref c_NotLet) = some (.type "type"))
    (h_NotLet_kp : PySem.W.keepIn K (.ref c_NotLet) = true)
    (h_NotLet_ga : PySem.W.findIn K (.ref c_NotLet) "__getattribute__" = some (some (.builtin "BaseException.__getattribute__")))
    (h_NotLet_gg : PySem.W.findIn K (.ref c_NotLet) "__getattr__" = some none)
    (h_NotLet_hd : PySem.W.hasDictIn K c_NotLet = true)
    (h_NotLet_cls : PySem.W.findIn K (.ref c_NotLet) "__class__" = some (some (.builtin "object.__class__")))
    (h_NotLet_mro : PySem.W.mroIn K c_NotLet (.type "object") = some true)
    (h_nx_NotLet_stay : PySem.W.findIn K (.ref c_NotLet) "stay" = some none)
    (a_NotLet___init__ : PySem.W.findIn K (.ref c_NotLet) "__init__" = some (some (.ref f_NotLet___init__)))
    (i_NotLet___init__ : PySem.W.isFn K (.ref f_NotLet___init__) = true)
    (l_NotLet___init__ : K.lookup f_NotLet___init__ = some ⟨oc_NotLet___init__, od_NotLet___init__, .func (PySem.W.fnOf "__init__" "NotLet.__init__" (defArgs s_NotLet___init__) (defBody s_NotLet___init__) (defScope s_NotLet___init__) .none kV_NotLet___init__ dc_NotLet___init__ pm_NotLet___init__ an_NotLet___init__ cd_NotLet___init__ ct_NotLet___init__), sl_NotLet___init__⟩)
    (c_NotLet___init___ : PySem.W.codeIn K cd_NotLet___init__ "NotLet.__init__" = true)
    (k_NotLet___init__ : PySem.W.keepIn K (.ref f_NotLet___init__) = true)
    (t_NotLet___init__ : PySem.W.typeIn K (.ref f_NotLet___init__) = some (.type "function"))
    (a_Outside : PySem.W.nsIn K mainGlobals "Outside" = some (some (.ref c_Outside)))
    (h_Outside_l : K.lookup c_Outside = some (excClassObj nm_Outside q_Outside c_Outside N_Outside bs_Outside bm_Outside true sn_Outside sub_Outside ab_Outside col_Outside dd_Outside m0_Outside m1_Outside m2_Outside m3_Outside m5_Outside "ValueError.__new__"))
    (h_Outside_bm : PySem.HandSPX.refsVE bm_Outside = true)
    (h_Outside_sa : PySem.W.findIn K (.ref c_Outside) "__setattr__" = some (some (.builtin "object.__setattr__")))
    (h_Outside_ex : PySem.W.subIn K (.ref c_Outside) (.type "BaseException") = some true)
    (h_Outside_ty : PySem.W.typeIn K (.ref c_Outside) = some (.type "type"))
    (h_Outside_kp : PySem.W.keepIn K (.ref c_Outside) = true)
    (h_Outside_ga : PySem.W.findIn K (.ref c_Outside) "__getattribute__" = some (some (.builtin "BaseException.__getattribute__")))
    (h_Outside_gg : PySem.W.findIn K (.ref c_Outside) "__getattr__" = some none)
    (h_Outside_hd : PySem.W.hasDictIn K c_Outside = true)
    (h_Outside_cls : PySem.W.findIn K (.ref c_Outside) "__class__" = some (some (.builtin "object.__class__")))
    (h_Outside_mro : PySem.W.mroIn K c_Outside (.type "object") = some true)
    (h_nx_Outside_stay : PySem.W.findIn K (.ref c_Outside) "stay" = some none)
    (a_Outside___init__ : PySem.W.findIn K (.ref c_Outside) "__init__" = some (some (.ref f_Outside___init__)))
    (i_Outside___init__ : PySem.W.isFn K (.ref f_Outside___init__) = true)
    (l_Outside___init__ : K.lookup f_Outside___init__ = some ⟨oc_Outside___init__, od_Outside___init__, .func (PySem.W.fnOf "__init__" "Outside.__init__" (defArgs s_Outside___init__) (defBody s_Outside___init__) (defScope s_Outside___init__) .none kV_Outside___init__ dc_Outside___init__ pm_Outside___init__ an_Outside___init__ cd_Outside___init__ ct_Outside___init__), sl_Outside___init__⟩)
    (c_Outside___init___ : PySem.W.codeIn K cd_Outside___init__ "Outside.__init__" = true)
    (k_Outside___init__ : PySem.W.keepIn K (.ref f_Outside___init__) = true)
    (t_Outside___init__ : PySem.W.typeIn K (.ref f_Outside___init__) = some (.type "function"))
    (a_Full : PySem.W.nsIn K mainGlobals "Full" = some (some (.ref c_Full)))
    (h_Full_l : K.lookup c_Full = some (excClassObj nm_Full q_Full c_Full N_Full bs_Full bm_Full true sn_Full sub_Full ab_Full col_Full dd_Full m0_Full m1_Full m2_Full m3_Full m5_Full "ValueError.__new__"))
    (h_Full_bm : PySem.HandSPX.refsVE bm_Full = true)
    (h_Full_sa : PySem.W.findIn K (.ref c_Full) "__setattr__" = some (some (.builtin "object.__setattr__")))
    (h_Full_ex : PySem.W.subIn K (.ref c_Full) (.type "BaseException") = some true)
    (h_Full_ty : PySem.W.typeIn K (.ref c_Full) = some (.type "type"))
    (h_Full_kp : PySem.W.keepIn K (.ref c_Full) = true)
    (h_Full_ga : PySem.W.findIn K (.ref c_Full) "__getattribute__" = some (some (.builtin "BaseException.__getattribute__")))
    (h_Full_gg : PySem.W.findIn K (.ref c_Full) "__getattr__" = some none)
    (h_Full_hd : PySem.W.hasDictIn K c_Full = true)
    (h_Full_cls : PySem.W.findIn K (.ref c_Full) "__class__" = some (some (.builtin "object.__class__")))
    (h_Full_mro : PySem.W.mroIn K c_Full (.type "object") = some true)
    (h_nx_Full_night : PySem.W.findIn K (.ref c_Full) "night" = some none)
    (a_Full___init__ : PySem.W.findIn K (.ref c_Full) "__init__" = some (some (.ref f_Full___init__)))
    (i_Full___init__ : PySem.W.isFn K (.ref f_Full___init__) = true)
    (l_Full___init__ : K.lookup f_Full___init__ = some ⟨oc_Full___init__, od_Full___init__, .func (PySem.W.fnOf "__init__" "Full.__init__" (defArgs s_Full___init__) (defBody s_Full___init__) (defScope s_Full___init__) .none kV_Full___init__ dc_Full___init__ pm_Full___init__ an_Full___init__ cd_Full___init__ ct_Full___init__), sl_Full___init__⟩)
    (c_Full___init___ : PySem.W.codeIn K cd_Full___init__ "Full.__init__" = true)
    (k_Full___init__ : PySem.W.keepIn K (.ref f_Full___init__) = true)
    (t_Full___init__ : PySem.W.typeIn K (.ref f_Full___init__) = some (.type "function"))
    (a_Loose : PySem.W.nsIn K mainGlobals "Loose" = some (some (.ref c_Loose)))
    (h_Loose_l : K.lookup c_Loose = some (excClassObj nm_Loose q_Loose c_Loose N_Loose bs_Loose bm_Loose true sn_Loose sub_Loose ab_Loose col_Loose dd_Loose m0_Loose m1_Loose m2_Loose m3_Loose m5_Loose "ValueError.__new__"))
    (h_Loose_bm : PySem.HandSPX.refsVE bm_Loose = true)
    (h_Loose_sa : PySem.W.findIn K (.ref c_Loose) "__setattr__" = some (some (.builtin "object.__setattr__")))
    (h_Loose_ex : PySem.W.subIn K (.ref c_Loose) (.type "BaseException") = some true)
    (h_Loose_ty : PySem.W.typeIn K (.ref c_Loose) = some (.type "type"))
    (h_Loose_kp : PySem.W.keepIn K (.ref c_Loose) = true)
    (h_Loose_ga : PySem.W.findIn K (.ref c_Loose) "__getattribute__" = some (some (.builtin "BaseException.__getattribute__")))
    (h_Loose_gg : PySem.W.findIn K (.ref c_Loose) "__getattr__" = some none)
    (h_Loose_hd : PySem.W.hasDictIn K c_Loose = true)
    (h_Loose_cls : PySem.W.findIn K (.ref c_Loose) "__class__" = some (some (.builtin "object.__class__")))
    (h_Loose_mro : PySem.W.mroIn K c_Loose (.type "object") = some true)
    (h_nx_Loose_name : PySem.W.findIn K (.ref c_Loose) "name" = some none)
    (a_Loose___init__ : PySem.W.findIn K (.ref c_Loose) "__init__" = some (some (.ref f_Loose___init__)))
    (i_Loose___init__ : PySem.W.isFn K (.ref f_Loose___init__) = true)
    (l_Loose___init__ : K.lookup f_Loose___init__ = some ⟨oc_Loose___init__, od_Loose___init__, .func (PySem.W.fnOf "__init__" "Loose.__init__" (defArgs s_Loose___init__) (defBody s_Loose___init__) (defScope s_Loose___init__) .none kV_Loose___init__ dc_Loose___init__ pm_Loose___init__ an_Loose___init__ cd_Loose___init__ ct_Loose___init__), sl_Loose___init__⟩)
    (c_Loose___init___ : PySem.W.codeIn K cd_Loose___init__ "Loose.__init__" = true)
    (k_Loose___init__ : PySem.W.keepIn K (.ref f_Loose___init__) = true)
    (t_Loose___init__ : PySem.W.typeIn K (.ref f_Loose___init__) = some (.type "function"))
    (a_TooMany : PySem.W.nsIn K mainGlobals "TooMany" = some (some (.ref c_TooMany)))
    (h_TooMany_l : K.lookup c_TooMany = some (excClassObj nm_TooMany q_TooMany c_TooMany N_TooMany bs_TooMany bm_TooMany true sn_TooMany sub_TooMany ab_TooMany col_TooMany dd_TooMany m0_TooMany m1_TooMany m2_TooMany m3_TooMany m5_TooMany "ValueError.__new__"))
    (h_TooMany_bm : PySem.HandSPX.refsVE bm_TooMany = true)
    (h_TooMany_sa : PySem.W.findIn K (.ref c_TooMany) "__setattr__" = some (some (.builtin "object.__setattr__")))
    (h_TooMany_ex : PySem.W.subIn K (.ref c_TooMany) (.type "BaseException") = some true)
    (h_TooMany_ty : PySem.W.typeIn K (.ref c_TooMany) = some (.type "type"))
    (h_TooMany_kp : PySem.W.keepIn K (.ref c_TooMany) = true)
    (h_TooMany_ga : PySem.W.findIn K (.ref c_TooMany) "__getattribute__" = some (some (.builtin "BaseException.__getattribute__")))
    (h_TooMany_gg : PySem.W.findIn K (.ref c_TooMany) "__getattr__" = some none)
    (h_TooMany_hd : PySem.W.hasDictIn K c_TooMany = true)
    (h_TooMany_cls : PySem.W.findIn K (.ref c_TooMany) "__class__" = some (some (.builtin "object.__class__")))
    (h_TooMany_mro : PySem.W.mroIn K c_TooMany (.type "object") = some true)
    (h_nx_TooMany_what : PySem.W.findIn K (.ref c_TooMany) "what" = some none)
    (h_nx_TooMany_most : PySem.W.findIn K (.ref c_TooMany) "most" = some none)
    (a_TooMany___init__ : PySem.W.findIn K (.ref c_TooMany) "__init__" = some (some (.ref f_TooMany___init__)))
    (i_TooMany___init__ : PySem.W.isFn K (.ref f_TooMany___init__) = true)
    (l_TooMany___init__ : K.lookup f_TooMany___init__ = some ⟨oc_TooMany___init__, od_TooMany___init__, .func (PySem.W.fnOf "__init__" "TooMany.__init__" (defArgs s_TooMany___init__) (defBody s_TooMany___init__) (defScope s_TooMany___init__) .none kV_TooMany___init__ dc_TooMany___init__ pm_TooMany___init__ an_TooMany___init__ cd_TooMany___init__ ct_TooMany___init__), sl_TooMany___init__⟩)
    (c_TooMany___init___ : PySem.W.codeIn K cd_TooMany___init__ "TooMany.__init__" = true)
    (k_TooMany___init__ : PySem.W.keepIn K (.ref f_TooMany___init__) = true)
    (t_TooMany___init__ : PySem.W.typeIn K (.ref f_TooMany___init__) = some (.type "function"))
    (a_Dead : PySem.W.nsIn K mainGlobals "Dead" = some (some (.ref c_Dead)))
    (h_Dead_l : K.lookup c_Dead = some (excClassObj nm_Dead q_Dead c_Dead N_Dead bs_Dead bm_Dead true sn_Dead sub_Dead ab_Dead col_Dead dd_Dead m0_Dead m1_Dead m2_Dead m3_Dead m5_Dead "ValueError.__new__"))
    (h_Dead_bm : PySem.HandSPX.refsVE bm_Dead = true)
    (h_Dead_sa : PySem.W.findIn K (.ref c_Dead) "__setattr__" = some (some (.builtin "object.__setattr__")))
    (h_Dead_ex : PySem.W.subIn K (.ref c_Dead) (.type "BaseException") = some true)
    (h_Dead_ty : PySem.W.typeIn K (.ref c_Dead) = some (.type "type"))
    (h_Dead_kp : PySem.W.keepIn K (.ref c_Dead) = true)
    (h_Dead_ga : PySem.W.findIn K (.ref c_Dead) "__getattribute__" = some (some (.builtin "BaseException.__getattribute__")))
    (h_Dead_gg : PySem.W.findIn K (.ref c_Dead) "__getattr__" = some none)
    (h_Dead_hd : PySem.W.hasDictIn K c_Dead = true)
    (h_Dead_cls : PySem.W.findIn K (.ref c_Dead) "__class__" = some (some (.builtin "object.__class__")))
    (h_Dead_mro : PySem.W.mroIn K c_Dead (.type "object") = some true)
    (h_nx_Dead_bar : PySem.W.findIn K (.ref c_Dead) "bar" = some none)
    (a_Dead___init__ : PySem.W.findIn K (.ref c_Dead) "__init__" = some (some (.ref f_Dead___init__)))
    (i_Dead___init__ : PySem.W.isFn K (.ref f_Dead___init__) = true)
    (l_Dead___init__ : K.lookup f_Dead___init__ = some ⟨oc_Dead___init__, od_Dead___init__, .func (PySem.W.fnOf "__init__" "Dead.__init__" (defArgs s_Dead___init__) (defBody s_Dead___init__) (defScope s_Dead___init__) .none kV_Dead___init__ dc_Dead___init__ pm_Dead___init__ an_Dead___init__ cd_Dead___init__ ct_Dead___init__), sl_Dead___init__⟩)
    (c_Dead___init___ : PySem.W.codeIn K cd_Dead___init__ "Dead.__init__" = true)
    (k_Dead___init__ : PySem.W.keepIn K (.ref f_Dead___init__) = true)
    (t_Dead___init__ : PySem.W.typeIn K (.ref f_Dead___init__) = some (.type "function"))
    (a_NoDeed : PySem.W.nsIn K mainGlobals "NoDeed" = some (some (.ref c_NoDeed)))
    (h_NoDeed_l : K.lookup c_NoDeed = some (excClassObj nm_NoDeed q_NoDeed c_NoDeed N_NoDeed bs_NoDeed bm_NoDeed true sn_NoDeed sub_NoDeed ab_NoDeed col_NoDeed dd_NoDeed m0_NoDeed m1_NoDeed m2_NoDeed m3_NoDeed m5_NoDeed "ValueError.__new__"))
    (h_NoDeed_bm : PySem.HandSPX.refsVE bm_NoDeed = true)
    (h_NoDeed_sa : PySem.W.findIn K (.ref c_NoDeed) "__setattr__" = some (some (.builtin "object.__setattr__")))
    (h_NoDeed_ex : PySem.W.subIn K (.ref c_NoDeed) (.type "BaseException") = some true)
    (h_NoDeed_ty : PySem.W.typeIn K (.ref c_NoDeed) = some (.type "type"))
    (h_NoDeed_kp : PySem.W.keepIn K (.ref c_NoDeed) = true)
    (h_NoDeed_ga : PySem.W.findIn K (.ref c_NoDeed) "__getattribute__" = some (some (.builtin "BaseException.__getattribute__")))
    (h_NoDeed_gg : PySem.W.findIn K (.ref c_NoDeed) "__getattr__" = some none)
    (h_NoDeed_hd : PySem.W.hasDictIn K c_NoDeed = true)
    (h_NoDeed_cls : PySem.W.findIn K (.ref c_NoDeed) "__class__" = some (some (.builtin "object.__class__")))
    (h_NoDeed_mro : PySem.W.mroIn K c_NoDeed (.type "object") = some true)
    (h_in0_NoDeed : PySem.W.findIn K (.ref c_NoDeed) "__init__" = some (some (.builtin "ValueError.__init__")))
    (a_NoHouse : PySem.W.nsIn K mainGlobals "NoHouse" = some (some (.ref c_NoHouse)))
    (h_NoHouse_l : K.lookup c_NoHouse = some (excClassObj nm_NoHouse q_NoHouse c_NoHouse N_NoHouse bs_NoHouse bm_NoHouse true sn_NoHouse sub_NoHouse ab_NoHouse col_NoHouse dd_NoHouse m0_NoHouse m1_NoHouse m2_NoHouse m3_NoHouse m5_NoHouse "ValueError.__new__"))
    (h_NoHouse_bm : PySem.HandSPX.refsVE bm_NoHouse = true)
    (h_NoHouse_sa : PySem.W.findIn K (.ref c_NoHouse) "__setattr__" = some (some (.builtin "object.__setattr__")))
    (h_NoHouse_ex : PySem.W.subIn K (.ref c_NoHouse) (.type "BaseException") = some true)
    (h_NoHouse_ty : PySem.W.typeIn K (.ref c_NoHouse) = some (.type "type"))
    (h_NoHouse_kp : PySem.W.keepIn K (.ref c_NoHouse) = true)
    (h_NoHouse_ga : PySem.W.findIn K (.ref c_NoHouse) "__getattribute__" = some (some (.builtin "BaseException.__getattribute__")))
    (h_NoHouse_gg : PySem.W.findIn K (.ref c_NoHouse) "__getattr__" = some none)
    (h_NoHouse_hd : PySem.W.hasDictIn K c_NoHouse = true)
    (h_NoHouse_cls : PySem.W.findIn K (.ref c_NoHouse) "__class__" = some (some (.builtin "object.__class__")))
    (h_NoHouse_mro : PySem.W.mroIn K c_NoHouse (.type "object") = some true)
    (h_in0_NoHouse : PySem.W.findIn K (.ref c_NoHouse) "__init__" = some (some (.builtin "ValueError.__init__")))
    (h_kit : kitTab K [c_StayError, c_BadInput, c_Refused, c_NoAnswer, c_BadLengths, c_BadDays, c_BadStay, c_BadRule, c_BadBook, c_BadStretch, c_BadCalendar, c_BadDoor, c_BadName, c_BadCount, c_BadWish, c_BadRow, c_BadText, c_BadLine, c_Taken, c_NoGuest, c_NotLet, c_Outside, c_Full, c_Loose, c_TooMany, c_Dead, c_NoDeed, c_NoHouse] = kitR.map (·.map some))
    (h_kitVE : PySem.W.kitOne K (.ref c_StayError) (.type "ValueError") = some true)
    (a__law_pen : PySem.W.nsIn K mainGlobals "_law_pen" = some (some (.ref f__law_pen)))
    (l__law_pen : K.lookup f__law_pen = some ⟨oc__law_pen, od__law_pen, .func (PySem.W.fnOf "_law_pen" "_law_pen" (defArgs s__law_pen) (defBody s__law_pen) (defScope s__law_pen) .none kV__law_pen dc__law_pen pm__law_pen an__law_pen cd__law_pen ct__law_pen), sl__law_pen⟩)
    (c__law_pen_ : PySem.W.codeIn K cd__law_pen "_law_pen" = true)
    (k__law_pen : PySem.W.keepIn K (.ref f__law_pen) = true)
    (a__law_draw : PySem.W.nsIn K mainGlobals "_law_draw" = some (some (.ref f__law_draw)))
    (l__law_draw : K.lookup f__law_draw = some ⟨oc__law_draw, od__law_draw, .func (PySem.W.fnOf "_law_draw" "_law_draw" (defArgs s__law_draw) (defBody s__law_draw) (defScope s__law_draw) .none kV__law_draw dc__law_draw pm__law_draw an__law_draw cd__law_draw ct__law_draw), sl__law_draw⟩)
    (c__law_draw_ : PySem.W.codeIn K cd__law_draw "_law_draw" = true)
    (k__law_draw : PySem.W.keepIn K (.ref f__law_draw) = true)
    (a__law_pick : PySem.W.nsIn K mainGlobals "_law_pick" = some (some (.ref f__law_pick)))
    (l__law_pick : K.lookup f__law_pick = some ⟨oc__law_pick, od__law_pick, .func (PySem.W.fnOf "_law_pick" "_law_pick" (defArgs s__law_pick) (defBody s__law_pick) (defScope s__law_pick) .none kV__law_pick dc__law_pick pm__law_pick an__law_pick cd__law_pick ct__law_pick), sl__law_pick⟩)
    (c__law_pick_ : PySem.W.codeIn K cd__law_pick "_law_pick" = true)
    (k__law_pick : PySem.W.keepIn K (.ref f__law_pick) = true)
    (a__law_value : PySem.W.nsIn K mainGlobals "_law_value" = some (some (.ref f__law_value)))
    (l__law_value : K.lookup f__law_value = some ⟨oc__law_value, od__law_value, .func (PySem.W.fnOf "_law_value" "_law_value" (defArgs s__law_value) (defBody s__law_value) (defScope s__law_value) .none kV__law_value dc__law_value pm__law_value an__law_value cd__law_value ct__law_value), sl__law_value⟩)
    (c__law_value_ : PySem.W.codeIn K cd__law_value "_law_value" = true)
    (k__law_value : PySem.W.keepIn K (.ref f__law_value) = true)
    (a__law_raised : PySem.W.nsIn K mainGlobals "_law_raised" = some (some (.ref f__law_raised)))
    (l__law_raised : K.lookup f__law_raised = some ⟨oc__law_raised, od__law_raised, .func (PySem.W.fnOf "_law_raised" "_law_raised" (defArgs s__law_raised) (defBody s__law_raised) (defScope s__law_raised) .none kV__law_raised dc__law_raised pm__law_raised an__law_raised cd__law_raised ct__law_raised), sl__law_raised⟩)
    (c__law_raised_ : PySem.W.codeIn K cd__law_raised "_law_raised" = true)
    (k__law_raised : PySem.W.keepIn K (.ref f__law_raised) = true)
    (a__law_signs : PySem.W.nsIn K mainGlobals "_law_signs" = some (some (.ref f__law_signs)))
    (l__law_signs : K.lookup f__law_signs = some ⟨oc__law_signs, od__law_signs, .func (PySem.W.fnOf "_law_signs" "_law_signs" (defArgs s__law_signs) (defBody s__law_signs) (defScope s__law_signs) .none kV__law_signs dc__law_signs pm__law_signs an__law_signs cd__law_signs ct__law_signs), sl__law_signs⟩)
    (c__law_signs_ : PySem.W.codeIn K cd__law_signs "_law_signs" = true)
    (k__law_signs : PySem.W.keepIn K (.ref f__law_signs) = true)
    (a__law_inputs : PySem.W.nsIn K mainGlobals "_law_inputs" = some (some (.ref f__law_inputs)))
    (l__law_inputs : K.lookup f__law_inputs = some ⟨oc__law_inputs, od__law_inputs, .func (PySem.W.fnOf "_law_inputs" "_law_inputs" (defArgs s__law_inputs) (defBody s__law_inputs) (defScope s__law_inputs) .none kV__law_inputs dc__law_inputs pm__law_inputs an__law_inputs cd__law_inputs ct__law_inputs), sl__law_inputs⟩)
    (c__law_inputs_ : PySem.W.codeIn K cd__law_inputs "_law_inputs" = true)
    (k__law_inputs : PySem.W.keepIn K (.ref f__law_inputs) = true)
    (a__law_others : PySem.W.nsIn K mainGlobals "_law_others" = some (some (.ref f__law_others)))
    (l__law_others : K.lookup f__law_others = some ⟨oc__law_others, od__law_others, .func (PySem.W.fnOf "_law_others" "_law_others" (defArgs s__law_others) (defBody s__law_others) (defScope s__law_others) .none kV__law_others dc__law_others pm__law_others an__law_others cd__law_others ct__law_others), sl__law_others⟩)
    (c__law_others_ : PySem.W.codeIn K cd__law_others "_law_others" = true)
    (k__law_others : PySem.W.keepIn K (.ref f__law_others) = true)
    (a_law : PySem.W.nsIn K mainGlobals "law" = some (some (.ref f_law)))
    (l_law : K.lookup f_law = some ⟨oc_law, od_law, .func (PySem.W.fnOf "law" "law" (defArgs s_law) (defBody s_law) (defScope s_law) .none kV_law dc_law pm_law an_law cd_law ct_law), sl_law⟩)
    (c_law_ : PySem.W.codeIn K cd_law "law" = true)
    (k_law : PySem.W.keepIn K (.ref f_law) = true)
    (z_isinstance : PySem.W.nsIn K mainGlobals "isinstance" = some none)
    (z_int : PySem.W.nsIn K mainGlobals "int" = some none)
    (z_len : PySem.W.nsIn K mainGlobals "len" = some none)
    (z_list : PySem.W.nsIn K mainGlobals "list" = some none)
    (z_abs : PySem.W.nsIn K mainGlobals "abs" = some none)
    (z_range : PySem.W.nsIn K mainGlobals "range" = some none)
    (z_repr : PySem.W.nsIn K mainGlobals "repr" = some none)
    (z_ValueError : PySem.W.nsIn K mainGlobals "ValueError" = some none)
    : LawAtG l w K CX0 40 63 "script" mg fa h := by
  have F_BadLengths___init__ := fun_mk (st := s_BadLengths___init__) l_BadLengths___init__ c_BadLengths___init___ k_BadLengths___init__
  have F_BadDays___init__ := fun_mk (st := s_BadDays___init__) l_BadDays___init__ c_BadDays___init___ k_BadDays___init__
  have F_BadStay___init__ := fun_mk (st := s_BadStay___init__) l_BadStay___init__ c_BadStay___init___ k_BadStay___init__
  have F_BadRule___init__ := fun_mk (st := s_BadRule___init__) l_BadRule___init__ c_BadRule___init___ k_BadRule___init__
  have F_BadBook___init__ := fun_mk (st := s_BadBook___init__) l_BadBook___init__ c_BadBook___init___ k_BadBook___init__
  have F_BadStretch___init__ := fun_mk (st := s_BadStretch___init__) l_BadStretch___init__ c_BadStretch___init___ k_BadStretch___init__
  have F_BadCalendar___init__ := fun_mk (st := s_BadCalendar___init__) l_BadCalendar___init__ c_BadCalendar___init___ k_BadCalendar___init__
  have F_BadDoor___init__ := fun_mk (st := s_BadDoor___init__) l_BadDoor___init__ c_BadDoor___init___ k_BadDoor___init__
  have F_BadName___init__ := fun_mk (st := s_BadName___init__) l_BadName___init__ c_BadName___init___ k_BadName___init__
  have F_BadCount___init__ := fun_mk (st := s_BadCount___init__) l_BadCount___init__ c_BadCount___init___ k_BadCount___init__
  have F_BadWish___init__ := fun_mk (st := s_BadWish___init__) l_BadWish___init__ c_BadWish___init___ k_BadWish___init__
  have F_BadRow___init__ := fun_mk (st := s_BadRow___init__) l_BadRow___init__ c_BadRow___init___ k_BadRow___init__
  have F_BadText___init__ := fun_mk (st := s_BadText___init__) l_BadText___init__ c_BadText___init___ k_BadText___init__
  have F_BadLine___init__ := fun_mk (st := s_BadLine___init__) l_BadLine___init__ c_BadLine___init___ k_BadLine___init__
  have F_Taken___init__ := fun_mk (st := s_Taken___init__) l_Taken___init__ c_Taken___init___ k_Taken___init__
  have F_NoGuest___init__ := fun_mk (st := s_NoGuest___init__) l_NoGuest___init__ c_NoGuest___init___ k_NoGuest___init__
  have F_NotLet___init__ := fun_mk (st := s_NotLet___init__) l_NotLet___init__ c_NotLet___init___ k_NotLet___init__
  have F_Outside___init__ := fun_mk (st := s_Outside___init__) l_Outside___init__ c_Outside___init___ k_Outside___init__
  have F_Full___init__ := fun_mk (st := s_Full___init__) l_Full___init__ c_Full___init___ k_Full___init__
  have F_Loose___init__ := fun_mk (st := s_Loose___init__) l_Loose___init__ c_Loose___init___ k_Loose___init__
  have F_TooMany___init__ := fun_mk (st := s_TooMany___init__) l_TooMany___init__ c_TooMany___init___ k_TooMany___init__
  have F_Dead___init__ := fun_mk (st := s_Dead___init__) l_Dead___init__ c_Dead___init___ k_Dead___init__
  have F__law_pen := fun_mk (st := s__law_pen) l__law_pen c__law_pen_ k__law_pen
  have F__law_draw := fun_mk (st := s__law_draw) l__law_draw c__law_draw_ k__law_draw
  have F__law_pick := fun_mk (st := s__law_pick) l__law_pick c__law_pick_ k__law_pick
  have F__law_value := fun_mk (st := s__law_value) l__law_value c__law_value_ k__law_value
  have F__law_raised := fun_mk (st := s__law_raised) l__law_raised c__law_raised_ k__law_raised
  have F__law_signs := fun_mk (st := s__law_signs) l__law_signs c__law_signs_ k__law_signs
  have F__law_inputs := fun_mk (st := s__law_inputs) l__law_inputs c__law_inputs_ k__law_inputs
  have F__law_others := fun_mk (st := s__law_others) l__law_others c__law_others_ k__law_others
  have F_law := fun_mk (st := s_law) l_law c_law_ k_law
  have ef : f_law = fa := Value.ref.inj (Option.some.inj ((PySem.W.mg_of X G a_law).symm.trans hfa))
  exact law_at (T := {
    c_StayError := c_StayError
    c_BadInput := c_BadInput
    c_Refused := c_Refused
    c_NoAnswer := c_NoAnswer
    c_BadLengths := c_BadLengths
    f_BadLengths___init__ := f_BadLengths___init__
    d_BadLengths___init__ := PySem.W.fnOf "__init__" "BadLengths.__init__" (defArgs s_BadLengths___init__) (defBody s_BadLengths___init__) (defScope s_BadLengths___init__) .none kV_BadLengths___init__ dc_BadLengths___init__ pm_BadLengths___init__ an_BadLengths___init__ cd_BadLengths___init__ ct_BadLengths___init__
    c_BadDays := c_BadDays
    f_BadDays___init__ := f_BadDays___init__
    d_BadDays___init__ := PySem.W.fnOf "__init__" "BadDays.__init__" (defArgs s_BadDays___init__) (defBody s_BadDays___init__) (defScope s_BadDays___init__) .none kV_BadDays___init__ dc_BadDays___init__ pm_BadDays___init__ an_BadDays___init__ cd_BadDays___init__ ct_BadDays___init__
    c_BadStay := c_BadStay
    f_BadStay___init__ := f_BadStay___init__
    d_BadStay___init__ := PySem.W.fnOf "__init__" "BadStay.__init__" (defArgs s_BadStay___init__) (defBody s_BadStay___init__) (defScope s_BadStay___init__) .none kV_BadStay___init__ dc_BadStay___init__ pm_BadStay___init__ an_BadStay___init__ cd_BadStay___init__ ct_BadStay___init__
    c_BadRule := c_BadRule
    f_BadRule___init__ := f_BadRule___init__
    d_BadRule___init__ := PySem.W.fnOf "__init__" "BadRule.__init__" (defArgs s_BadRule___init__) (defBody s_BadRule___init__) (defScope s_BadRule___init__) .none kV_BadRule___init__ dc_BadRule___init__ pm_BadRule___init__ an_BadRule___init__ cd_BadRule___init__ ct_BadRule___init__
    c_BadBook := c_BadBook
    f_BadBook___init__ := f_BadBook___init__
    d_BadBook___init__ := PySem.W.fnOf "__init__" "BadBook.__init__" (defArgs s_BadBook___init__) (defBody s_BadBook___init__) (defScope s_BadBook___init__) .none kV_BadBook___init__ dc_BadBook___init__ pm_BadBook___init__ an_BadBook___init__ cd_BadBook___init__ ct_BadBook___init__
    c_BadStretch := c_BadStretch
    f_BadStretch___init__ := f_BadStretch___init__
    d_BadStretch___init__ := PySem.W.fnOf "__init__" "BadStretch.__init__" (defArgs s_BadStretch___init__) (defBody s_BadStretch___init__) (defScope s_BadStretch___init__) .none kV_BadStretch___init__ dc_BadStretch___init__ pm_BadStretch___init__ an_BadStretch___init__ cd_BadStretch___init__ ct_BadStretch___init__
    c_BadCalendar := c_BadCalendar
    f_BadCalendar___init__ := f_BadCalendar___init__
    d_BadCalendar___init__ := PySem.W.fnOf "__init__" "BadCalendar.__init__" (defArgs s_BadCalendar___init__) (defBody s_BadCalendar___init__) (defScope s_BadCalendar___init__) .none kV_BadCalendar___init__ dc_BadCalendar___init__ pm_BadCalendar___init__ an_BadCalendar___init__ cd_BadCalendar___init__ ct_BadCalendar___init__
    c_BadDoor := c_BadDoor
    f_BadDoor___init__ := f_BadDoor___init__
    d_BadDoor___init__ := PySem.W.fnOf "__init__" "BadDoor.__init__" (defArgs s_BadDoor___init__) (defBody s_BadDoor___init__) (defScope s_BadDoor___init__) .none kV_BadDoor___init__ dc_BadDoor___init__ pm_BadDoor___init__ an_BadDoor___init__ cd_BadDoor___init__ ct_BadDoor___init__
    c_BadName := c_BadName
    f_BadName___init__ := f_BadName___init__
    d_BadName___init__ := PySem.W.fnOf "__init__" "BadName.__init__" (defArgs s_BadName___init__) (defBody s_BadName___init__) (defScope s_BadName___init__) .none kV_BadName___init__ dc_BadName___init__ pm_BadName___init__ an_BadName___init__ cd_BadName___init__ ct_BadName___init__
    c_BadCount := c_BadCount
    f_BadCount___init__ := f_BadCount___init__
    d_BadCount___init__ := PySem.W.fnOf "__init__" "BadCount.__init__" (defArgs s_BadCount___init__) (defBody s_BadCount___init__) (defScope s_BadCount___init__) .none kV_BadCount___init__ dc_BadCount___init__ pm_BadCount___init__ an_BadCount___init__ cd_BadCount___init__ ct_BadCount___init__
    c_BadWish := c_BadWish
    f_BadWish___init__ := f_BadWish___init__
    d_BadWish___init__ := PySem.W.fnOf "__init__" "BadWish.__init__" (defArgs s_BadWish___init__) (defBody s_BadWish___init__) (defScope s_BadWish___init__) .none kV_BadWish___init__ dc_BadWish___init__ pm_BadWish___init__ an_BadWish___init__ cd_BadWish___init__ ct_BadWish___init__
    c_BadRow := c_BadRow
    f_BadRow___init__ := f_BadRow___init__
    d_BadRow___init__ := PySem.W.fnOf "__init__" "BadRow.__init__" (defArgs s_BadRow___init__) (defBody s_BadRow___init__) (defScope s_BadRow___init__) .none kV_BadRow___init__ dc_BadRow___init__ pm_BadRow___init__ an_BadRow___init__ cd_BadRow___init__ ct_BadRow___init__
    c_BadText := c_BadText
    f_BadText___init__ := f_BadText___init__
    d_BadText___init__ := PySem.W.fnOf "__init__" "BadText.__init__" (defArgs s_BadText___init__) (defBody s_BadText___init__) (defScope s_BadText___init__) .none kV_BadText___init__ dc_BadText___init__ pm_BadText___init__ an_BadText___init__ cd_BadText___init__ ct_BadText___init__
    c_BadLine := c_BadLine
    f_BadLine___init__ := f_BadLine___init__
    d_BadLine___init__ := PySem.W.fnOf "__init__" "BadLine.__init__" (defArgs s_BadLine___init__) (defBody s_BadLine___init__) (defScope s_BadLine___init__) .none kV_BadLine___init__ dc_BadLine___init__ pm_BadLine___init__ an_BadLine___init__ cd_BadLine___init__ ct_BadLine___init__
    c_Taken := c_Taken
    f_Taken___init__ := f_Taken___init__
    d_Taken___init__ := PySem.W.fnOf "__init__" "Taken.__init__" (defArgs s_Taken___init__) (defBody s_Taken___init__) (defScope s_Taken___init__) .none kV_Taken___init__ dc_Taken___init__ pm_Taken___init__ an_Taken___init__ cd_Taken___init__ ct_Taken___init__
    c_NoGuest := c_NoGuest
    f_NoGuest___init__ := f_NoGuest___init__
    d_NoGuest___init__ := PySem.W.fnOf "__init__" "NoGuest.__init__" (defArgs s_NoGuest___init__) (defBody s_NoGuest___init__) (defScope s_NoGuest___init__) .none kV_NoGuest___init__ dc_NoGuest___init__ pm_NoGuest___init__ an_NoGuest___init__ cd_NoGuest___init__ ct_NoGuest___init__
    c_NotLet := c_NotLet
    f_NotLet___init__ := f_NotLet___init__
    d_NotLet___init__ := PySem.W.fnOf "__init__" "NotLet.__init__" (defArgs s_NotLet___init__) (defBody s_NotLet___init__) (defScope s_NotLet___init__) .none kV_NotLet___init__ dc_NotLet___init__ pm_NotLet___init__ an_NotLet___init__ cd_NotLet___init__ ct_NotLet___init__
    c_Outside := c_Outside
    f_Outside___init__ := f_Outside___init__
    d_Outside___init__ := PySem.W.fnOf "__init__" "Outside.__init__" (defArgs s_Outside___init__) (defBody s_Outside___init__) (defScope s_Outside___init__) .none kV_Outside___init__ dc_Outside___init__ pm_Outside___init__ an_Outside___init__ cd_Outside___init__ ct_Outside___init__
    c_Full := c_Full
    f_Full___init__ := f_Full___init__
    d_Full___init__ := PySem.W.fnOf "__init__" "Full.__init__" (defArgs s_Full___init__) (defBody s_Full___init__) (defScope s_Full___init__) .none kV_Full___init__ dc_Full___init__ pm_Full___init__ an_Full___init__ cd_Full___init__ ct_Full___init__
    c_Loose := c_Loose
    f_Loose___init__ := f_Loose___init__
    d_Loose___init__ := PySem.W.fnOf "__init__" "Loose.__init__" (defArgs s_Loose___init__) (defBody s_Loose___init__) (defScope s_Loose___init__) .none kV_Loose___init__ dc_Loose___init__ pm_Loose___init__ an_Loose___init__ cd_Loose___init__ ct_Loose___init__
    c_TooMany := c_TooMany
    f_TooMany___init__ := f_TooMany___init__
    d_TooMany___init__ := PySem.W.fnOf "__init__" "TooMany.__init__" (defArgs s_TooMany___init__) (defBody s_TooMany___init__) (defScope s_TooMany___init__) .none kV_TooMany___init__ dc_TooMany___init__ pm_TooMany___init__ an_TooMany___init__ cd_TooMany___init__ ct_TooMany___init__
    c_Dead := c_Dead
    f_Dead___init__ := f_Dead___init__
    d_Dead___init__ := PySem.W.fnOf "__init__" "Dead.__init__" (defArgs s_Dead___init__) (defBody s_Dead___init__) (defScope s_Dead___init__) .none kV_Dead___init__ dc_Dead___init__ pm_Dead___init__ an_Dead___init__ cd_Dead___init__ ct_Dead___init__
    c_NoDeed := c_NoDeed
    c_NoHouse := c_NoHouse
    f__law_pen := f__law_pen
    d__law_pen := PySem.W.fnOf "_law_pen" "_law_pen" (defArgs s__law_pen) (defBody s__law_pen) (defScope s__law_pen) .none kV__law_pen dc__law_pen pm__law_pen an__law_pen cd__law_pen ct__law_pen
    f__law_draw := f__law_draw
    d__law_draw := PySem.W.fnOf "_law_draw" "_law_draw" (defArgs s__law_draw) (defBody s__law_draw) (defScope s__law_draw) .none kV__law_draw dc__law_draw pm__law_draw an__law_draw cd__law_draw ct__law_draw
    f__law_pick := f__law_pick
    d__law_pick := PySem.W.fnOf "_law_pick" "_law_pick" (defArgs s__law_pick) (defBody s__law_pick) (defScope s__law_pick) .none kV__law_pick dc__law_pick pm__law_pick an__law_pick cd__law_pick ct__law_pick
    f__law_value := f__law_value
    d__law_value := PySem.W.fnOf "_law_value" "_law_value" (defArgs s__law_value) (defBody s__law_value) (defScope s__law_value) .none kV__law_value dc__law_value pm__law_value an__law_value cd__law_value ct__law_value
    f__law_raised := f__law_raised
    d__law_raised := PySem.W.fnOf "_law_raised" "_law_raised" (defArgs s__law_raised) (defBody s__law_raised) (defScope s__law_raised) .none kV__law_raised dc__law_raised pm__law_raised an__law_raised cd__law_raised ct__law_raised
    f__law_signs := f__law_signs
    d__law_signs := PySem.W.fnOf "_law_signs" "_law_signs" (defArgs s__law_signs) (defBody s__law_signs) (defScope s__law_signs) .none kV__law_signs dc__law_signs pm__law_signs an__law_signs cd__law_signs ct__law_signs
    f__law_inputs := f__law_inputs
    d__law_inputs := PySem.W.fnOf "_law_inputs" "_law_inputs" (defArgs s__law_inputs) (defBody s__law_inputs) (defScope s__law_inputs) .none kV__law_inputs dc__law_inputs pm__law_inputs an__law_inputs cd__law_inputs ct__law_inputs
    f__law_others := f__law_others
    d__law_others := PySem.W.fnOf "_law_others" "_law_others" (defArgs s__law_others) (defBody s__law_others) (defScope s__law_others) .none kV__law_others dc__law_others pm__law_others an__law_others cd__law_others ct__law_others
    f_law := f_law
    d_law := PySem.W.fnOf "law" "law" (defArgs s_law) (defBody s_law) (defScope s_law) .none kV_law dc_law pm_law an_law cd_law ct_law
    g_StayError := PySem.W.mg_of X G a_StayError
    x_StayError := ⟨⟨nm_StayError, q_StayError, N_StayError, bs_StayError, bm_StayError, sn_StayError, sub_StayError, ab_StayError, col_StayError, dd_StayError, m0_StayError, m1_StayError, m2_StayError, m3_StayError, m5_StayError, h_StayError_l, h_StayError_bm⟩, h_StayError_sa, h_StayError_ex, h_StayError_ty, h_StayError_kp⟩
    xf_StayError := ⟨h_StayError_ga, h_StayError_gg, h_StayError_ex, h_StayError_hd⟩
    xc_StayError := ⟨h_StayError_ga, h_StayError_gg, h_StayError_ex, h_StayError_hd, h_StayError_cls, h_cget, h_ctak, h_StayError_mro⟩
    in0_StayError := h_in0_StayError
    g_BadInput := PySem.W.mg_of X G a_BadInput
    x_BadInput := ⟨⟨nm_BadInput, q_BadInput, N_BadInput, bs_BadInput, bm_BadInput, sn_BadInput, sub_BadInput, ab_BadInput, col_BadInput, dd_BadInput, m0_BadInput, m1_BadInput, m2_BadInput, m3_BadInput, m5_BadInput, h_BadInput_l, h_BadInput_bm⟩, h_BadInput_sa, h_BadInput_ex, h_BadInput_ty, h_BadInput_kp⟩
    xf_BadInput := ⟨h_BadInput_ga, h_BadInput_gg, h_BadInput_ex, h_BadInput_hd⟩
    xc_BadInput := ⟨h_BadInput_ga, h_BadInput_gg, h_BadInput_ex, h_BadInput_hd, h_BadInput_cls, h_cget, h_ctak, h_BadInput_mro⟩
    in0_BadInput := h_in0_BadInput
    g_Refused := PySem.W.mg_of X G a_Refused
    x_Refused := ⟨⟨nm_Refused, q_Refused, N_Refused, bs_Refused, bm_Refused, sn_Refused, sub_Refused, ab_Refused, col_Refused, dd_Refused, m0_Refused, m1_Refused, m2_Refused, m3_Refused, m5_Refused, h_Refused_l, h_Refused_bm⟩, h_Refused_sa, h_Refused_ex, h_Refused_ty, h_Refused_kp⟩
    xf_Refused := ⟨h_Refused_ga, h_Refused_gg, h_Refused_ex, h_Refused_hd⟩
    xc_Refused := ⟨h_Refused_ga, h_Refused_gg, h_Refused_ex, h_Refused_hd, h_Refused_cls, h_cget, h_ctak, h_Refused_mro⟩
    in0_Refused := h_in0_Refused
    g_NoAnswer := PySem.W.mg_of X G a_NoAnswer
    x_NoAnswer := ⟨⟨nm_NoAnswer, q_NoAnswer, N_NoAnswer, bs_NoAnswer, bm_NoAnswer, sn_NoAnswer, sub_NoAnswer, ab_NoAnswer, col_NoAnswer, dd_NoAnswer, m0_NoAnswer, m1_NoAnswer, m2_NoAnswer, m3_NoAnswer, m5_NoAnswer, h_NoAnswer_l, h_NoAnswer_bm⟩, h_NoAnswer_sa, h_NoAnswer_ex, h_NoAnswer_ty, h_NoAnswer_kp⟩
    xf_NoAnswer := ⟨h_NoAnswer_ga, h_NoAnswer_gg, h_NoAnswer_ex, h_NoAnswer_hd⟩
    xc_NoAnswer := ⟨h_NoAnswer_ga, h_NoAnswer_gg, h_NoAnswer_ex, h_NoAnswer_hd, h_NoAnswer_cls, h_cget, h_ctak, h_NoAnswer_mro⟩
    in0_NoAnswer := h_in0_NoAnswer
    g_BadLengths := PySem.W.mg_of X G a_BadLengths
    x_BadLengths := ⟨⟨nm_BadLengths, q_BadLengths, N_BadLengths, bs_BadLengths, bm_BadLengths, sn_BadLengths, sub_BadLengths, ab_BadLengths, col_BadLengths, dd_BadLengths, m0_BadLengths, m1_BadLengths, m2_BadLengths, m3_BadLengths, m5_BadLengths, h_BadLengths_l, h_BadLengths_bm⟩, h_BadLengths_sa, h_BadLengths_ex, h_BadLengths_ty, h_BadLengths_kp⟩
    xf_BadLengths := ⟨h_BadLengths_ga, h_BadLengths_gg, h_BadLengths_ex, h_BadLengths_hd⟩
    xc_BadLengths := ⟨h_BadLengths_ga, h_BadLengths_gg, h_BadLengths_ex, h_BadLengths_hd, h_BadLengths_cls, h_cget, h_ctak, h_BadLengths_mro⟩
    nx_BadLengths_part := h_nx_BadLengths_part
    fi_BadLengths___init__ := a_BadLengths___init__
    isf_BadLengths___init__ := i_BadLengths___init__
    F_BadLengths___init__ := F_BadLengths___init__
    bd_BadLengths___init__ := F_BadLengths___init__.binds (ps := ["self", "part"]) fun _ _ _ _ _ _ us hl => match us, hl with | [_, _], _ => rfl
    ti_BadLengths := t_BadLengths___init__
    g_BadDays := PySem.W.mg_of X G a_BadDays
    x_BadDays := ⟨⟨nm_BadDays, q_BadDays, N_BadDays, bs_BadDays, bm_BadDays, sn_BadDays, sub_BadDays, ab_BadDays, col_BadDays, dd_BadDays, m0_BadDays, m1_BadDays, m2_BadDays, m3_BadDays, m5_BadDays, h_BadDays_l, h_BadDays_bm⟩, h_BadDays_sa, h_BadDays_ex, h_BadDays_ty, h_BadDays_kp⟩
    xf_BadDays := ⟨h_BadDays_ga, h_BadDays_gg, h_BadDays_ex, h_BadDays_hd⟩
    xc_BadDays := ⟨h_BadDays_ga, h_BadDays_gg, h_BadDays_ex, h_BadDays_hd, h_BadDays_cls, h_cget, h_ctak, h_BadDays_mro⟩
    nx_BadDays_part := h_nx_BadDays_part
    fi_BadDays___init__ := a_BadDays___init__
    isf_BadDays___init__ := i_BadDays___init__
    F_BadDays___init__ := F_BadDays___init__
    bd_BadDays___init__ := F_BadDays___init__.binds (ps := ["self", "part"]) fun _ _ _ _ _ _ us hl => match us, hl with | [_, _], _ => rfl
    ti_BadDays := t_BadDays___init__
    g_BadStay := PySem.W.mg_of X G a_BadStay
    x_BadStay := ⟨⟨nm_BadStay, q_BadStay, N_BadStay, bs_BadStay, bm_BadStay, sn_BadStay, sub_BadStay, ab_BadStay, col_BadStay, dd_BadStay, m0_BadStay, m1_BadStay, m2_BadStay, m3_BadStay, m5_BadStay, h_BadStay_l, h_BadStay_bm⟩, h_BadStay_sa, h_BadStay_ex, h_BadStay_ty, h_BadStay_kp⟩
    xf_BadStay := ⟨h_BadStay_ga, h_BadStay_gg, h_BadStay_ex, h_BadStay_hd⟩
    xc_BadStay := ⟨h_BadStay_ga, h_BadStay_gg, h_BadStay_ex, h_BadStay_hd, h_BadStay_cls, h_cget, h_ctak, h_BadStay_mro⟩
    nx_BadStay_part := h_nx_BadStay_part
    fi_BadStay___init__ := a_BadStay___init__
    isf_BadStay___init__ := i_BadStay___init__
    F_BadStay___init__ := F_BadStay___init__
    bd_BadStay___init__ := F_BadStay___init__.binds (ps := ["self", "part"]) fun _ _ _ _ _ _ us hl => match us, hl with | [_, _], _ => rfl
    ti_BadStay := t_BadStay___init__
    g_BadRule := PySem.W.mg_of X G a_BadRule
    x_BadRule := ⟨⟨nm_BadRule, q_BadRule, N_BadRule, bs_BadRule, bm_BadRule, sn_BadRule, sub_BadRule, ab_BadRule, col_BadRule, dd_BadRule, m0_BadRule, m1_BadRule, m2_BadRule, m3_BadRule, m5_BadRule, h_BadRule_l, h_BadRule_bm⟩, h_BadRule_sa, h_BadRule_ex, h_BadRule_ty, h_BadRule_kp⟩
    xf_BadRule := ⟨h_BadRule_ga, h_BadRule_gg, h_BadRule_ex, h_BadRule_hd⟩
    xc_BadRule := ⟨h_BadRule_ga, h_BadRule_gg, h_BadRule_ex, h_BadRule_hd, h_BadRule_cls, h_cget, h_ctak, h_BadRule_mro⟩
    nx_BadRule_part := h_nx_BadRule_part
    fi_BadRule___init__ := a_BadRule___init__
    isf_BadRule___init__ := i_BadRule___init__
    F_BadRule___init__ := F_BadRule___init__
    bd_BadRule___init__ := F_BadRule___init__.binds (ps := ["self", "part"]) fun _ _ _ _ _ _ us hl => match us, hl with | [_, _], _ => rfl
    ti_BadRule := t_BadRule___init__
    g_BadBook := PySem.W.mg_of X G a_BadBook
    x_BadBook := ⟨⟨nm_BadBook, q_BadBook, N_BadBook, bs_BadBook, bm_BadBook, sn_BadBook, sub_BadBook, ab_BadBook, col_BadBook, dd_BadBook, m0_BadBook, m1_BadBook, m2_BadBook, m3_BadBook, m5_BadBook, h_BadBook_l, h_BadBook_bm⟩, h_BadBook_sa, h_BadBook_ex, h_BadBook_ty, h_BadBook_kp⟩
    xf_BadBook := ⟨h_BadBook_ga, h_BadBook_gg, h_BadBook_ex, h_BadBook_hd⟩
    xc_BadBook := ⟨h_BadBook_ga, h_BadBook_gg, h_BadBook_ex, h_BadBook_hd, h_BadBook_cls, h_cget, h_ctak, h_BadBook_mro⟩
    nx_BadBook_part := h_nx_BadBook_part
    fi_BadBook___init__ := a_BadBook___init__
    isf_BadBook___init__ := i_BadBook___init__
    F_BadBook___init__ := F_BadBook___init__
    bd_BadBook___init__ := F_BadBook___init__.binds (ps := ["self", "part"]) fun _ _ _ _ _ _ us hl => match us, hl with | [_, _], _ => rfl
    ti_BadBook := t_BadBook___init__
    g_BadStretch := PySem.W.mg_of X G a_BadStretch
    x_BadStretch := ⟨⟨nm_BadStretch, q_BadStretch, N_BadStretch, bs_BadStretch, bm_BadStretch, sn_BadStretch, sub_BadStretch, ab_BadStretch, col_BadStretch, dd_BadStretch, m0_BadStretch, m1_BadStretch, m2_BadStretch, m3_BadStretch, m5_BadStretch, h_BadStretch_l, h_BadStretch_bm⟩, h_BadStretch_sa, h_BadStretch_ex, h_BadStretch_ty, h_BadStretch_kp⟩
    xf_BadStretch := ⟨h_BadStretch_ga, h_BadStretch_gg, h_BadStretch_ex, h_BadStretch_hd⟩
    xc_BadStretch := ⟨h_BadStretch_ga, h_BadStretch_gg, h_BadStretch_ex, h_BadStretch_hd, h_BadStretch_cls, h_cget, h_ctak, h_BadStretch_mro⟩
    nx_BadStretch_part := h_nx_BadStretch_part
    fi_BadStretch___init__ := a_BadStretch___init__
    isf_BadStretch___init__ := i_BadStretch___init__
    F_BadStretch___init__ := F_BadStretch___init__
    bd_BadStretch___init__ := F_BadStretch___init__.binds (ps := ["self", "part"]) fun _ _ _ _ _ _ us hl => match us, hl with | [_, _], _ => rfl
    ti_BadStretch := t_BadStretch___init__
    g_BadCalendar := PySem.W.mg_of X G a_BadCalendar
    x_BadCalendar := ⟨⟨nm_BadCalendar, q_BadCalendar, N_BadCalendar, bs_BadCalendar, bm_BadCalendar, sn_BadCalendar, sub_BadCalendar, ab_BadCalendar, col_BadCalendar, dd_BadCalendar, m0_BadCalendar, m1_BadCalendar, m2_BadCalendar, m3_BadCalendar, m5_BadCalendar, h_BadCalendar_l, h_BadCalendar_bm⟩, h_BadCalendar_sa, h_BadCalendar_ex, h_BadCalendar_ty, h_BadCalendar_kp⟩
    xf_BadCalendar := ⟨h_BadCalendar_ga, h_BadCalendar_gg, h_BadCalendar_ex, h_BadCalendar_hd⟩
    xc_BadCalendar := ⟨h_BadCalendar_ga, h_BadCalendar_gg, h_BadCalendar_ex, h_BadCalendar_hd, h_BadCalendar_cls, h_cget, h_ctak, h_BadCalendar_mro⟩
    nx_BadCalendar_part := h_nx_BadCalendar_part
    fi_BadCalendar___init__ := a_BadCalendar___init__
    isf_BadCalendar___init__ := i_BadCalendar___init__
    F_BadCalendar___init__ := F_BadCalendar___init__
    bd_BadCalendar___init__ := F_BadCalendar___init__.binds (ps := ["self", "part"]) fun _ _ _ _ _ _ us hl => match us, hl with | [_, _], _ => rfl
    ti_BadCalendar := t_BadCalendar___init__
    g_BadDoor := PySem.W.mg_of X G a_BadDoor
    x_BadDoor := ⟨⟨nm_BadDoor, q_BadDoor, N_BadDoor, bs_BadDoor, bm_BadDoor, sn_BadDoor, sub_BadDoor, ab_BadDoor, col_BadDoor, dd_BadDoor, m0_BadDoor, m1_BadDoor, m2_BadDoor, m3_BadDoor, m5_BadDoor, h_BadDoor_l, h_BadDoor_bm⟩, h_BadDoor_sa, h_BadDoor_ex, h_BadDoor_ty, h_BadDoor_kp⟩
    xf_BadDoor := ⟨h_BadDoor_ga, h_BadDoor_gg, h_BadDoor_ex, h_BadDoor_hd⟩
    xc_BadDoor := ⟨h_BadDoor_ga, h_BadDoor_gg, h_BadDoor_ex, h_BadDoor_hd, h_BadDoor_cls, h_cget, h_ctak, h_BadDoor_mro⟩
    nx_BadDoor_part := h_nx_BadDoor_part
    fi_BadDoor___init__ := a_BadDoor___init__
    isf_BadDoor___init__ := i_BadDoor___init__
    F_BadDoor___init__ := F_BadDoor___init__
    bd_BadDoor___init__ := F_BadDoor___init__.binds (ps := ["self", "part"]) fun _ _ _ _ _ _ us hl => match us, hl with | [_, _], _ => rfl
    ti_BadDoor := t_BadDoor___init__
    g_BadName := PySem.W.mg_of X G a_BadName
    x_BadName := ⟨⟨nm_BadName, q_BadName, N_BadName, bs_BadName, bm_BadName, sn_BadName, sub_BadName, ab_BadName, col_BadName, dd_BadName, m0_BadName, m1_BadName, m2_BadName, m3_BadName, m5_BadName, h_BadName_l, h_BadName_bm⟩, h_BadName_sa, h_BadName_ex, h_BadName_ty, h_BadName_kp⟩
    xf_BadName := ⟨h_BadName_ga, h_BadName_gg, h_BadName_ex, h_BadName_hd⟩
    xc_BadName := ⟨h_BadName_ga, h_BadName_gg, h_BadName_ex, h_BadName_hd, h_BadName_cls, h_cget, h_ctak, h_BadName_mro⟩
    nx_BadName_value := h_nx_BadName_value
    fi_BadName___init__ := a_BadName___init__
    isf_BadName___init__ := i_BadName___init__
    F_BadName___init__ := F_BadName___init__
    bd_BadName___init__ := F_BadName___init__.binds (ps := ["self", "value"]) fun _ _ _ _ _ _ us hl => match us, hl with | [_, _], _ => rfl
    ti_BadName := t_BadName___init__
    g_BadCount := PySem.W.mg_of X G a_BadCount
    x_BadCount := ⟨⟨nm_BadCount, q_BadCount, N_BadCount, bs_BadCount, bm_BadCount, sn_BadCount, sub_BadCount, ab_BadCount, col_BadCount, dd_BadCount, m0_BadCount, m1_BadCount, m2_BadCount, m3_BadCount, m5_BadCount, h_BadCount_l, h_BadCount_bm⟩, h_BadCount_sa, h_BadCount_ex, h_BadCount_ty, h_BadCount_kp⟩
    xf_BadCount := ⟨h_BadCount_ga, h_BadCount_gg, h_BadCount_ex, h_BadCount_hd⟩
    xc_BadCount := ⟨h_BadCount_ga, h_BadCount_gg, h_BadCount_ex, h_BadCount_hd, h_BadCount_cls, h_cget, h_ctak, h_BadCount_mro⟩
    nx_BadCount_value := h_nx_BadCount_value
    fi_BadCount___init__ := a_BadCount___init__
    isf_BadCount___init__ := i_BadCount___init__
    F_BadCount___init__ := F_BadCount___init__
    bd_BadCount___init__ := F_BadCount___init__.binds (ps := ["self", "value"]) fun _ _ _ _ _ _ us hl => match us, hl with | [_, _], _ => rfl
    ti_BadCount := t_BadCount___init__
    g_BadWish := PySem.W.mg_of X G a_BadWish
    x_BadWish := ⟨⟨nm_BadWish, q_BadWish, N_BadWish, bs_BadWish, bm_BadWish, sn_BadWish, sub_BadWish, ab_BadWish, col_BadWish, dd_BadWish, m0_BadWish, m1_BadWish, m2_BadWish, m3_BadWish, m5_BadWish, h_BadWish_l, h_BadWish_bm⟩, h_BadWish_sa, h_BadWish_ex, h_BadWish_ty, h_BadWish_kp⟩
    xf_BadWish := ⟨h_BadWish_ga, h_BadWish_gg, h_BadWish_ex, h_BadWish_hd⟩
    xc_BadWish := ⟨h_BadWish_ga, h_BadWish_gg, h_BadWish_ex, h_BadWish_hd, h_BadWish_cls, h_cget, h_ctak, h_BadWish_mro⟩
    nx_BadWish_at := h_nx_BadWish_at
    fi_BadWish___init__ := a_BadWish___init__
    isf_BadWish___init__ := i_BadWish___init__
    F_BadWish___init__ := F_BadWish___init__
    bd_BadWish___init__ := F_BadWish___init__.binds (ps := ["self", "at"]) fun _ _ _ _ _ _ us hl => match us, hl with | [_, _], _ => rfl
    ti_BadWish := t_BadWish___init__
    g_BadRow := PySem.W.mg_of X G a_BadRow
    x_BadRow := ⟨⟨nm_BadRow, q_BadRow, N_BadRow, bs_BadRow, bm_BadRow, sn_BadRow, sub_BadRow, ab_BadRow, col_BadRow, dd_BadRow, m0_BadRow, m1_BadRow, m2_BadRow, m3_BadRow, m5_BadRow, h_BadRow_l, h_BadRow_bm⟩, h_BadRow_sa, h_BadRow_ex, h_BadRow_ty, h_BadRow_kp⟩
    xf_BadRow := ⟨h_BadRow_ga, h_BadRow_gg, h_BadRow_ex, h_BadRow_hd⟩
    xc_BadRow := ⟨h_BadRow_ga, h_BadRow_gg, h_BadRow_ex, h_BadRow_hd, h_BadRow_cls, h_cget, h_ctak, h_BadRow_mro⟩
    nx_BadRow_at := h_nx_BadRow_at
    fi_BadRow___init__ := a_BadRow___init__
    isf_BadRow___init__ := i_BadRow___init__
    F_BadRow___init__ := F_BadRow___init__
    bd_BadRow___init__ := F_BadRow___init__.binds (ps := ["self", "at"]) fun _ _ _ _ _ _ us hl => match us, hl with | [_, _], _ => rfl
    ti_BadRow := t_BadRow___init__
    g_BadText := PySem.W.mg_of X G a_BadText
    x_BadText := ⟨⟨nm_BadText, q_BadText, N_BadText, bs_BadText, bm_BadText, sn_BadText, sub_BadText, ab_BadText, col_BadText, dd_BadText, m0_BadText, m1_BadText, m2_BadText, m3_BadText, m5_BadText, h_BadText_l, h_BadText_bm⟩, h_BadText_sa, h_BadText_ex, h_BadText_ty, h_BadText_kp⟩
    xf_BadText := ⟨h_BadText_ga, h_BadText_gg, h_BadText_ex, h_BadText_hd⟩
    xc_BadText := ⟨h_BadText_ga, h_BadText_gg, h_BadText_ex, h_BadText_hd, h_BadText_cls, h_cget, h_ctak, h_BadText_mro⟩
    nx_BadText_line := h_nx_BadText_line
    nx_BadText_word := h_nx_BadText_word
    fi_BadText___init__ := a_BadText___init__
    isf_BadText___init__ := i_BadText___init__
    F_BadText___init__ := F_BadText___init__
    bd_BadText___init__ := F_BadText___init__.binds (ps := ["self", "line", "word"]) fun _ _ _ _ _ _ us hl => match us, hl with | [_, _, _], _ => rfl
    ti_BadText := t_BadText___init__
    g_BadLine := PySem.W.mg_of X G a_BadLine
    x_BadLine := ⟨⟨nm_BadLine, q_BadLine, N_BadLine, bs_BadLine, bm_BadLine, sn_BadLine, sub_BadLine, ab_BadLine, col_BadLine, dd_BadLine, m0_BadLine, m1_BadLine, m2_BadLine, m3_BadLine, m5_BadLine, h_BadLine_l, h_BadLine_bm⟩, h_BadLine_sa, h_BadLine_ex, h_BadLine_ty, h_BadLine_kp⟩
    xf_BadLine := ⟨h_BadLine_ga, h_BadLine_gg, h_BadLine_ex, h_BadLine_hd⟩
    xc_BadLine := ⟨h_BadLine_ga, h_BadLine_gg, h_BadLine_ex, h_BadLine_hd, h_BadLine_cls, h_cget, h_ctak, h_BadLine_mro⟩
    nx_BadLine_word := h_nx_BadLine_word
    fi_BadLine___init__ := a_BadLine___init__
    isf_BadLine___init__ := i_BadLine___init__
    F_BadLine___init__ := F_BadLine___init__
    bd_BadLine___init__ := F_BadLine___init__.binds (ps := ["self", "word"]) fun _ _ _ _ _ _ us hl => match us, hl with | [_, _], _ => rfl
    ti_BadLine := t_BadLine___init__
    g_Taken := PySem.W.mg_of X G a_Taken
    x_Taken := ⟨⟨nm_Taken, q_Taken, N_Taken, bs_Taken, bm_Taken, sn_Taken, sub_Taken, ab_Taken, col_Taken, dd_Taken, m0_Taken, m1_Taken, m2_Taken, m3_Taken, m5_Taken, h_Taken_l, h_Taken_bm⟩, h_Taken_sa, h_Taken_ex, h_Taken_ty, h_Taken_kp⟩
    xf_Taken := ⟨h_Taken_ga, h_Taken_gg, h_Taken_ex, h_Taken_hd⟩
    xc_Taken := ⟨h_Taken_ga, h_Taken_gg, h_Taken_ex, h_Taken_hd, h_Taken_cls, h_cget, h_ctak, h_Taken_mro⟩
    nx_Taken_name := h_nx_Taken_name
    fi_Taken___init__ := a_Taken___init__
    isf_Taken___init__ := i_Taken___init__
    F_Taken___init__ := F_Taken___init__
    bd_Taken___init__ := F_Taken___init__.binds (ps := ["self", "name"]) fun _ _ _ _ _ _ us hl => match us, hl with | [_, _], _ => rfl
    ti_Taken := t_Taken___init__
    g_NoGuest := PySem.W.mg_of X G a_NoGuest
    x_NoGuest := ⟨⟨nm_NoGuest, q_NoGuest, N_NoGuest, bs_NoGuest, bm_NoGuest, sn_NoGuest, sub_NoGuest, ab_NoGuest, col_NoGuest, dd_NoGuest, m0_NoGuest, m1_NoGuest, m2_NoGuest, m3_NoGuest, m5_NoGuest, h_NoGuest_l, h_NoGuest_bm⟩, h_NoGuest_sa, h_NoGuest_ex, h_NoGuest_ty, h_NoGuest_kp⟩
    xf_NoGuest := ⟨h_NoGuest_ga, h_NoGuest_gg, h_NoGuest_ex, h_NoGuest_hd⟩
    xc_NoGuest := ⟨h_NoGuest_ga, h_NoGuest_gg, h_NoGuest_ex, h_NoGuest_hd, h_NoGuest_cls, h_cget, h_ctak, h_NoGuest_mro⟩
    nx_NoGuest_name := h_nx_NoGuest_name
    fi_NoGuest___init__ := a_NoGuest___init__
    isf_NoGuest___init__ := i_NoGuest___init__
    F_NoGuest___init__ := F_NoGuest___init__
    bd_NoGuest___init__ := F_NoGuest___init__.binds (ps := ["self", "name"]) fun _ _ _ _ _ _ us hl => match us, hl with | [_, _], _ => rfl
    ti_NoGuest := t_NoGuest___init__
    g_NotLet := PySem.W.mg_of X G a_NotLet
    x_NotLet := ⟨⟨nm_NotLet, q_NotLet, N_NotLet, bs_NotLet, bm_NotLet, sn_NotLet, sub_NotLet, ab_NotLet, col_NotLet, dd_NotLet, m0_NotLet, m1_NotLet, m2_NotLet, m3_NotLet, m5_NotLet, h_NotLet_l, h_NotLet_bm⟩, h_NotLet_sa, h_NotLet_ex, h_NotLet_ty, h_NotLet_kp⟩
    xf_NotLet := ⟨h_NotLet_ga, h_NotLet_gg, h_NotLet_ex, h_NotLet_hd⟩
    xc_NotLet := ⟨h_NotLet_ga, h_NotLet_gg, h_NotLet_ex, h_NotLet_hd, h_NotLet_cls, h_cget, h_ctak, h_NotLet_mro⟩
    nx_NotLet_stay := h_nx_NotLet_stay
    fi_NotLet___init__ := a_NotLet___init__
    isf_NotLet___init__ := i_NotLet___init__
    F_NotLet___init__ := F_NotLet___init__
    bd_NotLet___init__ := F_NotLet___init__.binds (ps := ["self", "stay"]) fun _ _ _ _ _ _ us hl => match us, hl with | [_, _], _ => rfl
    ti_NotLet := t_NotLet___init__
    g_Outside := PySem.W.mg_of X G a_Outside
    x_Outside := ⟨⟨nm_Outside, q_Outside, N_Outside, bs_Outside, bm_Outside, sn_Outside, sub_Outside, ab_Outside, col_Outside, dd_Outside, m0_Outside, m1_Outside, m2_Outside, m3_Outside, m5_Outside, h_Outside_l, h_Outside_bm⟩, h_Outside_sa, h_Outside_ex, h_Outside_ty, h_Outside_kp⟩
    xf_Outside := ⟨h_Outside_ga, h_Outside_gg, h_Outside_ex, h_Outside_hd⟩
    xc_Outside := ⟨h_Outside_ga, h_Outside_gg, h_Outside_ex, h_Outside_hd, h_Outside_cls, h_cget, h_ctak, h_Outside_mro⟩
    nx_Outside_stay := h_nx_Outside_stay
    fi_Outside___init__ := a_Outside___init__
    isf_Outside___init__ := i_Outside___init__
    F_Outside___init__ := F_Outside___init__
    bd_Outside___init__ := F_Outside___init__.binds (ps := ["self", "stay"]) fun _ _ _ _ _ _ us hl => match us, hl with | [_, _], _ => rfl
    ti_Outside := t_Outside___init__
    g_Full := PySem.W.mg_of X G a_Full
    x_Full := ⟨⟨nm_Full, q_Full, N_Full, bs_Full, bm_Full, sn_Full, sub_Full, ab_Full, col_Full, dd_Full, m0_Full, m1_Full, m2_Full, m3_Full, m5_Full, h_Full_l, h_Full_bm⟩, h_Full_sa, h_Full_ex, h_Full_ty, h_Full_kp⟩
    xf_Full := ⟨h_Full_ga, h_Full_gg, h_Full_ex, h_Full_hd⟩
    xc_Full := ⟨h_Full_ga, h_Full_gg, h_Full_ex, h_Full_hd, h_Full_cls, h_cget, h_ctak, h_Full_mro⟩
    nx_Full_night := h_nx_Full_night
    fi_Full___init__ := a_Full___init__
    isf_Full___init__ := i_Full___init__
    F_Full___init__ := F_Full___init__
    bd_Full___init__ := F_Full___init__.binds (ps := ["self", "night"]) fun _ _ _ _ _ _ us hl => match us, hl with | [_, _], _ => rfl
    ti_Full := t_Full___init__
    g_Loose := PySem.W.mg_of X G a_Loose
    x_Loose := ⟨⟨nm_Loose, q_Loose, N_Loose, bs_Loose, bm_Loose, sn_Loose, sub_Loose, ab_Loose, col_Loose, dd_Loose, m0_Loose, m1_Loose, m2_Loose, m3_Loose, m5_Loose, h_Loose_l, h_Loose_bm⟩, h_Loose_sa, h_Loose_ex, h_Loose_ty, h_Loose_kp⟩
    xf_Loose := ⟨h_Loose_ga, h_Loose_gg, h_Loose_ex, h_Loose_hd⟩
    xc_Loose := ⟨h_Loose_ga, h_Loose_gg, h_Loose_ex, h_Loose_hd, h_Loose_cls, h_cget, h_ctak, h_Loose_mro⟩
    nx_Loose_name := h_nx_Loose_name
    fi_Loose___init__ := a_Loose___init__
    isf_Loose___init__ := i_Loose___init__
    F_Loose___init__ := F_Loose___init__
    bd_Loose___init__ := F_Loose___init__.binds (ps := ["self", "name"]) fun _ _ _ _ _ _ us hl => match us, hl with | [_, _], _ => rfl
    ti_Loose := t_Loose___init__
    g_TooMany := PySem.W.mg_of X G a_TooMany
    x_TooMany := ⟨⟨nm_TooMany, q_TooMany, N_TooMany, bs_TooMany, bm_TooMany, sn_TooMany, sub_TooMany, ab_TooMany, col_TooMany, dd_TooMany, m0_TooMany, m1_TooMany, m2_TooMany, m3_TooMany, m5_TooMany, h_TooMany_l, h_TooMany_bm⟩, h_TooMany_sa, h_TooMany_ex, h_TooMany_ty, h_TooMany_kp⟩
    xf_TooMany := ⟨h_TooMany_ga, h_TooMany_gg, h_TooMany_ex, h_TooMany_hd⟩
    xc_TooMany := ⟨h_TooMany_ga, h_TooMany_gg, h_TooMany_ex, h_TooMany_hd, h_TooMany_cls, h_cget, h_ctak, h_TooMany_mro⟩
    nx_TooMany_what := h_nx_TooMany_what
    nx_TooMany_most := h_nx_TooMany_most
    fi_TooMany___init__ := a_TooMany___init__
    isf_TooMany___init__ := i_TooMany___init__
    F_TooMany___init__ := F_TooMany___init__
    bd_TooMany___init__ := F_TooMany___init__.binds (ps := ["self", "what", "most"]) fun _ _ _ _ _ _ us hl => match us, hl with | [_, _, _], _ => rfl
    ti_TooMany := t_TooMany___init__
    g_Dead := PySem.W.mg_of X G a_Dead
    x_Dead := ⟨⟨nm_Dead, q_Dead, N_Dead, bs_Dead, bm_Dead, sn_Dead, sub_Dead, ab_Dead, col_Dead, dd_Dead, m0_Dead, m1_Dead, m2_Dead, m3_Dead, m5_Dead, h_Dead_l, h_Dead_bm⟩, h_Dead_sa, h_Dead_ex, h_Dead_ty, h_Dead_kp⟩
    xf_Dead := ⟨h_Dead_ga, h_Dead_gg, h_Dead_ex, h_Dead_hd⟩
    xc_Dead := ⟨h_Dead_ga, h_Dead_gg, h_Dead_ex, h_Dead_hd, h_Dead_cls, h_cget, h_ctak, h_Dead_mro⟩
    nx_Dead_bar := h_nx_Dead_bar
    fi_Dead___init__ := a_Dead___init__
    isf_Dead___init__ := i_Dead___init__
    F_Dead___init__ := F_Dead___init__
    bd_Dead___init__ := F_Dead___init__.binds (ps := ["self", "bar"]) fun _ _ _ _ _ _ us hl => match us, hl with | [_, _], _ => rfl
    ti_Dead := t_Dead___init__
    g_NoDeed := PySem.W.mg_of X G a_NoDeed
    x_NoDeed := ⟨⟨nm_NoDeed, q_NoDeed, N_NoDeed, bs_NoDeed, bm_NoDeed, sn_NoDeed, sub_NoDeed, ab_NoDeed, col_NoDeed, dd_NoDeed, m0_NoDeed, m1_NoDeed, m2_NoDeed, m3_NoDeed, m5_NoDeed, h_NoDeed_l, h_NoDeed_bm⟩, h_NoDeed_sa, h_NoDeed_ex, h_NoDeed_ty, h_NoDeed_kp⟩
    xf_NoDeed := ⟨h_NoDeed_ga, h_NoDeed_gg, h_NoDeed_ex, h_NoDeed_hd⟩
    xc_NoDeed := ⟨h_NoDeed_ga, h_NoDeed_gg, h_NoDeed_ex, h_NoDeed_hd, h_NoDeed_cls, h_cget, h_ctak, h_NoDeed_mro⟩
    in0_NoDeed := h_in0_NoDeed
    g_NoHouse := PySem.W.mg_of X G a_NoHouse
    x_NoHouse := ⟨⟨nm_NoHouse, q_NoHouse, N_NoHouse, bs_NoHouse, bm_NoHouse, sn_NoHouse, sub_NoHouse, ab_NoHouse, col_NoHouse, dd_NoHouse, m0_NoHouse, m1_NoHouse, m2_NoHouse, m3_NoHouse, m5_NoHouse, h_NoHouse_l, h_NoHouse_bm⟩, h_NoHouse_sa, h_NoHouse_ex, h_NoHouse_ty, h_NoHouse_kp⟩
    xf_NoHouse := ⟨h_NoHouse_ga, h_NoHouse_gg, h_NoHouse_ex, h_NoHouse_hd⟩
    xc_NoHouse := ⟨h_NoHouse_ga, h_NoHouse_gg, h_NoHouse_ex, h_NoHouse_hd, h_NoHouse_cls, h_cget, h_ctak, h_NoHouse_mro⟩
    in0_NoHouse := h_in0_NoHouse
    kit := h_kit
    kitVE := h_kitVE
    g__law_pen := PySem.W.mg_of X G a__law_pen
    F__law_pen := F__law_pen
    bd__law_pen := F__law_pen.binds (ps := ["script"]) fun _ _ _ _ _ _ us hl => match us, hl with | [_], _ => rfl
    g__law_draw := PySem.W.mg_of X G a__law_draw
    F__law_draw := F__law_draw
    bd__law_draw := F__law_draw.binds (ps := ["pen", "many"]) fun _ _ _ _ _ _ us hl => match us, hl with | [_, _], _ => rfl
    g__law_pick := PySem.W.mg_of X G a__law_pick
    F__law_pick := F__law_pick
    bd__law_pick := F__law_pick.binds (ps := ["pen", "some"]) fun _ _ _ _ _ _ us hl => match us, hl with | [_, _], _ => rfl
    g__law_value := PySem.W.mg_of X G a__law_value
    F__law_value := F__law_value
    bd__law_value := F__law_value.binds (ps := ["pen"]) fun _ _ _ _ _ _ us hl => match us, hl with | [_], _ => rfl
    g__law_raised := PySem.W.mg_of X G a__law_raised
    F__law_raised := F__law_raised
    bd__law_raised := F__law_raised.binds (ps := ["error"]) fun _ _ _ _ _ _ us hl => match us, hl with | [_], _ => rfl
    g__law_signs := PySem.W.mg_of X G a__law_signs
    F__law_signs := F__law_signs
    bd__law_signs := F__law_signs.binds (ps := ["caught"]) fun _ _ _ _ _ _ us hl => match us, hl with | [_], _ => rfl
    g__law_inputs := PySem.W.mg_of X G a__law_inputs
    F__law_inputs := F__law_inputs
    bd__law_inputs := F__law_inputs.binds (ps := ["thing"]) fun _ _ _ _ _ _ us hl => match us, hl with | [_], _ => rfl
    g__law_others := PySem.W.mg_of X G a__law_others
    F__law_others := F__law_others
    bd__law_others := F__law_others.binds (ps := ["thing"]) fun _ _ _ _ _ _ us hl => match us, hl with | [_], _ => rfl
    g_law := PySem.W.mg_of X G a_law
    F_law := F_law
    bd_law := F_law.binds (ps := ["script"]) fun _ _ _ _ _ _ us hl => match us, hl with | [_], _ => rfl
    b_isinstance := PySem.W.mg_none_of X G z_isinstance
    b_int := PySem.W.mg_none_of X G z_int
    b_len := PySem.W.mg_none_of X G z_len
    b_list := PySem.W.mg_none_of X G z_list
    b_abs := PySem.W.mg_none_of X G z_abs
    b_range := PySem.W.mg_none_of X G z_range
    b_repr := PySem.W.mg_none_of X G z_repr
    b_ValueError := PySem.W.mg_none_of X G z_ValueError }) ef   
end NN

open PySem PySem.W PyProof.Rows in
set_option maxHeartbeats 0 in
theorem PySem.Challenge.cw_nodeadnight_k01_errors_and_their_fields_holds : PySem.Challenge.rw_nodeadnight_k01_errors_and_their_fields.Holds := by
  w_on; o_law; k_head; (case hw => w_witness2)
  k_fill
  refine LamX.walk_ofG (l := PySem.Challenge.rw_nodeadnight_k01_errors_and_their_fields) (n := 63) (k := 40) (CX := fun _ => L2.CX0) (x := "script") rfl (by decide) rfl ⟨rfl, by decide, by decide⟩ (fun w h Y => by first | exact PySem.W.km_in_of Y | exact PySem.W.kIn_of Y) ?F ?hCX
  case hCX => exact fun _ _ _ _ _ z => z
  case F =>
    intro w mg fa h Y KX G hmg
    refine' NN.all_mk (hfa := hmg) KX G ?a_StayError ?h_StayError_l ?h_StayError_bm ?h_StayError_sa ?h_StayError_ex ?h_StayError_ty ?h_StayError_kp ?h_StayError_ga ?h_StayError_gg ?h_StayError_hd ?h_StayError_cls ?h_StayError_mro ?h_cget ?h_ctak ?h_in0_StayError ?a_BadInput ?h_BadInput_l ?h_BadInput_bm ?h_BadInput_sa ?h_BadInput_ex ?h_BadInput_ty ?h_BadInput_kp ?h_BadInput_ga ?h_BadInput_gg ?h_BadInput_hd ?h_BadInput_cls ?h_BadInput_mro ?h_in0_BadInput ?a_Refused ?h_Refused_l ?h_Refused_bm ?h_Refused_sa ?h_Refused_ex ?h_Refused_ty ?h_Refused_kp ?h_Refused_ga ?h_Refused_gg ?h_Refused_hd ?h_Refused_cls ?h_Refused_mro ?h_in0_Refused ?a_NoAnswer ?h_NoAnswer_l ?h_NoAnswer_bm ?h_NoAnswer_sa ?h_NoAnswer_ex ?h_NoAnswer_ty ?h_NoAnswer_kp ?h_NoAnswer_ga ?h_NoAnswer_gg ?h_NoAnswer_hd ?h_NoAnswer_cls ?h_NoAnswer_mro ?h_in0_NoAnswer ?a_BadLengths ?h_BadLengths_l ?h_BadLengths_bm ?h_BadLengths_sa ?h_BadLengths_ex ?h_BadLengths_ty ?h_BadLengths_kp ?h_BadLengths_ga ?h_BadLengths_gg ?h_BadLengths_hd ?h_BadLengths_cls ?h_BadLengths_mro ?h_nx_BadLengths_part ?a_BadLengths___init__ ?i_BadLengths___init__ ?l_BadLengths___init__ ?c_BadLengths___init___ ?k_BadLengths___init__ ?t_BadLengths___init__ ?a_BadDays ?h_BadDays_l ?h_BadDays_bm ?h_BadDays_sa ?h_BadDays_ex ?h_BadDays_ty ?h_BadDays_kp ?h_BadDays_ga ?h_BadDays_gg ?h_BadDays_hd ?h_BadDays_cls ?h_BadDays_mro ?h_nx_BadDays_part ?a_BadDays___init__ ?i_BadDays___init__ ?l_BadDays___init__ ?c_BadDays___init___ ?k_BadDays___init__ ?t_BadDays___init__ ?a_BadStay ?h_BadStay_l ?h_BadStay_bm ?h_BadStay_sa ?h_BadStay_ex ?h_BadStay_ty ?h_BadStay_kp ?h_BadStay_ga ?h_BadStay_gg ?h_BadStay_hd ?h_BadStay_cls ?h_BadStay_mro ?h_nx_BadStay_part ?a_BadStay___init__ ?i_BadStay___init__ ?l_BadStay___init__ ?c_BadStay___init___ ?k_BadStay___init__ ?t_BadStay___init__ ?a_BadRule ?h_BadRule_l ?h_BadRule_bm ?h_BadRule_sa ?h_BadRule_ex ?h_BadRule_ty ?h_BadRule_kp ?h_BadRule_ga ?h_BadRule_gg ?h_BadRule_hd ?h_BadRule_cls ?h_BadRule_mro ?h_nx_BadRule_part ?a_BadRule___init__ ?i_BadRule___init__ ?l_BadRule___init__ ?c_BadRule___init___ ?k_BadRule___init__ ?t_BadRule___init__ ?a_BadBook ?h_BadBook_l ?h_BadBook_bm ?h_BadBook_sa ?h_BadBook_ex ?h_BadBook_ty ?h_BadBook_kp ?h_BadBook_ga ?h_BadBook_gg ?h_BadBook_hd ?h_BadBook_cls ?h_BadBook_mro ?h_nx_BadBook_part ?a_BadBook___init__ ?i_BadBook___init__ ?l_BadBook___init__ ?c_BadBook___init___ ?k_BadBook___init__ ?t_BadBook___init__ ?a_BadStretch ?h_BadStretch_l ?h_BadStretch_bm ?h_BadStretch_sa ?h_BadStretch_ex ?h_BadStretch_ty ?h_BadStretch_kp ?h_BadStretch_ga ?h_BadStretch_gg ?h_BadStretch_hd ?h_BadStretch_cls ?h_BadStretch_mro ?h_nx_BadStretch_part ?a_BadStretch___init__ ?i_BadStretch___init__ ?l_BadStretch___init__ ?c_BadStretch___init___ ?k_BadStretch___init__ ?t_BadStretch___init__ ?a_BadCalendar ?h_BadCalendar_l ?h_BadCalendar_bm ?h_BadCalendar_sa ?h_BadCalendar_ex ?h_BadCalendar_ty ?h_BadCalendar_kp ?h_BadCalendar_ga ?h_BadCalendar_gg ?h_BadCalendar_hd ?h_BadCalendar_cls ?h_BadCalendar_mro ?h_nx_BadCalendar_part ?a_BadCalendar___init__ ?i_BadCalendar___init__ ?l_BadCalendar___init__ ?c_BadCalendar___init___ ?k_BadCalendar___init__ ?t_BadCalendar___init__ ?a_BadDoor ?h_BadDoor_l ?h_BadDoor_bm ?h_BadDoor_sa ?h_BadDoor_ex ?h_BadDoor_ty ?h_BadDoor_kp ?h_BadDoor_ga ?h_BadDoor_gg ?h_BadDoor_hd ?h_BadDoor_cls ?h_BadDoor_mro ?h_nx_BadDoor_part ?a_BadDoor___init__ ?i_BadDoor___init__ ?l_BadDoor___init__ ?c_BadDoor___init___ ?k_BadDoor___init__ ?t_BadDoor___init__ ?a_BadName ?h_BadName_l ?h_BadName_bm ?h_BadName_sa ?h_BadName_ex ?h_BadName_ty ?h_BadName_kp ?h_BadName_ga ?h_BadName_gg ?h_BadName_hd ?h_BadName_cls ?h_BadName_mro ?h_nx_BadName_value ?a_BadName___init__ ?i_BadName___init__ ?l_BadName___init__ ?c_BadName___init___ ?k_BadName___init__ ?t_BadName___init__ ?a_BadCount ?h_BadCount_l ?h_BadCount_bm ?h_BadCount_sa ?h_BadCount_ex ?h_BadCount_ty ?h_BadCount_kp ?h_BadCount_ga ?h_BadCount_gg ?h_BadCount_hd ?h_BadCount_cls ?h_BadCount_mro ?h_nx_BadCount_value ?a_BadCount___init__ ?i_BadCount___init__ ?l_BadCount___init__ ?c_BadCount___init___ ?k_BadCount___init__ ?t_BadCount___init__ ?a_BadWish ?h_BadWish_l ?h_BadWish_bm ?h_BadWish_sa ?h_BadWish_ex ?h_BadWish_ty ?h_BadWish_kp ?h_BadWish_ga ?h_BadWish_gg ?h_BadWish_hd ?h_BadWish_cls ?h_BadWish_mro ?h_nx_BadWish_at ?a_BadWish___init__ ?i_BadWish___init__ ?l_BadWish___init__ ?c_BadWish___init___ ?k_BadWish___init__ ?t_BadWish___init__ ?a_BadRow ?h_BadRow_l ?h_BadRow_bm ?h_BadRow_sa ?h_BadRow_ex ?h_BadRow_ty ?h_BadRow_kp ?h_BadRow_ga ?h_BadRow_gg ?h_BadRow_hd ?h_BadRow_cls ?h_BadRow_mro ?h_nx_BadRow_at ?a_BadRow___init__ ?i_BadRow___init__ ?l_BadRow___init__ ?c_BadRow___init___ ?k_BadRow___init__ ?t_BadRow___init__ ?a_BadText ?h_BadText_l ?h_BadText_bm ?h_BadText_sa ?h_BadText_ex ?h_BadText_ty ?h_BadText_kp ?h_BadText_ga ?h_BadText_gg ?h_BadText_hd ?h_BadText_cls ?h_BadText_mro ?h_nx_BadText_line ?h_nx_BadText_word ?a_BadText___init__ ?i_BadText___init__ ?l_BadText___init__ ?c_BadText___init___ ?k_BadText___init__ ?t_BadText___init__ ?a_BadLine ?h_BadLine_l ?h_BadLine_bm ?h_BadLine_sa ?h_BadLine_ex ?h_BadLine_ty ?h_BadLine_kp ?h_BadLine_ga ?h_BadLine_gg ?h_BadLine_hd ?h_BadLine_cls ?h_BadLine_mro ?h_nx_BadLine_word ?a_BadLine___init__ ?i_BadLine___init__ ?l_BadLine___init__ ?c_BadLine___init___ ?k_BadLine___init__ ?t_BadLine___init__ ?a_Taken ?h_Taken_l ?h_Taken_bm ?h_Taken_sa ?h_Taken_ex ?h_Taken_ty ?h_Taken_kp ?h_Taken_ga ?h_Taken_gg ?h_Taken_hd ?h_Taken_cls ?h_Taken_mro ?h_nx_Taken_name ?a_Taken___init__ ?i_Taken___init__ ?l_Taken___init__ ?c_Taken___init___ ?k_Taken___init__ ?t_Taken___init__ ?a_NoGuest ?h_NoGuest_l ?h_NoGuest_bm ?h_NoGuest_sa ?h_NoGuest_ex ?h_NoGuest_ty ?h_NoGuest_kp ?h_NoGuest_ga ?h_NoGuest_gg ?h_NoGuest_hd ?h_NoGuest_cls ?h_NoGuest_mro ?h_nx_NoGuest_name ?a_NoGuest___init__ ?i_NoGuest___init__ ?l_NoGuest___init__ ?c_NoGuest___init___ ?k_NoGuest___init__ ?t_NoGuest___init__ ?a_NotLet ?h_NotLet_l ?h_NotLet_bm ?h_NotLet_sa ?h_NotLet_ex ?h_NotLet_ty ?h_NotLet_kp ?h_NotLet_ga ?h_NotLet_gg ?h_NotLet_hd ?h_NotLet_cls ?h_NotLet_mro ?h_nx_NotLet_stay ?a_NotLet___init__ ?i_NotLet___init__ ?l_NotLet___init__ ?c_NotLet___init___ ?k_NotLet___init__ ?t_NotLet___init__ ?a_Outside ?h_Outside_l ?h_Outside_bm ?h_Outside_sa ?h_Outside_ex ?h_Outside_ty ?h_Outside_kp ?h_Outside_ga ?h_Outside_gg ?h_Outside_hd ?h_Outside_cls ?h_Outside_mro ?h_nx_Outside_stay ?a_Outside___init__ ?i_Outside___init__ ?l_Outside___init__ ?c_Outside___init___ ?k_Outside___init__ ?t_Outside___init__ ?a_Full ?h_Full_l ?h_Full_bm ?h_Full_sa ?h_Full_ex ?h_Full_ty ?h_Full_kp ?h_Full_ga ?h_Full_gg ?h_Full_hd ?h_Full_cls ?h_Full_mro ?h_nx_Full_night ?a_Full___init__ ?i_Full___init__ ?l_Full___init__ ?c_Full___init___ ?k_Full___init__ ?t_Full___init__ ?a_Loose ?h_Loose_l ?h_Loose_bm ?h_Loose_sa ?h_Loose_ex ?h_Loose_ty ?h_Loose_kp ?h_Loose_ga ?h_Loose_gg ?h_Loose_hd ?h_Loose_cls ?h_Loose_mro ?h_nx_Loose_name ?a_Loose___init__ ?i_Loose___init__ ?l_Loose___init__ ?c_Loose___init___ ?k_Loose___init__ ?t_Loose___init__ ?a_TooMany ?h_TooMany_l ?h_TooMany_bm ?h_TooMany_sa ?h_TooMany_ex ?h_TooMany_ty ?h_TooMany_kp ?h_TooMany_ga ?h_TooMany_gg ?h_TooMany_hd ?h_TooMany_cls ?h_TooMany_mro ?h_nx_TooMany_what ?h_nx_TooMany_most ?a_TooMany___init__ ?i_TooMany___init__ ?l_TooMany___init__ ?c_TooMany___init___ ?k_TooMany___init__ ?t_TooMany___init__ ?a_Dead ?h_Dead_l ?h_Dead_bm ?h_Dead_sa ?h_Dead_ex ?h_Dead_ty ?h_Dead_kp ?h_Dead_ga ?h_Dead_gg ?h_Dead_hd ?h_Dead_cls ?h_Dead_mro ?h_nx_Dead_bar ?a_Dead___init__ ?i_Dead___init__ ?l_Dead___init__ ?c_Dead___init___ ?k_Dead___init__ ?t_Dead___init__ ?a_NoDeed ?h_NoDeed_l ?h_NoDeed_bm ?h_NoDeed_sa ?h_NoDeed_ex ?h_NoDeed_ty ?h_NoDeed_kp ?h_NoDeed_ga ?h_NoDeed_gg ?h_NoDeed_hd ?h_NoDeed_cls ?h_NoDeed_mro ?h_in0_NoDeed ?a_NoHouse ?h_NoHouse_l ?h_NoHouse_bm ?h_NoHouse_sa ?h_NoHouse_ex ?h_NoHouse_ty ?h_NoHouse_kp ?h_NoHouse_ga ?h_NoHouse_gg ?h_NoHouse_hd ?h_NoHouse_cls ?h_NoHouse_mro ?h_in0_NoHouse ?h_kit ?h_kitVE ?a__law_pen ?l__law_pen ?c__law_pen_ ?k__law_pen ?a__law_draw ?l__law_draw ?c__law_draw_ ?k__law_draw ?a__law_pick ?l__law_pick ?c__law_pick_ ?k__law_pick ?a__law_value ?l__law_value ?c__law_value_ ?k__law_value ?a__law_raised ?l__law_raised ?c__law_raised_ ?k__law_raised ?a__law_signs ?l__law_signs ?c__law_signs_ ?k__law_signs ?a__law_inputs ?l__law_inputs ?c__law_inputs_ ?k__law_inputs ?a__law_others ?l__law_others ?c__law_others_ ?k__law_others ?a_law ?l_law ?c_law_ ?k_law ?z_isinstance ?z_int ?z_len ?z_list ?z_abs ?z_range ?z_repr ?z_ValueError
    (case a_StayError => k_is)
    (case h_StayError_l => k_is)
    (case h_StayError_bm => first | rfl | decide +kernel)
    (case h_StayError_sa => k_is)
    (case h_StayError_ex => k_is)
    (case h_StayError_ty => k_is)
    (case h_StayError_kp => k_is)
    (case h_StayError_ga => k_is)
    (case h_StayError_gg => k_is)
    (case h_StayError_hd => k_is)
    (case h_StayError_cls => k_is)
    (case h_StayError_mro => k_is)
    (case h_cget => k_is)
    (case h_ctak => k_is)
    (case h_in0_StayError => k_is)
    (case a_BadInput => k_is)
    (case h_BadInput_l => k_is)
    (case h_BadInput_bm => first | rfl | decide +kernel)
    (case h_BadInput_sa => k_is)
    (case h_BadInput_ex => k_is)
    (case h_BadInput_ty => k_is)
    (case h_BadInput_kp => k_is)
    (case h_BadInput_ga => k_is)
    (case h_BadInput_gg => k_is)
    (case h_BadInput_hd => k_is)
    (case h_BadInput_cls => k_is)
    (case h_BadInput_mro => k_is)
    (case h_in0_BadInput => k_is)
    (case a_Refused => k_is)
    (case h_Refused_l => k_is)
    (case h_Refused_bm => first | rfl | decide +kernel)
    (case h_Refused_sa => k_is)
    (case h_Refused_ex => k_is)
    (case h_Refused_ty => k_is)
    (case h_Refused_kp => k_is)
    (case h_Refused_ga => k_is)
    (case h_Refused_gg => k_is)
    (case h_Refused_hd => k_is)
    (case h_Refused_cls => k_is)
    (case h_Refused_mro => k_is)
    (case h_in0_Refused => k_is)
    (case a_NoAnswer => k_is)
    (case h_NoAnswer_l => k_is)
    (case h_NoAnswer_bm => first | rfl | decide +kernel)
    (case h_NoAnswer_sa => k_is)
    (case h_NoAnswer_ex => k_is)
    (case h_NoAnswer_ty => k_is)
    (case h_NoAnswer_kp => k_is)
    (case h_NoAnswer_ga => k_is)
    (case h_NoAnswer_gg => k_is)
    (case h_NoAnswer_hd => k_is)
    (case h_NoAnswer_cls => k_is)
    (case h_NoAnswer_mro => k_is)
    (case h_in0_NoAnswer => k_is)
    (case a_BadLengths => k_is)
    (case h_BadLengths_l => k_is)
    (case h_BadLengths_bm => first | rfl | decide +kernel)
    (case h_BadLengths_sa => k_is)
    (case h_BadLengths_ex => k_is)
    (case h_BadLengths_ty => k_is)
    (case h_BadLengths_kp => k_is)
    (case h_BadLengths_ga => k_is)
    (case h_BadLengths_gg => k_is)
    (case h_BadLengths_hd => k_is)
    (case h_BadLengths_cls => k_is)
    (case h_BadLengths_mro => k_is)
    (case h_nx_BadLengths_part => k_is)
    (case a_BadLengths___init__ => k_is)
    (case i_BadLengths___init__ => k_is)
    (case l_BadLengths___init__ => k_is)
    (case c_BadLengths___init___ => k_is)
    (case k_BadLengths___init__ => k_is)
    (case t_BadLengths___init__ => k_is)
    (case a_BadDays => k_is)
    (case h_BadDays_l => k_is)
    (case h_BadDays_bm => first | rfl | decide +kernel)
    (case h_BadDays_sa => k_is)
    (case h_BadDays_ex => k_is)
    (case h_BadDays_ty => k_is)
    (case h_BadDays_kp => k_is)
    (case h_BadDays_ga => k_is)
    (case h_BadDays_gg => k_is)
    (case h_BadDays_hd => k_is)
    (case h_BadDays_cls => k_is)
    (case h_BadDays_mro => k_is)
    (case h_nx_BadDays_part => k_is)
    (case a_BadDays___init__ => k_is)
    (case i_BadDays___init__ => k_is)
    (case l_BadDays___init__ => k_is)
    (case c_BadDays___init___ => k_is)
    (case k_BadDays___init__ => k_is)
    (case t_BadDays___init__ => k_is)
    (case a_BadStay => k_is)
    (case h_BadStay_l => k_is)
    (case h_BadStay_bm => first | rfl | decide +kernel)
    (case h_BadStay_sa => k_is)
    (case h_BadStay_ex => k_is)
    (case h_BadStay_ty => k_is)
    (case h_BadStay_kp => k_is)
    (case h_BadStay_ga => k_is)
    (case h_BadStay_gg => k_is)
    (case h_BadStay_hd => k_is)
    (case h_BadStay_cls => k_is)
    (case h_BadStay_mro => k_is)
    (case h_nx_BadStay_part => k_is)
    (case a_BadStay___init__ => k_is)
    (case i_BadStay___init__ => k_is)
    (case l_BadStay___init__ => k_is)
    (case c_BadStay___init___ => k_is)
    (case k_BadStay___init__ => k_is)
    (case t_BadStay___init__ => k_is)
    (case a_BadRule => k_is)
    (case h_BadRule_l => k_is)
    (case h_BadRule_bm => first | rfl | decide +kernel)
    (case h_BadRule_sa => k_is)
    (case h_BadRule_ex => k_is)
    (case h_BadRule_ty => k_is)
    (case h_BadRule_kp => k_is)
    (case h_BadRule_ga => k_is)
    (case h_BadRule_gg => k_is)
    (case h_BadRule_hd => k_is)
    (case h_BadRule_cls => k_is)
    (case h_BadRule_mro => k_is)
    (case h_nx_BadRule_part => k_is)
    (case a_BadRule___init__ => k_is)
    (case i_BadRule___init__ => k_is)
    (case l_BadRule___init__ => k_is)
    (case c_BadRule___init___ => k_is)
    (case k_BadRule___init__ => k_is)
    (case t_BadRule___init__ => k_is)
    (case a_BadBook => k_is)
    (case h_BadBook_l => k_is)
    (case h_BadBook_bm => first | rfl | decide +kernel)
    (case h_BadBook_sa => k_is)
    (case h_BadBook_ex => k_is)
    (case h_BadBook_ty => k_is)
    (case h_BadBook_kp => k_is)
    (case h_BadBook_ga => k_is)
    (case h_BadBook_gg => k_is)
    (case h_BadBook_hd => k_is)
    (case h_BadBook_cls => k_is)
    (case h_BadBook_mro => k_is)
    (case h_nx_BadBook_part => k_is)
    (case a_BadBook___init__ => k_is)
    (case i_BadBook___init__ => k_is)
    (case l_BadBook___init__ => k_is)
    (case c_BadBook___init___ => k_is)
    (case k_BadBook___init__ => k_is)
    (case t_BadBook___init__ => k_is)
    (case a_BadStretch => k_is)
    (case h_BadStretch_l => k_is)
    (case h_BadStretch_bm => first | rfl | decide +kernel)
    (case h_BadStretch_sa => k_is)
    (case h_BadStretch_ex => k_is)
    (case h_BadStretch_ty => k_is)
    (case h_BadStretch_kp => k_is)
    (case h_BadStretch_ga => k_is)
    (case h_BadStretch_gg => k_is)
    (case h_BadStretch_hd => k_is)
    (case h_BadStretch_cls => k_is)
    (case h_BadStretch_mro => k_is)
    (case h_nx_BadStretch_part => k_is)
    (case a_BadStretch___init__ => k_is)
    (case i_BadStretch___init__ => k_is)
    (case l_BadStretch___init__ => k_is)
    (case c_BadStretch___init___ => k_is)
    (case k_BadStretch___init__ => k_is)
    (case t_BadStretch___init__ => k_is)
    (case a_BadCalendar => k_is)
    (case h_BadCalendar_l => k_is)
    (case h_BadCalendar_bm => first | rfl | decide +kernel)
    (case h_BadCalendar_sa => k_is)
    (case h_BadCalendar_ex => k_is)
    (case h_BadCalendar_ty => k_is)
    (case h_BadCalendar_kp => k_is)
    (case h_BadCalendar_ga => k_is)
    (case h_BadCalendar_gg => k_is)
    (case h_BadCalendar_hd => k_is)
    (case h_BadCalendar_cls => k_is)
    (case h_BadCalendar_mro => k_is)
    (case h_nx_BadCalendar_part => k_is)
    (case a_BadCalendar___init__ => k_is)
    (case i_BadCalendar___init__ => k_is)
    (case l_BadCalendar___init__ => k_is)
    (case c_BadCalendar___init___ => k_is)
    (case k_BadCalendar___init__ => k_is)
    (case t_BadCalendar___init__ => k_is)
    (case a_BadDoor => k_is)
    (case h_BadDoor_l => k_is)
    (case h_BadDoor_bm => first | rfl | decide +kernel)
    (case h_BadDoor_sa => k_is)
    (case h_BadDoor_ex => k_is)
    (case h_BadDoor_ty => k_is)
    (case h_BadDoor_kp => k_is)
    (case h_BadDoor_ga => k_is)
    (case h_BadDoor_gg => k_is)
    (case h_BadDoor_hd => k_is)
    (case h_BadDoor_cls => k_is)
    (case h_BadDoor_mro => k_is)
    (case h_nx_BadDoor_part => k_is)
    (case a_BadDoor___init__ => k_is)
    (case i_BadDoor___init__ => k_is)
    (case l_BadDoor___init__ => k_is)
    (case c_BadDoor___init___ => k_is)
    (case k_BadDoor___init__ => k_is)
    (case t_BadDoor___init__ => k_is)
    (case a_BadName => k_is)
    (case h_BadName_l => k_is)
    (case h_BadName_bm => first | rfl | decide +kernel)
    (case h_BadName_sa => k_is)
    (case h_BadName_ex => k_is)
    (case h_BadName_ty => k_is)
    (case h_BadName_kp => k_is)
    (case h_BadName_ga => k_is)
    (case h_BadName_gg => k_is)
    (case h_BadName_hd => k_is)
    (case h_BadName_cls => k_is)
    (case h_BadName_mro => k_is)
    (case h_nx_BadName_value => k_is)
    (case a_BadName___init__ => k_is)
    (case i_BadName___init__ => k_is)
    (case l_BadName___init__ => k_is)
    (case c_BadName___init___ => k_is)
    (case k_BadName___init__ => k_is)
    (case t_BadName___init__ => k_is)
    (case a_BadCount => k_is)
    (case h_BadCount_l => k_is)
    (case h_BadCount_bm => first | rfl | decide +kernel)
    (case h_BadCount_sa => k_is)
    (case h_BadCount_ex => k_is)
    (case h_BadCount_ty => k_is)
    (case h_BadCount_kp => k_is)
    (case h_BadCount_ga => k_is)
    (case h_BadCount_gg => k_is)
    (case h_BadCount_hd => k_is)
    (case h_BadCount_cls => k_is)
    (case h_BadCount_mro => k_is)
    (case h_nx_BadCount_value => k_is)
    (case a_BadCount___init__ => k_is)
    (case i_BadCount___init__ => k_is)
    (case l_BadCount___init__ => k_is)
    (case c_BadCount___init___ => k_is)
    (case k_BadCount___init__ => k_is)
    (case t_BadCount___init__ => k_is)
    (case a_BadWish => k_is)
    (case h_BadWish_l => k_is)
    (case h_BadWish_bm => first | rfl | decide +kernel)
    (case h_BadWish_sa => k_is)
    (case h_BadWish_ex => k_is)
    (case h_BadWish_ty => k_is)
    (case h_BadWish_kp => k_is)
    (case h_BadWish_ga => k_is)
    (case h_BadWish_gg => k_is)
    (case h_BadWish_hd => k_is)
    (case h_BadWish_cls => k_is)
    (case h_BadWish_mro => k_is)
    (case h_nx_BadWish_at => k_is)
    (case a_BadWish___init__ => k_is)
    (case i_BadWish___init__ => k_is)
    (case l_BadWish___init__ => k_is)
    (case c_BadWish___init___ => k_is)
    (case k_BadWish___init__ => k_is)
    (case t_BadWish___init__ => k_is)
    (case a_BadRow => k_is)
    (case h_BadRow_l => k_is)
    (case h_BadRow_bm => first | rfl | decide +kernel)
    (case h_BadRow_sa => k_is)
    (case h_BadRow_ex => k_is)
    (case h_BadRow_ty => k_is)
    (case h_BadRow_kp => k_is)
    (case h_BadRow_ga => k_is)
    (case h_BadRow_gg => k_is)
    (case h_BadRow_hd => k_is)
    (case h_BadRow_cls => k_is)
    (case h_BadRow_mro => k_is)
    (case h_nx_BadRow_at => k_is)
    (case a_BadRow___init__ => k_is)
    (case i_BadRow___init__ => k_is)
    (case l_BadRow___init__ => k_is)
    (case c_BadRow___init___ => k_is)
    (case k_BadRow___init__ => k_is)
    (case t_BadRow___init__ => k_is)
    (case a_BadText => k_is)
    (case h_BadText_l => k_is)
    (case h_BadText_bm => first | rfl | decide +kernel)
    (case h_BadText_sa => k_is)
    (case h_BadText_ex => k_is)
    (case h_BadText_ty => k_is)
    (case h_BadText_kp => k_is)
    (case h_BadText_ga => k_is)
    (case h_BadText_gg => k_is)
    (case h_BadText_hd => k_is)
    (case h_BadText_cls => k_is)
    (case h_BadText_mro => k_is)
    (case h_nx_BadText_line => k_is)
    (case h_nx_BadText_word => k_is)
    (case a_BadText___init__ => k_is)
    (case i_BadText___init__ => k_is)
    (case l_BadText___init__ => k_is)
    (case c_BadText___init___ => k_is)
    (case k_BadText___init__ => k_is)
    (case t_BadText___init__ => k_is)
    (case a_BadLine => k_is)
    (case h_BadLine_l => k_is)
    (case h_BadLine_bm => first | rfl | decide +kernel)
    (case h_BadLine_sa => k_is)
    (case h_BadLine_ex => k_is)
    (case h_BadLine_ty => k_is)
    (case h_BadLine_kp => k_is)
    (case h_BadLine_ga => k_is)
    (case h_BadLine_gg => k_is)
    (case h_BadLine_hd => k_is)
    (case h_BadLine_cls => k_is)
    (case h_BadLine_mro => k_is)
    (case h_nx_BadLine_word => k_is)
    (case a_BadLine___init__ => k_is)
    (case i_BadLine___init__ => k_is)
    (case l_BadLine___init__ => k_is)
    (case c_BadLine___init___ => k_is)
    (case k_BadLine___init__ => k_is)
    (case t_BadLine___init__ => k_is)
    (case a_Taken => k_is)
    (case h_Taken_l => k_is)
    (case h_Taken_bm => first | rfl | decide +kernel)
    (case h_Taken_sa => k_is)
    (case h_Taken_ex => k_is)
    (case h_Taken_ty => k_is)
    (case h_Taken_kp => k_is)
    (case h_Taken_ga => k_is)
    (case h_Taken_gg => k_is)
    (case h_Taken_hd => k_is)
    (case h_Taken_cls => k_is)
    (case h_Taken_mro => k_is)
    (case h_nx_Taken_name => k_is)
    (case a_Taken___init__ => k_is)
    (case i_Taken___init__ => k_is)
    (case l_Taken___init__ => k_is)
    (case c_Taken___init___ => k_is)
    (case k_Taken___init__ => k_is)
    (case t_Taken___init__ => k_is)
    (case a_NoGuest => k_is)
    (case h_NoGuest_l => k_is)
    (case h_NoGuest_bm => first | rfl | decide +kernel)
    (case h_NoGuest_sa => k_is)
    (case h_NoGuest_ex => k_is)
    (case h_NoGuest_ty => k_is)
    (case h_NoGuest_kp => k_is)
    (case h_NoGuest_ga => k_is)
    (case h_NoGuest_gg => k_is)
    (case h_NoGuest_hd => k_is)
    (case h_NoGuest_cls => k_is)
    (case h_NoGuest_mro => k_is)
    (case h_nx_NoGuest_name => k_is)
    (case a_NoGuest___init__ => k_is)
    (case i_NoGuest___init__ => k_is)
    (case l_NoGuest___init__ => k_is)
    (case c_NoGuest___init___ => k_is)
    (case k_NoGuest___init__ => k_is)
    (case t_NoGuest___init__ => k_is)
    (case a_NotLet => k_is)
    (case h_NotLet_l => k_is)
    (case h_NotLet_bm => first | rfl | decide +kernel)
    (case h_NotLet_sa => k_is)
    (case h_NotLet_ex => k_is)
    (case h_NotLet_ty => k_is)
    (case h_NotLet_kp => k_is)
    (case h_NotLet_ga => k_is)
    (case h_NotLet_gg => k_is)
    (case h_NotLet_hd => k_is)
    (case h_NotLet_cls => k_is)
    (case h_NotLet_mro => k_is)
    (case h_nx_NotLet_stay => k_is)
    (case a_NotLet___init__ => k_is)
    (case i_NotLet___init__ => k_is)
    (case l_NotLet___init__ => k_is)
    (case c_NotLet___init___ => k_is)
    (case k_NotLet___init__ => k_is)
    (case t_NotLet___init__ => k_is)
    (case a_Outside => k_is)
    (case h_Outside_l => k_is)
    (case h_Outside_bm => first | rfl | decide +kernel)
    (case h_Outside_sa => k_is)
    (case h_Outside_ex => k_is)
    (case h_Outside_ty => k_is)
    (case h_Outside_kp => k_is)
    (case h_Outside_ga => k_is)
    (case h_Outside_gg => k_is)
    (case h_Outside_hd => k_is)
    (case h_Outside_cls => k_is)
    (case h_Outside_mro => k_is)
    (case h_nx_Outside_stay => k_is)
    (case a_Outside___init__ => k_is)
    (case i_Outside___init__ => k_is)
    (case l_Outside___init__ => k_is)
    (case c_Outside___init___ => k_is)
    (case k_Outside___init__ => k_is)
    (case t_Outside___init__ => k_is)
    (case a_Full => k_is)
    (case h_Full_l => k_is)
    (case h_Full_bm => first | rfl | decide +kernel)
    (case h_Full_sa => k_is)
    (case h_Full_ex => k_is)
    (case h_Full_ty => k_is)
    (case h_Full_kp => k_is)
    (case h_Full_ga => k_is)
    (case h_Full_gg => k_is)
    (case h_Full_hd => k_is)
    (case h_Full_cls => k_is)
    (case h_Full_mro => k_is)
    (case h_nx_Full_night => k_is)
    (case a_Full___init__ => k_is)
    (case i_Full___init__ => k_is)
    (case l_Full___init__ => k_is)
    (case c_Full___init___ => k_is)
    (case k_Full___init__ => k_is)
    (case t_Full___init__ => k_is)
    (case a_Loose => k_is)
    (case h_Loose_l => k_is)
    (case h_Loose_bm => first | rfl | decide +kernel)
    (case h_Loose_sa => k_is)
    (case h_Loose_ex => k_is)
    (case h_Loose_ty => k_is)
    (case h_Loose_kp => k_is)
    (case h_Loose_ga => k_is)
    (case h_Loose_gg => k_is)
    (case h_Loose_hd => k_is)
    (case h_Loose_cls => k_is)
    (case h_Loose_mro => k_is)
    (case h_nx_Loose_name => k_is)
    (case a_Loose___init__ => k_is)
    (case i_Loose___init__ => k_is)
    (case l_Loose___init__ => k_is)
    (case c_Loose___init___ => k_is)
    (case k_Loose___init__ => k_is)
    (case t_Loose___init__ => k_is)
    (case a_TooMany => k_is)
    (case h_TooMany_l => k_is)
    (case h_TooMany_bm => first | rfl | decide +kernel)
    (case h_TooMany_sa => k_is)
    (case h_TooMany_ex => k_is)
    (case h_TooMany_ty => k_is)
    (case h_TooMany_kp => k_is)
    (case h_TooMany_ga => k_is)
    (case h_TooMany_gg => k_is)
    (case h_TooMany_hd => k_is)
    (case h_TooMany_cls => k_is)
    (case h_TooMany_mro => k_is)
    (case h_nx_TooMany_what => k_is)
    (case h_nx_TooMany_most => k_is)
    (case a_TooMany___init__ => k_is)
    (case i_TooMany___init__ => k_is)
    (case l_TooMany___init__ => k_is)
    (case c_TooMany___init___ => k_is)
    (case k_TooMany___init__ => k_is)
    (case t_TooMany___init__ => k_is)
    (case a_Dead => k_is)
    (case h_Dead_l => k_is)
    (case h_Dead_bm => first | rfl | decide +kernel)
    (case h_Dead_sa => k_is)
    (case h_Dead_ex => k_is)
    (case h_Dead_ty => k_is)
    (case h_Dead_kp => k_is)
    (case h_Dead_ga => k_is)
    (case h_Dead_gg => k_is)
    (case h_Dead_hd => k_is)
    (case h_Dead_cls => k_is)
    (case h_Dead_mro => k_is)
    (case h_nx_Dead_bar => k_is)
    (case a_Dead___init__ => k_is)
    (case i_Dead___init__ => k_is)
    (case l_Dead___init__ => k_is)
    (case c_Dead___init___ => k_is)
    (case k_Dead___init__ => k_is)
    (case t_Dead___init__ => k_is)
    (case a_NoDeed => k_is)
    (case h_NoDeed_l => k_is)
    (case h_NoDeed_bm => first | rfl | decide +kernel)
    (case h_NoDeed_sa => k_is)
    (case h_NoDeed_ex => k_is)
    (case h_NoDeed_ty => k_is)
    (case h_NoDeed_kp => k_is)
    (case h_NoDeed_ga => k_is)
    (case h_NoDeed_gg => k_is)
    (case h_NoDeed_hd => k_is)
    (case h_NoDeed_cls => k_is)
    (case h_NoDeed_mro => k_is)
    (case h_in0_NoDeed => k_is)
    (case a_NoHouse => k_is)
    (case h_NoHouse_l => k_is)
    (case h_NoHouse_bm => first | rfl | decide +kernel)
    (case h_NoHouse_sa => k_is)
    (case h_NoHouse_ex => k_is)
    (case h_NoHouse_ty => k_is)
    (case h_NoHouse_kp => k_is)
    (case h_NoHouse_ga => k_is)
    (case h_NoHouse_gg => k_is)
    (case h_NoHouse_hd => k_is)
    (case h_NoHouse_cls => k_is)
    (case h_NoHouse_mro => k_is)
    (case h_in0_NoHouse => k_is)
    (case h_kit => kernel_rfl)
    (case h_kitVE => kit_is)
    (case a__law_pen => k_is)
    (case l__law_pen => k_is)
    (case c__law_pen_ => k_is)
    (case k__law_pen => k_is)
    (case a__law_draw => k_is)
    (case l__law_draw => k_is)
    (case c__law_draw_ => k_is)
    (case k__law_draw => k_is)
    (case a__law_pick => k_is)
    (case l__law_pick => k_is)
    (case c__law_pick_ => k_is)
    (case k__law_pick => k_is)
    (case a__law_value => k_is)
    (case l__law_value => k_is)
    (case c__law_value_ => k_is)
    (case k__law_value => k_is)
    (case a__law_raised => k_is)
    (case l__law_raised => k_is)
    (case c__law_raised_ => k_is)
    (case k__law_raised => k_is)
    (case a__law_signs => k_is)
    (case l__law_signs => k_is)
    (case c__law_signs_ => k_is)
    (case k__law_signs => k_is)
    (case a__law_inputs => k_is)
    (case l__law_inputs => k_is)
    (case c__law_inputs_ => k_is)
    (case k__law_inputs => k_is)
    (case a__law_others => k_is)
    (case l__law_others => k_is)
    (case c__law_others_ => k_is)
    (case k__law_others => k_is)
    (case a_law => k_is)
    (case l_law => k_is)
    (case c_law_ => k_is)
    (case k_law => k_is)
    (case z_isinstance => k_is)
    (case z_int => k_is)
    (case z_len => k_is)
    (case z_list => k_is)
    (case z_abs => k_is)
    (case z_range => k_is)
    (case z_repr => k_is)
    (case z_ValueError => k_is)
#print axioms PySem.Challenge.cw_nodeadnight_k01_errors_and_their_fields_holds
