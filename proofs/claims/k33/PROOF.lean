import PyProof.Rows.All
import Wide.All
import OpenK.AllK
import Wide.FinOn
import HandS.ForMost
import HandS.EndTab
import HandS.OwnEq
import HandS.IsInst
import HandS.Exc
import HandS.ExcInit
import HandS.ExcIs
import HandS.ExcField
import HandS.Conv
import HandS.FStr
import KE.KCallOwn
import HandS.ClsMeth
import HandS.Lambda
import HandS.WordsExc
import HandS.MakeKw
import HandS.MakeKwOnly
import HandS.Wide
import KE.KOwnIter
import KE.KDictIter
import PyProof.WalksMore
import HandS.IterVal
import HandS.Comp
import PyProof.NeKinds
import KE.KIsNot
import PyProof.MeetsIn
import PyProof.EqAt
import PyProof.MeetsSeq
import HandS.Property
import KE.RegKIsAll
import KE.RegKTryMore
import PySem.Challenge.RW_nodeadnight_k33_stretches_made_and_parte
set_option Elab.async false
set_option linter.all false
set_option maxRecDepth 100000
set_option maxHeartbeats 4000000
/-! An abstract layer: a state is what is known (kn) and a count (n); the rest of the heap (a pen, tables of code objects, what a caller had) is kept by an invariant. -/
namespace AW
open PySem PySem.Spec PyProof.Rows L2

def isMut : HO → Bool
  | .lst _ => true | .dK _ => true | .dT _ => true | .set _ _ => true | .ins _ _ _ => true
  | _ => false
def isTbl : HO → Bool
  | .tbl _ => true
  | _ => false
/-- all that kn does not know, and all that never changes, is kept -/
def Kept (kn H H' : Hp) : Prop := ∀ x o, H x = some o → (kn x = none ∨ isMut o = false) → H' x = some o

structure Cw where
  inv : Nat → Hp → Prop
  res : Addr → Prop
  live : ∀ n H x, inv n H → res x → H x ≠ none
  step : ∀ n kn H H', inv n H → (∀ x, res x → kn x = none) → Kept kn H H' → inv n H'
  up : ∀ n m H, inv n H → n ≤ m → inv m H

structure Good (c : Cw) (kn : Hp) (n : Nat) (H : Hp) : Prop where
  ex : Ext kn H
  inv : c.inv n H
  res : ∀ x, c.res x → kn x = none
  nt : ∀ x o, kn x = some o → isTbl o = false

section
variable {c : Cw} {kn kn' H H' : Hp} {n m : Nat} {q : Addr} {o : HO}
theorem Good.free (g : Good c kn n H) (h : H q = none) : kn q = none := by
  cases e : kn q with
  | none => rfl
  | some u => rw [g.ex q u e] at h; cases h
theorem Good.up (g : Good c kn n H) (h : n ≤ m) : Good c kn m H := ⟨g.ex, c.up n m H g.inv h, g.res, g.nt⟩
theorem Kept.refl : Kept kn H H := fun _ _ h _ => h
/-- a new object -/
theorem nt_upd (h : ∀ x o, kn x = some o → isTbl o = false) (ht : isTbl o = false) : ∀ x u, upd kn q o x = some u → isTbl u = false := fun x u e => by
  by_cases hx : x = q
  · rw [hx, upd_same] at e; cases e; exact ht
  · rw [upd_ne hx] at e; exact h x u e
theorem Good.new (g : Good c kn n H) (h : H q = none) (ht : isTbl o = false := by rfl) : Good c (upd kn q o) n (upd H q o) := by
  refine ⟨fun x u e => ?_, c.step n kn H _ g.inv g.res (fun x u e _ => ?_), fun x r => ?_, nt_upd g.nt ht⟩
  · by_cases hx : x = q
    · rw [hx, upd_same] at e
      rw [hx, upd_same]
      exact e
    · rw [upd_ne hx] at e
      rw [upd_ne hx]
      exact g.ex x u e
  · rw [upd_ne (ne_of_none e h)]
    exact e
  · rw [upd_ne (fun z => c.live n H x g.inv r (by rw [z]; exact h))]
    exact g.res x r
/-- a known object is changed -/
theorem Good.put {u : HO} (g : Good c kn n H) (h : kn q = some u) (hm : isMut u = true) (ht : isTbl o = false := by rfl) : Good c (upd kn q o) n (upd H q o) := by
  refine ⟨fun x v e => ?_, c.step n kn H _ g.inv g.res (fun x v e k => ?_), fun x r => ?_, nt_upd g.nt ht⟩
  · by_cases hx : x = q
    · rw [hx, upd_same] at e
      rw [hx, upd_same]
      exact e
    · rw [upd_ne hx] at e
      rw [upd_ne hx]
      exact g.ex x v e
  · have hx : x ≠ q := fun z => by
      subst z
      have e2 := g.ex x u h
      rw [e] at e2
      cases e2
      rcases k with k | k
      · rw [h] at k; cases k
      · rw [hm] at k; cases k
    rw [upd_ne hx]
    exact e
  · rw [upd_ne (fun z => by subst z; have := g.res x r; rw [h] at this; cases this)]
    exact g.res x r
/-- the rest is only made longer -/
theorem Good.ext (g : Good c kn n H) (e : Ext H H') : Good c kn n H' :=
  ⟨fun x o h => e x o (g.ex x o h), c.step n kn H _ g.inv g.res fun x o h _ => e x o h, g.res, g.nt⟩
theorem know {a : Addr} {u : HO} (h : kn q = none) (e : kn a = some u) : upd kn q o a = some u := by
  rw [upd_ne (ne_of_none e h)]
  exact e
theorem free_upd {a : Addr} (h : kn q = none) (e : upd kn a o q = none) : True := trivial
theorem Ext.know {a : Addr} {u : HO} (x : Ext kn kn') (e : kn a = some u) : kn' a = some u := x a u e
end

/-- the abstract wish -/
def W {α : Type} (c : Cw) (t : Hp → (α → Hp → Prop) → Prop) (kn : Hp) (n : Nat) (Q : α → Hp → Nat → Prop) : Prop :=
  ∀ H, Good c kn n H → ∀ Q' : α → Hp → Prop, (∀ v kn' n' H', Q v kn' n' → Good c kn' n' H' → Q' v H') → t H Q'
structure AE where
  nx : L2.St → Hp → Nat → Prop
  rt : V → Hp → Nat → Prop
  bk : L2.St → Hp → Nat → Prop := fun _ _ _ => False
  ct : L2.St → Hp → Nat → Prop := fun _ _ _ => False
/-- an end is served by another -/
structure Fits (c : Cw) (D : AE) (D' : Ends) : Prop where
  nx : ∀ σ kn n H, D.nx σ kn n → Good c kn n H → D'.nx σ H
  rt : ∀ v kn n H, D.rt v kn n → Good c kn n H → D'.rt v H
  bk : ∀ σ kn n H, D.bk σ kn n → Good c kn n H → D'.bk σ H
  ct : ∀ σ kn n H, D.ct σ kn n → Good c kn n H → D'.ct σ H
def WS (c : Cw) (ts : TS) (D : AE) (σ : L2.St) (kn : Hp) (n : Nat) : Prop := ∀ H, Good c kn n H → ∀ D' : Ends, Fits c D D' → ts D' σ H

section
variable {c : Cw} {kn : Hp} {n : Nat} {σ : L2.St} {K : PySem.W.Frag}
theorem W.mono {α : Type} {t : Hp → (α → Hp → Prop) → Prop} {Q R : α → Hp → Nat → Prop} (h : W c t kn n Q) (k : ∀ v kn' n', Q v kn' n' → R v kn' n') : W c t kn n R :=
  fun H g Q' q => h H g Q' fun v kn' n' H' e => q v kn' n' H' (k v kn' n' e)

/-! ### expressions -/
variable {Q : V → Hp → Nat → Prop} {QB : Bool → Hp → Nat → Prop} {QA : List V → Hp → Nat → Prop} {QO : Option Int → Hp → Nat → Prop}
theorem w_var {i : Nat} {v : V} (h : σ[i]? = some (some v)) (q : Q v kn n) : W c (tVar i σ) kn n Q := fun H g _ k => ⟨v, h, k v kn n H q g⟩
theorem w_c {v : V} (q : Q v kn n) : W c (tC v σ) kn n Q := fun H g _ k => k v kn n H q g
theorem w_op {r : R2} {ta tb : TE} (h : W c (ta σ) kn n fun x kn1 n1 => W c (tb σ) kn1 n1 fun y kn2 n2 => W c (r x y) kn2 n2 Q) : W c (tOp r ta tb σ) kn n Q :=
  fun H g Q' q => h H g _ fun x kn1 n1 H1 h1 g1 => h1 H1 g1 _ fun y kn2 n2 H2 h2 g2 => h2 H2 g2 Q' q
theorem w_un {r : V → Hp → VK → Prop} {ta : TE} (h : W c (ta σ) kn n fun x kn1 n1 => W c (r x) kn1 n1 Q) : W c (tUn r ta σ) kn n Q :=
  fun H g Q' q => h H g _ fun x kn1 n1 H1 h1 g1 => h1 H1 g1 Q' q
theorem r_I0 {f : Int → Int → V} {i j : Int} (q : Q (f i j) kn n) : W c (rI0 f (.int i) (.int j)) kn n Q := fun H g _ k => ⟨i, j, rfl, rfl, k _ kn n H q g⟩
theorem r_I {C : Int → Int → Prop} {f : Int → Int → V} {i j : Int} (hc : C i j) (q : Q (f i j) kn n) : W c (rI C f (.int i) (.int j)) kn n Q := fun H g _ k => ⟨i, j, rfl, rfl, hc, k _ kn n H q g⟩
theorem r_U {f : Int → V} {i : Int} (q : Q (f i) kn n) : W c (rU f (.int i)) kn n Q := fun H g _ k => ⟨i, rfl, k _ kn n H q g⟩
theorem r_eq {x y : V} (h : scal x y = true) (q : Q (.bl (decide (x = y))) kn n) : W c (rEq x y) kn n Q := fun H g _ k => ⟨h, k _ kn n H q g⟩
theorem r_ne {x y : V} (h : scal x y = true) (q : Q (.bl (!decide (x = y))) kn n) : W c (rNe x y) kn n Q := fun H g _ k => ⟨h, k _ kn n H q g⟩
theorem sql {a : Addr} {xs : List V} {H : Hp} (h : H a = some (.lst xs)) : SqL K H a xs := .inl (.inl h)
theorem sqt {a : Addr} {xs : List V} {H : Hp} (h : H a = some (.tup xs)) : SqT K H a xs := .inl (.inl h)
theorem r_ixL {p : Addr} {xs : List V} {i : Int} {v : V} (h : kn p = some (.lst xs)) (e : atI xs i = some v) (q : Q v kn n) : W c (rIxL K (.ref p) (.int i)) kn n Q :=
  fun H g _ k => ⟨p, xs, i, v, rfl, rfl, sql (g.ex _ _ h), e, k _ kn n H q g⟩
theorem r_ixT {p : Addr} {xs : List V} {i : Int} {v : V} (h : kn p = some (.tup xs)) (e : atI xs i = some v) (q : Q v kn n) : W c (rIxT K (.ref p) (.int i)) kn n Q :=
  fun H g _ k => ⟨p, xs, i, v, rfl, rfl, sqt (g.ex _ _ h), e, k _ kn n H q g⟩
theorem w_nil (q : QA [] kn n) : W c (tNil σ) kn n QA := fun H g _ k => k _ kn n H q g
theorem w_cons {ta : TE} {tr : TA} (h : W c (ta σ) kn n fun x kn1 n1 => W c (tr σ) kn1 n1 fun xs kn2 n2 => QA (x :: xs) kn2 n2) : W c (tCons ta tr σ) kn n QA :=
  fun H g Q' q => h H g _ fun x kn1 n1 H1 h1 g1 => h1 H1 g1 _ fun xs kn2 n2 H2 h2 g2 => q _ kn2 n2 H2 h2 g2
theorem w_tup {t : TA} (h : W c (t σ) kn n fun xs kn1 n1 => xs.length ≤ 1000 ∧ ∀ q, kn1 q = none → Q (.ref q) (upd kn1 q (.tup xs)) n1) : W c (tTup t σ) kn n Q :=
  fun H g Q' q => h H g _ fun xs kn1 n1 H1 h1 g1 => ⟨Nat.le_trans h1.1 (by decide), fun p hp => q _ _ _ _ (h1.2 p (g1.free hp)) (g1.new hp)⟩
theorem w_lst {t : TA} (h : W c (t σ) kn n fun xs kn1 n1 => xs.length ≤ 1000 ∧ ∀ q, kn1 q = none → Q (.ref q) (upd kn1 q (.lst xs)) n1) : W c (tLst t σ) kn n Q :=
  fun H g Q' q => h H g _ fun xs kn1 n1 H1 h1 g1 => ⟨Nat.le_trans h1.1 (by decide), fun p hp => q _ _ _ _ (h1.2 p (g1.free hp)) (g1.new hp)⟩
theorem w_cb {r : List V → Hp → VK → Prop} {t : TA} (h : W c (t σ) kn n fun xs kn1 n1 => W c (r xs) kn1 n1 Q) : W c (tCB r t σ) kn n Q :=
  fun H g Q' q => h H g _ fun xs kn1 n1 H1 h1 g1 => h1 H1 g1 Q' q
theorem w_ifE {t : TT} {ta tb : TE} (h : W c (t σ) kn n fun b kn1 n1 => (b = true → W c (ta σ) kn1 n1 Q) ∧ (b = false → W c (tb σ) kn1 n1 Q)) : W c (tIf t ta tb σ) kn n Q :=
  fun H g Q' q => h H g _ fun b kn1 n1 H1 h1 g1 => by
    cases b with
    | true => exact iteT (h1.1 rfl H1 g1 Q' q)
    | false => exact iteF (h1.2 rfl H1 g1 Q' q)
theorem w_andV {ta tb : TE} (h : W c (ta σ) kn n fun x kn1 n1 => ∃ b, x = .bl b ∧ (b = true → W c (tb σ) kn1 n1 Q) ∧ (b = false → Q (.bl false) kn1 n1)) : W c (tAndV ta tb σ) kn n Q :=
  fun H g Q' q => h H g _ fun x kn1 n1 H1 h1 g1 => by
    obtain ⟨b, e, h2, h3⟩ := h1
    refine ⟨b, e, ?_⟩
    cases b with
    | true => exact iteT (h2 rfl H1 g1 Q' q)
    | false => exact iteF (q _ _ _ _ (h3 rfl) g1)
theorem w_orV {ta tb : TE} (h : W c (ta σ) kn n fun x kn1 n1 => ∃ b, x = .bl b ∧ (b = false → W c (tb σ) kn1 n1 Q) ∧ (b = true → Q (.bl true) kn1 n1)) : W c (tOrV ta tb σ) kn n Q :=
  fun H g Q' q => h H g _ fun x kn1 n1 H1 h1 g1 => by
    obtain ⟨b, e, h2, h3⟩ := h1
    refine ⟨b, e, ?_⟩
    cases b with
    | true => exact iteT (q _ _ _ _ (h3 rfl) g1)
    | false => exact iteF (h2 rfl H1 g1 Q' q)
theorem w_notV {ta : TE} (h : W c (ta σ) kn n fun x kn1 n1 => ∃ b, x = .bl b ∧ Q (.bl (!b)) kn1 n1) : W c (tNotV ta σ) kn n Q :=
  fun H g Q' q => h H g _ fun x kn1 n1 H1 h1 g1 => by
    obtain ⟨b, e, h2⟩ := h1
    exact ⟨b, e, q _ _ _ _ h2 g1⟩

/-! ### tests -/
theorem w_test {t : TE} (h : W c (t σ) kn n fun x kn1 n1 => ∃ b, x = .bl b ∧ QB b kn1 n1) : W c (tTest t σ) kn n QB :=
  fun H g Q' q => h H g _ fun x kn1 n1 H1 h1 g1 => by
    obtain ⟨b, e, h2⟩ := h1
    exact ⟨b, e, q _ _ _ _ h2 g1⟩
theorem w_B {t : TE} (h : W c (t σ) kn n fun x kn1 n1 => ∃ b, x = .bl b ∧ QB b kn1 n1) : W c (tB t σ) kn n QB :=
  fun H g Q' q => h H g _ fun x kn1 n1 H1 h1 g1 => by
    obtain ⟨b, e, h2⟩ := h1
    exact ⟨b, e, q _ _ _ _ h2 g1⟩
theorem w_and {t u : TT} (h : W c (t σ) kn n fun b kn1 n1 => (b = true → W c (u σ) kn1 n1 QB) ∧ (b = false → QB false kn1 n1)) : W c (tAnd t u σ) kn n QB :=
  fun H g Q' q => h H g _ fun b kn1 n1 H1 h1 g1 => by
    cases b with
    | true => exact iteT (h1.1 rfl H1 g1 Q' q)
    | false => exact iteF (q _ _ _ _ (h1.2 rfl) g1)
theorem w_or {t u : TT} (h : W c (t σ) kn n fun b kn1 n1 => (b = false → W c (u σ) kn1 n1 QB) ∧ (b = true → QB true kn1 n1)) : W c (tOr t u σ) kn n QB :=
  fun H g Q' q => h H g _ fun b kn1 n1 H1 h1 g1 => by
    cases b with
    | true => exact iteT (q _ _ _ _ (h1.2 rfl) g1)
    | false => exact iteF (h1.1 rfl H1 g1 Q' q)
theorem w_not {t : TT} (h : W c (t σ) kn n fun b kn1 n1 => QB (!b) kn1 n1) : W c (tNot t σ) kn n QB :=
  fun H g Q' q => h H g _ fun b kn1 n1 H1 h1 g1 => q _ _ _ _ h1 g1

/-! ### slices -/
theorem w_noPart (q : QO none kn n) : W c (tNoPart σ) kn n QO := fun H g _ k => k _ kn n H q g
theorem w_part {t : TE} (h : W c (t σ) kn n fun x kn1 n1 => ∃ i, x = .int i ∧ QO (some i) kn1 n1) : W c (tPart t σ) kn n QO :=
  fun H g Q' q => h H g _ fun x kn1 n1 H1 h1 g1 => by
    obtain ⟨i, e, h2⟩ := h1
    exact ⟨i, e, q _ _ _ _ h2 g1⟩
theorem w_sl {r : V → Option Int → Option Int → Hp → VK → Prop} {te : TE} {tl th : TO}
    (h : W c (te σ) kn n fun x kn1 n1 => W c (tl σ) kn1 n1 fun l kn2 n2 => W c (th σ) kn2 n2 fun u kn3 n3 => W c (r x l u) kn3 n3 Q) : W c (tSl r te tl th σ) kn n Q :=
  fun H g Q' q => h H g _ fun x kn1 n1 H1 h1 g1 => h1 H1 g1 _ fun l kn2 n2 H2 h2 g2 => h2 H2 g2 _ fun u kn3 n3 H3 h3 g3 => h3 H3 g3 Q' q
theorem r_slL {p : Addr} {xs : List V} {lo hi : Option Int} (h : kn p = some (.lst xs)) (q : ∀ l, kn l = none → Q (.ref l) (upd kn l (.lst (cutV xs lo hi))) n) : W c (rSlL K (.ref p) lo hi) kn n Q :=
  fun H g _ k => ⟨p, xs, rfl, sql (g.ex _ _ h), fun l hl => k _ _ _ _ (q l (g.free hl)) (g.new hl)⟩

/-! ### fields, objects -/
theorem w_fld {ta : TE} {f : Str} (h : W c (ta σ) kn n fun x kn1 n1 => ∃ a C dx fs v, x = .ref a ∧ kn1 a = some (.ins C dx fs) ∧ Cls K C ∧ NoAttr K C f ∧ fs.lookup f = some v ∧ Q v kn1 n1) : W c (tFld K ta f σ) kn n Q :=
  fun H g Q' q => h H g _ fun x kn1 n1 H1 h1 g1 => by
    obtain ⟨a, C, dx, fs, v, e, h2, hc, hn, hl, h3⟩ := h1
    exact ⟨a, C, dx, fs, v, e, g1.ex _ _ h2, hc, hn, hl, q _ _ _ _ h3 g1⟩

/-! ### statements -/
variable {D : AE}
theorem s_next (q : D.nx σ kn n) : WS c tNext D σ kn n := fun H g D' f => f.nx σ kn n H q g
theorem s_seq {t u : TS} (h : WS c t { D with nx := fun σ1 kn1 n1 => WS c u D σ1 kn1 n1 } σ kn n) : WS c (tSeq t u) D σ kn n :=
  fun H g D' f => h H g { D' with nx := u D' } ⟨fun σ1 kn1 n1 H1 h1 g1 => h1 H1 g1 D' f, f.rt, f.bk, f.ct⟩
theorem s_ret {te : TE} (h : W c (te σ) kn n D.rt) : WS c (tRet te) D σ kn n := fun H g D' f => h H g D'.rt fun v kn1 n1 H1 h1 g1 => f.rt v kn1 n1 H1 h1 g1
theorem s_retN (h : D.rt .non kn n) : WS c tRetN D σ kn n := fun H g D' f => f.rt _ kn n H h g
theorem s_drop {te : TE} (h : W c (te σ) kn n fun _ kn1 n1 => D.nx σ kn1 n1) : WS c (tDrop te) D σ kn n := fun H g D' f => h H g _ fun v kn1 n1 H1 h1 g1 => f.nx σ kn1 n1 H1 h1 g1
theorem s_brk (h : D.bk σ kn n) : WS c tBreak D σ kn n := fun H g D' f => f.bk σ kn n H h g
theorem s_cont (h : D.ct σ kn n) : WS c tCont D σ kn n := fun H g D' f => f.ct σ kn n H h g
theorem s_if {t : TT} {u w : TS} (h : W c (t σ) kn n fun b kn1 n1 => (b = true → WS c u D σ kn1 n1) ∧ (b = false → WS c w D σ kn1 n1)) : WS c (tIfS t u w) D σ kn n :=
  fun H g D' f => h H g _ fun b kn1 n1 H1 h1 g1 => by
    cases b with
    | true => exact iteT (h1.1 rfl H1 g1 D' f)
    | false => exact iteF (h1.2 rfl H1 g1 D' f)
/-- targets -/
def WG (c : Cw) (gt : TG) (v : V) (σ : L2.St) (kn : Hp) (n : Nat) (N : L2.St → Hp → Nat → Prop) : Prop :=
  ∀ H, Good c kn n H → ∀ N' : L2.St → Hp → Prop, (∀ σ1 kn1 n1 H1, N σ1 kn1 n1 → Good c kn1 n1 H1 → N' σ1 H1) → gt v σ H N'
theorem g_name {i : Nat} {v : V} {N : L2.St → Hp → Nat → Prop} (h : N (σ.set i (some v)) kn n) : WG c (gName i) v σ kn n N := fun H g N' f => f _ kn n H h g
def WGs (c : Cw) (gt : TGs) (vs : List V) (σ : L2.St) (kn : Hp) (n : Nat) (N : L2.St → Hp → Nat → Prop) : Prop :=
  ∀ H, Good c kn n H → ∀ N' : L2.St → Hp → Prop, (∀ σ1 kn1 n1 H1, N σ1 kn1 n1 → Good c kn1 n1 H1 → N' σ1 H1) → gt vs σ H N'
theorem g_nil {N : L2.St → Hp → Nat → Prop} (h : N σ kn n) : WGs c gNil [] σ kn n N := fun H g N' f => ⟨rfl, f _ kn n H h g⟩
theorem g_cons {t : TG} {u : TGs} {v : V} {r : List V} {N : L2.St → Hp → Nat → Prop} (h : WG c t v σ kn n fun σ1 kn1 n1 => WGs c u r σ1 kn1 n1 N) : WGs c (gCons t u) (v :: r) σ kn n N :=
  fun H g N' f => ⟨v, r, rfl, h H g _ fun σ1 kn1 n1 H1 h1 g1 => h1 H1 g1 N' f⟩
theorem g_tup {k : Nat} {t : TGs} {a : Addr} {xs : List V} {N : L2.St → Hp → Nat → Prop} (h : kn a = some (.tup xs)) (hl : xs.length = k) (q : WGs c t xs σ kn n N) : WG c (gTup K k t) (.ref a) σ kn n N :=
  fun H g N' f => ⟨a, xs, rfl, sqt (g.ex _ _ h), hl, q H g N' f⟩
theorem s_asg {te : TE} {gt : TG} (h : W c (te σ) kn n fun v kn1 n1 => WG c gt v σ kn1 n1 D.nx) : WS c (tAsg te gt) D σ kn n :=
  fun H g D' f => h H g _ fun v kn1 n1 H1 h1 g1 => h1 H1 g1 D'.nx fun σ2 kn2 n2 H2 h2 g2 => f.nx σ2 kn2 n2 H2 h2 g2
theorem s_set {te : TE} {i : Nat} (h : W c (te σ) kn n fun v kn1 n1 => D.nx (σ.set i (some v)) kn1 n1) : WS c (tAsg te (gName i)) D σ kn n :=
  s_asg (h.mono fun _ _ _ q => g_name q)
theorem s_par {i j : Nat} {ta : TA} (h : W c (ta σ) kn n fun vs kn1 n1 => ∃ v w, vs = [v, w] ∧ D.nx ((σ.set i (some v)).set j (some w)) kn1 n1) : WS c (tPar i j ta) D σ kn n :=
  fun H g D' f => h H g _ fun vs kn1 n1 H1 h1 g1 => by
    obtain ⟨v, w, e, h2⟩ := h1
    exact ⟨v, w, e, f.nx _ _ _ _ h2 g1⟩
theorem g_set {to ti : TE} {v : V} {N : L2.St → Hp → Nat → Prop}
    (h : W c (to σ) kn n fun o kn1 n1 => W c (ti σ) kn1 n1 fun i kn2 n2 => ∃ p xs k j, o = .ref p ∧ i = .int k ∧ kn2 p = some (.lst xs) ∧ ixN xs.length k = some j ∧ N σ (upd kn2 p (.lst (xs.set j v))) n2) : WG c (gSub to ti rSetL) v σ kn n N :=
  fun H g N' f => h H g _ fun o kn1 n1 H1 h1 g1 => h1 H1 g1 _ fun i kn2 n2 H2 h2 g2 => by
    obtain ⟨p, xs, k, j, e1, e2, e3, e4, h3⟩ := h2
    exact ⟨p, xs, k, j, e1, e2, g2.ex _ _ e3, e4, f _ _ _ _ h3 (g2.put e3 rfl)⟩

/-! ### loops -/
theorem s_forR1 {ta : TA} {gt : TG} {tb : TS} {j : Int} (Pv : Nat → L2.St → Hp → Nat → Prop)
    (h : W c (ta σ) kn n fun vs kn1 n1 => vs = [.int j] ∧ -(2 ^ 62) ≤ j ∧ j < 2 ^ 62 ∧ Pv 0 σ kn1 n1)
    (hs : ∀ i σ' kn' n', i < j.toNat → Pv i σ' kn' n' → WG c gt (.int (i : Int)) σ' kn' n' fun σ2 kn2 n2 => WS c tb { D with nx := Pv (i + 1), ct := Pv (i + 1), bk := D.nx } σ2 kn2 n2)
    (hd : ∀ σ' kn' n', Pv j.toNat σ' kn' n' → D.nx σ' kn' n') : WS c (tFor (iRng1 ta) gt tb) D σ kn n :=
  fun H g D' f => h H g _ fun vs kn1 n1 H1 h1 g1 => by
    obtain ⟨e, b1, b2, h2⟩ := h1
    refine ⟨j, e, b1, b2, for_range (lo := 0) (n := j.toNat) (fun i σ' H' => ∃ kn' n', Pv i σ' kn' n' ∧ Good c kn' n' H') ⟨kn1, n1, h2, g1⟩ (fun i σ' H' hi p => ?_) (fun σ' H' p => ?_)⟩
    · obtain ⟨kn', n', p, g'⟩ := p
      have e0 : (0 : Int) + (i : Int) = (i : Int) := Int.zero_add _
      rw [e0]
      refine hs i σ' kn' n' hi p H' g' _ fun σ2 kn2 n2 H2 h2 g2 => h2 H2 g2 _ ⟨fun σ3 kn3 n3 H3 h3 g3 => ⟨kn3, n3, h3, g3⟩, f.rt, fun σ3 kn3 n3 H3 h3 g3 => f.nx _ _ _ _ h3 g3, fun σ3 kn3 n3 H3 h3 g3 => ⟨kn3, n3, h3, g3⟩⟩
    · obtain ⟨kn', n', p, g'⟩ := p
      exact f.nx _ _ _ _ (hd σ' kn' n' p) g'
end
end AW

namespace AW
open PySem PySem.Spec PyProof.Rows L2 LamX

/-! ### contexts: a def without a pen -/
/-- all that the caller had, but what kn0 knows and may change -/
def pureC (kn0 H0 : Hp) : Cw where
  inv _ H := Kept kn0 H0 H
  res x := H0 x ≠ none ∧ kn0 x = none
  live n H x k r := by
    obtain ⟨r1, r2⟩ := r
    cases e : H0 x with
    | none => exact absurd e r1
    | some o =>
      rw [k x o e (.inl r2)]
      exact fun z => nomatch z
  step n kn H H' k r s := fun x o e h => by
    refine s x o (k x o e h) ?_
    rcases h with h | h
    · exact .inl (r x ⟨(by rw [e]; exact fun z => nomatch z), h⟩)
    · exact .inr h
  up _ _ _ h _ := h
theorem pure_start {kn H : Hp} (h : Ext kn H) (t : ∀ x o, kn x = some o → isTbl o = false) : Good (pureC kn H) kn 0 H := ⟨h, Kept.refl, fun _ r => r.2, t⟩
theorem pure_any {kn0 H0 kn H : Hp} {n m : Nat} (g : Good (pureC kn0 H0) kn n H) : Good (pureC kn0 H0) kn m H := ⟨g.ex, g.inv, g.res, g.nt⟩
/-- a state of the callee is one of the caller -/
theorem Good.back {c : Cw} {kn kn' H H' : Hp} {n m : Nat} (g : Good c kn n H) (h : Good (pureC kn H) kn' m H') : Good c kn' n H' :=
  ⟨h.ex, c.step n kn H H' g.inv g.res h.inv, fun x r => h.res x ⟨c.live n H x g.inv r, g.res x r⟩, h.nt⟩

theorem both_t {A B : Prop} (h : A) : (true = true → A) ∧ (true = false → B) := ⟨fun _ => h, fun z => Bool.noConfusion z⟩
theorem both_f {A B : Prop} (h : B) : (false = true → A) ∧ (false = false → B) := ⟨fun z => Bool.noConfusion z, fun _ => h⟩
abbrev AK := V → Hp → Prop
abbrev AXK := Value → Option Addr → Hp → Prop
/-- a promise told of what is known -/
def liftX (B : List V → Hp → AK → AXK → Prop) : Sp := fun vs H Q E => ∃ kn, Ext kn H ∧ (∀ x o, kn x = some o → isTbl o = false) ∧ B vs kn (fun v kn' => ∀ n' H', Good (pureC kn H) kn' n' H' → Q v H') (fun cls d kn' => ∀ n' H', Good (pureC kn H) kn' n' H' → E cls d H')
def MonoX (B : List V → Hp → AK → AXK → Prop) : Prop := ∀ vs kn Q R E F, (∀ v k, Q v k → R v k) → (∀ cls d k, E cls d k → F cls d k) → B vs kn Q E → B vs kn R F
abbrev noX (B : List V → Hp → AK → Prop) : List V → Hp → AK → AXK → Prop := fun vs kn Q _ => B vs kn Q
section
variable {c : Cw} {kn : Hp} {n : Nat} {σ : L2.St} {Q : V → Hp → Nat → Prop} {K : PySem.W.Frag}
theorem sp_call {B : List V → Hp → AK → AXK → Prop} {vs : List V} {E : XK} {EA : Value → Option Addr → Hp → Nat → Prop} (hm : MonoX B)
    (hE : ∀ cls d kn' n' H', EA cls d kn' n' → Good c kn' n' H' → E cls d H') (h : B vs kn (fun v k => Q v k n) (fun cls d k => EA cls d k n)) : W c (fun H Q' => liftX B vs H Q' E) kn n Q :=
  fun H g Q' q => ⟨kn, g.ex, g.nt, hm vs kn _ _ _ _ (fun v k hq n' H' g' => q v k n H' hq (g.back g')) (fun cls d k he n' H' g' => hE cls d k n H' he (g.back g')) h⟩
theorem w_callX {B : List V → Hp → AK → AXK → Prop} {dvs : List V} {E : XK} {t : TA} {EA : Value → Option Addr → Hp → Nat → Prop} (hm : MonoX B)
    (hE : ∀ cls d kn' n' H', EA cls d kn' n' → Good c kn' n' H' → E cls d H') (h : W c (t σ) kn n fun vs kn1 n1 => B (vs ++ dvs) kn1 (fun v k => Q v k n1) (fun cls d k => EA cls d k n1)) : W c (tCall (liftX B) dvs E t σ) kn n Q :=
  fun H g Q' q => h H g _ fun vs kn1 n1 H1 h1 g1 => sp_call hm hE h1 H1 g1 Q' q
theorem w_call0 {B : List V → Hp → AK → AXK → Prop} {dvs : List V} {E : XK} {t : TA} (hm : MonoX B)
    (h : W c (t σ) kn n fun vs kn1 n1 => B (vs ++ dvs) kn1 (fun v k => Q v k n1) (fun _ _ _ => False)) : W c (tCall (liftX B) dvs E t σ) kn n Q :=
  w_callX (EA := fun _ _ _ _ => False) hm (fun _ _ _ _ _ h => h.elim) h
/-- the ends of a def's body -/
abbrev bodyE (c : Cw) (Q : VK) : AE := { nx := fun _ kn n => ∀ H', Good c kn n H' → Q .non H', rt := fun v kn n => ∀ H', Good c kn n H' → Q v H' }
theorem fits_body {c : Cw} {Q : VK} : Fits c (bodyE c Q) { nx := fun _ H' => Q .non H', rt := Q } :=
  ⟨fun σ kn n H h g => h H g, fun v kn n H h g => h H g, fun _ _ _ _ h _ => h.elim, fun _ _ _ _ h _ => h.elim⟩
theorem body_of {c : Cw} {t : TS} {Q : VK} {H : Hp} (g : Good c kn n H) (h : WS c t (bodyE c Q) σ kn n) : t { nx := fun _ H' => Q .non H', rt := Q } σ H := h H g _ fits_body
theorem s_mono {D D' : AE} {t : TS} (h : WS c t D σ kn n) (e1 : ∀ σ kn n, D.nx σ kn n → D'.nx σ kn n) (e2 : ∀ v kn n, D.rt v kn n → D'.rt v kn n) (e3 : ∀ σ kn n, D.bk σ kn n → D'.bk σ kn n) (e4 : ∀ σ kn n, D.ct σ kn n → D'.ct σ kn n) : WS c t D' σ kn n :=
  fun H g D2 f => h H g D2 ⟨fun σ kn n H h g => f.nx σ kn n H (e1 _ _ _ h) g, fun v kn n H h g => f.rt v kn n H (e2 _ _ _ h) g, fun σ kn n H h g => f.bk σ kn n H (e3 _ _ _ h) g, fun σ kn n H h g => f.ct σ kn n H (e4 _ _ _ h) g⟩
/-- the ways of a statement are joined -/
theorem s_join {D : AE} {t : TS} (J : L2.St → Hp → Nat → Prop) (h : WS c t { D with nx := J } σ kn n) (k : ∀ σ' kn' n', J σ' kn' n' → D.nx σ' kn' n') : WS c t D σ kn n :=
  s_mono h k (fun _ _ _ h => h) (fun _ _ _ h => h) (fun _ _ _ h => h)
theorem s_seqJ {D : AE} {t u : TS} (J : L2.St → Hp → Nat → Prop) (h : WS c t { D with nx := J } σ kn n) (k : ∀ σ' kn' n', J σ' kn' n' → WS c u D σ' kn' n') : WS c (tSeq t u) D σ kn n :=
  s_seq (s_join J h k)

/-! ### built-ins by names of their own -/
def rInt1 : List V → Hp → VK → Prop := fun xs H Q => (∃ i, xs = [.int i] ∧ Q (.int i) H) ∨ ∃ k, xs = [.bl k] ∧ Q (.int (if k then 1 else 0)) H
theorem c_int {X : Cx} : CallR X (.type "int") rInt1 := call_int1
theorem r_int1 {i : Int} (q : Q (.int i) kn n) : W c (rInt1 [.int i]) kn n Q := fun H g _ k => .inl ⟨i, rfl, k _ kn n H q g⟩
theorem r_int1b {b : Bool} (q : Q (.int (if b then 1 else 0)) kn n) : W c (rInt1 [.bl b]) kn n Q := fun H g _ k => .inr ⟨b, rfl, k _ kn n H q g⟩
def rAbs : List V → Hp → VK → Prop := fun xs H Q => ∃ i, xs = [.int i] ∧ Q (.int (if i < 0 then -i else i)) H
theorem c_abs {X : Cx} : CallR X (.builtin "abs") rAbs := call_abs
theorem r_abs {i : Int} (q : Q (.int (if i < 0 then -i else i)) kn n) : W c (rAbs [.int i]) kn n Q := fun H g _ k => ⟨i, rfl, k _ kn n H q g⟩
def rLenQ (K : PySem.W.Frag) : List V → Hp → VK → Prop := fun xs H Q => ∃ p ys, xs = [.ref p] ∧ (SqL K H p ys ∨ SqT K H p ys) ∧ Q (.int ys.length) H
theorem c_len {X : Cx} : CallR X (.builtin "len") (rLenQ X.K) := call_len_seq
theorem r_lenL {p : Addr} {xs : List V} (h : kn p = some (.lst xs)) (q : Q (.int xs.length) kn n) : W c (rLenQ K [.ref p]) kn n Q := fun H g _ k => ⟨p, xs, rfl, .inl (sql (g.ex _ _ h)), k _ kn n H q g⟩
theorem r_lenT {p : Addr} {xs : List V} (h : kn p = some (.tup xs)) (q : Q (.int xs.length) kn n) : W c (rLenQ K [.ref p]) kn n Q := fun H g _ k => ⟨p, xs, rfl, .inr (sqt (g.ex _ _ h)), k _ kn n H q g⟩
def rListQ (K : PySem.W.Frag) : List V → Hp → VK → Prop := fun xs H Q => ∃ p ys, xs = [.ref p] ∧ (SqL K H p ys ∨ SqT K H p ys) ∧ ∀ l, H l = none → Q (.ref l) (upd H l (.lst ys))
theorem c_list {X : Cx} : CallR X (.type "list") (rListQ X.K) := call_list_of
theorem r_listL {p : Addr} {xs : List V} (h : kn p = some (.lst xs)) (q : ∀ l, kn l = none → Q (.ref l) (upd kn l (.lst xs)) n) : W c (rListQ K [.ref p]) kn n Q := fun H g _ k => ⟨p, xs, rfl, .inl (sql (g.ex _ _ h)), fun l hl => k _ _ _ _ (q l (g.free hl)) (g.new hl)⟩
def rStrI : List V → Hp → VK → Prop := fun xs H Q => ∃ i, xs = [.int i] ∧ i.natAbs.log2 < 1920 ∧ Q (.str (toString i)) H
theorem c_strI {X : Cx} : CallR X (.type "str") rStrI := call_str_int
theorem r_strI {i : Int} (h : i.natAbs.log2 < 1920) (q : Q (.str (toString i)) kn n) : W c (rStrI [.int i]) kn n Q := fun H g _ k => ⟨i, rfl, h, k _ kn n H q g⟩

/-! ### == of data -/
theorem r_eqD {x y : V} {d e : PyData} (hx : Dp K kn x d) (hy : Dp K kn y e) (sx : SeqAt.shaped d = true) (sy : SeqAt.shaped e = true) (hmono : ∀ H v d, Ext kn H → Dp K kn v d → Dp K H v d) (q : Q (.bl (PyData.eqv d e)) kn n) : W c (rEqD K x y) kn n Q :=
  fun H g _ k => ⟨d, e, hmono H x d g.ex hx, hmono H y e g.ex hy, sx, sy, k _ kn n H q g⟩
mutual
theorem Dp.ext {H H' : Hp} (e : Ext H H') : ∀ (d : PyData) (v : V), Dp K H v d → Dp K H' v d
  | .none, _, h => by cases h; exact .non
  | .bool b, _, h => by cases h; exact .bl b
  | .int i, _, h => by cases h; exact .int i
  | .str x, _, h => by cases h; exact .str x
  | .list ds, _, h => by
    cases h with
    | lst hs ha => exact .lst (hs.ext e) (Dp.extAll e ds _ ha)
  | .tuple ds, _, h => by
    cases h with
    | tup hs ha => exact .tup (hs.ext e) (Dp.extAll e ds _ ha)
  | .dict _, _, h => by cases h
theorem Dp.extAll {H H' : Hp} (e : Ext H H') : ∀ (ds : List PyData) (vs : List V), DpAll K H vs ds → DpAll K H' vs ds
  | [], _, h => by cases h; exact .nil
  | d :: ds, _, h => by
    cases h with
    | cons h1 h2 => exact .cons (Dp.ext e d _ h1) (Dp.extAll e ds _ h2)
end
theorem r_eq_d {x y : V} {d e : PyData} (hx : Dp K kn x d) (hy : Dp K kn y e) (sx : SeqAt.shaped d = true) (sy : SeqAt.shaped e = true) (q : Q (.bl (PyData.eqv d e)) kn n) : W c (rEqD K x y) kn n Q :=
  r_eqD hx hy sx sy (fun H v d e h => Dp.ext e d v h) q
theorem r_ne_d {x y : V} {d e : PyData} (hx : Dp K kn x d) (hy : Dp K kn y e) (sx : SeqAt.shaped d = true) (sy : SeqAt.shaped e = true) (q : Q (.bl (!PyData.eqv d e)) kn n) : W c (rNeD K x y) kn n Q :=
  fun H g _ k => ⟨d, e, Dp.ext g.ex d x hx, Dp.ext g.ex e y hy, sx, sy, k _ kn n H q g⟩
end
end AW

/-! Operators of own classes. -/
namespace OX
open PySem PySem.W PySem.Calls PyProof.Rows Builtin
section
variable {prog : Program} {w : World} {A : Around} {E : Value → Shared → Prop} {s : Shared} {K : Frag} {x C f : Addr} {ox : Obj} {od : Option Obj} {b : Value}

theorem numSlot_own {M : Model} {h : Heap} {nm : String} (X : K.In h) (hs : findIn K (.ref C) (PySem.dunder nm) = some (some (.ref f))) (hr : findIn K (.ref C) (dunderR nm) = some none) :
    Looks M h (numberSlotInPython (.ref C) nm) true := by
  intro A Q E s k q
  unfold numberSlotInPython
  dsimp only
  refine wpAny_bind (looks_findIn X hs A _ E s k ?_)
  show wpAny M A (pure true >>= _) _ _ _
  refine wpAny_bind (wpAny_pure ?_)
  refine wpAny_bind (looks_findIn X hr A _ E s k ?_)
  show wpAny M A (pure false >>= _) _ _ _
  refine wpAny_bind (wpAny_pure ?_)
  simp only [Bool.or_false, if_true]
  exact wpAny_pure q
/-- an operator of an own class, the other operand of a built-in type -/
theorem binop1_T {nm T : String} {r : Bool} {o : Option Value} {Q : Value → Shared → Prop} (X : K.In s.heap) (I : InstAt s.heap x ox C od) (hb : Looks (model prog w) s.heap (typeOf b) (.type T)) (hc : selfFirst K C = true)
    (hs : findIn K (.ref C) (PySem.dunder nm) = some (some (.ref f))) (hf : isFn K (.ref f) = true) (hr : findIn K (.ref C) (dunderR nm) = some none) (fill : fillsNumberSlot (.type T) nm = pure r)
    (sub : subIn K (.type T) (.ref C) = some false) (hT : typeLookup (.type T) (dunderR nm) = pure o)
    (h : wpAny (model prog w) A (call (.ref f) [.ref x, b]) (PySem.W.CmpBack Q) E s) : wpAny (model prog w) A (binaryOp1 nm (.ref x) b) (fun r s' => ∃ v, r = some v ∧ Q v s') E s := by
  obtain ⟨cd, hcd, hm⟩ := any_some hc
  obtain ⟨rest, hm⟩ : ∃ rest, cd.mro = .ref C :: rest := by
    cases q : cd.mro with
    | nil => rw [q] at hm; cases hm
    | cons a r => rw [q] at hm; exact ⟨r, by rw [List.head?_cons] at hm; cases (beq_iff_eq.mp hm); rfl⟩
  have ne : ((Value.ref C) == (Value.type T)) = false := beq_eq_false_iff_ne.mpr (fun z => nomatch z)
  have last : ∀ {α : Type} (k : Option Value → Sem α) (P : α → Shared → Prop), (∀ v s', PySem.W.CmpBack Q v s' → wpAny (model prog w) A (k (some v)) P E s') → wpAny (model prog w) A (tryMethod (.ref x) (PySem.dunder nm) b >>= k) P E s := fun k P hk => by
    refine wpAny_bind ?_
    unfold tryMethod
    refine wpAny_bind (special_fn X I hs (beq_iff_eq.mp hf) (wpAny_mono h (fun v s' hv => ?_) fun _ _ e => e))
    cases v <;> first | exact hv.elim | exact wpAny_pure (hk _ _ hv)
  unfold binaryOp1
  refine wpAny_bind (I.type.here (wpAny_bind (hb.here (wpAny_bind ((fills_K X hcd hm hs).here ?_)))))
  rw [ne]
  simp only [Bool.false_eq_true, if_false]
  refine wpAny_bind (wpAny_of_eq fill ?_)
  cases r with
  | false =>
    simp only [Bool.and_false, Bool.false_eq_true, if_false, Bool.false_and]
    refine wpAny_bind (wpAny_pure ?_)
    simp only [Bool.false_eq_true, if_false, if_true]
    refine last _ _ fun v s' hv => ?_
    cases v <;> first | exact hv.elim | exact wpAny_pure ⟨_, rfl, hv⟩
  | true =>
    simp only [Bool.and_true, if_true]
    refine wpAny_bind ((looks_subIn X sub).here ?_)
    simp only [Bool.false_eq_true, if_false, Bool.not_false, Bool.and_true, if_true]
    refine wpAny_bind ((numSlot_own X hs hr).here ?_)
    simp only [if_true]
    refine wpAny_bind (wpAny_of_eq (show numberSlotInPython (.type T) nm = pure false from rfl) ?_)
    simp only [Bool.not_false, if_true]
    refine wpAny_bind (wpAny_of_eq hT ?_)
    refine last _ _ fun v s' hv => ?_
    cases v <;> first | exact hv.elim | exact wpAny_pure ⟨_, rfl, hv⟩
/-- .. the other operand of the same class -/
theorem binop1_C {nm : String} {Q : Value → Shared → Prop} (X : K.In s.heap) (I : InstAt s.heap x ox C od) (hb : Looks (model prog w) s.heap (typeOf b) (.ref C)) (hc : selfFirst K C = true)
    (hs : findIn K (.ref C) (PySem.dunder nm) = some (some (.ref f))) (hf : isFn K (.ref f) = true)
    (h : wpAny (model prog w) A (call (.ref f) [.ref x, b]) (PySem.W.CmpBack Q) E s) : wpAny (model prog w) A (binaryOp1 nm (.ref x) b) (fun r s' => ∃ v, r = some v ∧ Q v s') E s := by
  obtain ⟨cd, hcd, hm⟩ := any_some hc
  obtain ⟨rest, hm⟩ : ∃ rest, cd.mro = .ref C :: rest := by
    cases q : cd.mro with
    | nil => rw [q] at hm; cases hm
    | cons a r => rw [q] at hm; exact ⟨r, by rw [List.head?_cons] at hm; cases (beq_iff_eq.mp hm); rfl⟩
  unfold binaryOp1
  refine wpAny_bind (I.type.here (wpAny_bind (hb.here (wpAny_bind ((fills_K X hcd hm hs).here ?_)))))
  simp only [beq_self_eq_true, if_true]
  refine wpAny_bind (wpAny_pure ?_)
  simp only [Bool.and_false, Bool.false_eq_true, if_false, Bool.false_and]
  refine wpAny_bind (wpAny_pure ?_)
  simp only [Bool.false_eq_true, if_false]
  refine wpAny_bind (m := tryMethod (.ref x) _ b) ?_
  unfold tryMethod
  refine wpAny_bind (special_fn X I hs (beq_iff_eq.mp hf) (wpAny_mono h (fun v s' hv => ?_) fun _ _ e => e))
  cases v <;> first | exact hv.elim | exact wpAny_pure (wpAny_pure ⟨_, rfl, hv⟩)
theorem binop_of {op : Operator} {a : Value} {Q : Value → Shared → Prop} (h : wpAny (model prog w) A (binaryOp1 op.info.2 a b) (fun r s' => ∃ v, r = some v ∧ Q v s') E s) : wpAny (model prog w) A (binaryOp op a b) Q E s := by
  unfold binaryOp
  refine wpAny_holding (wpAny_bind (wpAny_mono h (fun r s' z => ?_) fun _ _ z => z))
  obtain ⟨v, rfl, q⟩ := z
  exact wpAny_pure q
theorem inplace_of {op : Operator} {Q : Value → Shared → Prop} (I : InstAt s.heap x ox C od) (hno : Looks (model prog w) s.heap (fillsInplaceSlot (.ref C) op.info.2 (op == .Add)) false)
    (h : wpAny (model prog w) A (binaryOp1 op.info.2 (.ref x) b) (fun r s' => ∃ v, r = some v ∧ Q v s') E s) : wpAny (model prog w) A (inplaceOp op (.ref x) b) Q E s := by
  unfold inplaceOp
  refine wpAny_holding (wpAny_bind (I.type.here (wpAny_bind (hno.here ?_))))
  simp only [Bool.false_eq_true, if_false]
  refine wpAny_bind (wpAny_mono h (fun r s' z => ?_) fun _ _ z => z)
  obtain ⟨v, rfl, q⟩ := z
  exact wpAny_pure q
/-- a class with no other own class above it has no slot in place -/
theorem noInplace {M : Model} {h : Heap} {nm : String} {add : Bool} {cd : ClassData} (X : K.In h) (hc : clsIn K C = some cd) (hm : cd.mro = [.ref C, .type "object"]) (hi : findIn K (.ref C) (dunderI nm) = some none)
    (ho : typeLookup (.type "object") (dunderI nm) = pure none) : Looks M h (fillsInplaceSlot (.ref C) nm add) false := by
  intro A Q E s k q
  unfold fillsInplaceSlot
  dsimp only
  refine wpAny_bind ((looks_clsIn X hc).andThen (f := fun cd => pure cd.mro) .now A _ E s k ?_)
  rw [hm, List.anyM_cons]
  refine wpAny_bind (wpAny_bind (looks_findIn X hi A _ E s k ?_))
  dsimp only
  refine wpAny_pure ?_
  simp only [Bool.false_eq_true, if_false]
  rw [List.anyM_cons, ho]
  refine wpAny_bind (wpAny_bind (wpAny_pure ?_))
  dsimp only
  refine wpAny_pure ?_
  simp only [Bool.false_eq_true, if_false, List.anyM_nil]
  exact wpAny_pure q

/-! ### != by an own == -/
theorem ifBound_bi {M : Model} {id : String} {name : Str} {args : List Value} {Q : Option Value → Shared → Prop} (X : K.In s.heap) (I : InstAt s.heap x ox C od) (hs : findIn K (.ref C) name = some (some (.builtin id)))
    (hbd : bindSpecial (.builtin id) (.ref x) = pure (.builtin id, [.ref x])) (h : wpAny M A (call (.builtin id) (.ref x :: args)) (fun v => Q (some v)) E s) : wpAny M A (callSpecialIfBound? (.ref x) name args) Q E s := by
  simp only [callSpecialIfBound?, bindSpecialIfBound?]
  refine wpAny_holding (wpAny_bind (wpAny_bind (wpAny_bind (I.type.here ((looks_findIn X hs).here ?_)))))
  refine wpAny_bind (wpAny_askSetting (wpAny_ite ?_))
  have fin : wpAny M A (call (.builtin id) ([.ref x] ++ args) >>= fun v => pure (some v)) Q E s := wpAny_bind (wpAny_mono h (fun v s' h' => wpAny_pure h') fun _ _ h' => h')
  rw [hbd]
  split
  · exact wpAny_bind (wpAny_pure (wpAny_pure (by exact fin)))
  · exact wpAny_tryCatch (wpAny_bind (wpAny_pure (wpAny_pure (by exact fin))))
/-- x != b, __eq__ the text's own, __ne__ object's -/
theorem ne_own {tb : Value} {Q : Value → Shared → Prop} (hu : A.units + 1 < cLine) (X : K.In s.heap) (I : InstAt s.heap x ox C od) (hb : Looks (model prog w) s.heap (typeOf b) tb) (hn : notFirst K C tb = true)
    (hs : findIn K (.ref C) "__eq__" = some (some (.ref f))) (hf : isFn K (.ref f) = true) (hne : findIn K (.ref C) "__ne__" = some (some (.builtin "object.__ne__"))) (hm : mroIn K C (.type "object") = some true)
    (h : wpAny (model prog w) A.in1 (call (.ref f) [.ref x, b]) (fun v s' => ∃ k, v = .bool k ∧ Q (.bool (!k)) s') E s) : wpAny (model prog w) A (richCompare .NotEq (.ref x) b) Q E s := by
  have hu0 : A.units < cLine := Nat.lt_of_succ_lt hu
  have sub : Looks (model prog w) s.heap (isInstance (.ref x) (.type "object")) true := I.type.andThen (looks_mroIn X hm)
  have one : wpAny (model prog w) A (tryCompare (.ref x) "__ne__" b) (fun r s' => ∃ k, r = some (.bool k) ∧ Q (.bool k) s') E s := by
    unfold tryCompare
    refine wpAny_bind (ifBound_bi X I hne (F.cmp_object.ne.bind (.ref x)) (wpAny_call (codeAny_call_builtin F.cmp_object.ne.plain F.cmpEntry_ne (W.check_slot F.cmpKind_ne F.cmpSplit_ne sub (F.cmpArgs_ne _ _) ?_))))
    unfold Builtin.«object.__ne__»
    refine wpAny_bind (wpAny_of_eq (a := ((Value.ref x : Value), [b])) (by first | rfl | (simp only [slotArgs]; rfl)) ?_)
    dsimp only
    refine wpAny_bind (wpAny_cRoomFor (show A.in1.units < cLine from hu) ?_)
    refine wpAny_bind (ifBound_K X I hs hf (wpAny_mono h (fun v s' hv => ?_) fun _ _ e => e))
    obtain ⟨k, rfl, hq⟩ := hv
    dsimp only
    refine wpAny_bind (wpAny_truthy_bool ?_)
    exact wpAny_pure (wpAny_pure ⟨_, rfl, hq⟩)
  unfold richCompare
  simp only [oneThing_ref]
  refine wpAny_holding (wpAny_bind (wpAny_cRoomFor hu0 ?_))
  refine wpAny_bind (I.type.here (wpAny_bind (hb.here ?_)))
  split
  · rename_i q
    have e : subIn K tb (.ref C) = some false := by
      rcases Bool.or_eq_true_iff.mp hn with e | e
      · rw [beq_iff_eq.mp e] at q; simp at q
      · exact beq_iff_eq.mp e
    refine wpAny_bind ((looks_subIn X e).here ?_)
    simp only [Bool.false_eq_true, if_false]
    refine wpAny_bind (wpAny_mono one (fun r s' z => ?_) fun _ _ e => e)
    obtain ⟨v, rfl, hq⟩ := z
    exact wpAny_pure hq
  · refine wpAny_bind (wpAny_pure ?_)
    simp only [Bool.false_eq_true, if_false]
    refine wpAny_bind (wpAny_mono one (fun r s' z => ?_) fun _ _ e => e)
    obtain ⟨v, rfl, hq⟩ := z
    exact wpAny_pure hq
end
end OX

/-! Own operators as rules over the abstract heap. -/
namespace L2
open PySem PySem.Spec PyProof.Rows
section
variable {X : Cx} {CX : CXT} {k : Nat} {f C : Addr} {fd : FuncData} {ps : List Str} {sp : Sp} {E : XK}
theorem callA {A : Around} {pins : List (Addr × Obj)} {σ : St} {H : Hp} {s : Shared} {Q : VK} {us : List Value} {vs : List V} (F : FnOk X.prog X.w X.K X.mg X.base CX k f fd ps sp) (hr : Room k A) (hfr : A.frames = X.A.frames)
    (hb : Binds X.K fd ps []) (hx : Passes CX X E) (I : Inv X pins σ H s) (r : Vals vs us) (h : sp vs H Q E) : wpAny (model X.prog X.w) A (call (.ref f) us) (EP X pins σ Q) X.xe s := by
  have hl : us.length = ps.length := by rw [← r.length]; exact F.len _ _ _ _ h
  have e0 : Env0 X.prog X.w X.K X.mg X.base A X.stack s H := by
    have e := I.env0
    exact ⟨by rw [hfr]; exact e.frames, e.mod, e.bs, e.bsz, e.funs, e.frf, e.hok, e.bare⟩
  refine wpAny_call (codeAny_mono (F.run A X.stack s H ⟨us, []⟩ us vs Q E hr e0 (by have := hb s us I.kIn (by simpa using hl); simpa using this) r h) fun r s' hq => ?_)
  cases r with
  | error e => exact hx pins σ H s e s' I hq
  | ok fl =>
    cases fl with
    | ret u => exact I.after hq
    | next => exact False.elim hq
    | brk => exact False.elim hq
    | cont => exact False.elim hq
theorem relV_ni {v : V} {u : Value} (r : RelV v u) {P : Value → Shared → Prop} {s : Shared} (h : P u s) : PySem.W.CmpBack P u s := by
  cases v with
  | non => cases (show u = Value.none from r); exact h
  | bl b => cases (show u = Value.bool b from r); exact h
  | int i => obtain ⟨t, e⟩ := (show ∃ t, u = Value.int i t from r); subst e; exact h
  | str x => obtain ⟨t, e⟩ := (show ∃ t, u = Value.str x t from r); subst e; exact h
  | byt x => obtain ⟨t, e⟩ := (show ∃ t, u = Value.bytes x t from r); subst e; exact h
  | flt x => obtain ⟨t, e⟩ := (show ∃ t, u = Value.float x t from r); subst e; exact h
  | ref a => cases (show u = Value.ref a from r); exact h
  | ty n => cases (show u = Value.type n from r); exact h

/-- what the written part says of an own class -/
structure OwnC (K : PySem.W.Frag) (C : Addr) : Prop where
  cl : Cls K C
  ha : PySem.W.findIn K (.ref C) "__class__" = some (some (.builtin "object.__class__"))
  hn : PySem.W.specialIn K (.builtin "object.__class__") "__get__" = some (some (.builtin "getset_descriptor.__get__"))
  htk : PySem.W.takesIn K (.builtin "object.__class__") = some true
  hm : PySem.W.mroIn K C (.type "object") = some true
theorem OwnC.ty {K : PySem.W.Frag} (c : OwnC K C) {H : Hp} {a dx : Addr} {fs : List (Str × V)} (e : H a = some (.ins C dx fs)) : TyX K H (.ref a) (.ref C) := .base (.ins e c.cl c.ha c.hn c.htk c.hm)
/-- an operator of the text's own for a left operand of the class at C -/
structure OpM (K : PySem.W.Frag) (op : Operator) (C f : Addr) : Prop where
  self : PySem.W.selfFirst K C = true
  hs : PySem.W.findIn K (.ref C) (PySem.dunder op.info.2) = some (some (.ref f))
  hf : PySem.W.isFn K (.ref f) = true
  hr : PySem.W.findIn K (.ref C) (dunderR op.info.2) = some none
/-- the right operand's type -/
inductive OpT (K : PySem.W.Frag) (op : Operator) (C : Addr) : Value → Prop where
  | own : OpT K op C (.ref C)
  | ty {T : String} {r : Bool} {o : Option Value} (fill : fillsNumberSlot (.type T) op.info.2 = pure r) (sub : PySem.W.subIn K (.type T) (.ref C) = some false) (hT : typeLookup (.type T) (dunderR op.info.2) = pure o) : OpT K op C (.type T)
def rOwn (K : PySem.W.Frag) (op : Operator) (C : Addr) (sp : Sp) (E : XK) : R2 := fun x y H Q => ∃ a dx fs t, x = .ref a ∧ H a = some (.ins C dx fs) ∧ TyX K H y t ∧ OpT K op C t ∧ sp [.ref a, y] H Q E
theorem typeOf_of {pins : List (Addr × Obj)} {σ : St} {H : Hp} {s : Shared} {y : V} {u t : Value} (I : Inv X pins σ H s) (ry : RelV y u) (ty : TyX X.K H y t) : PySem.W.Looks (model X.prog X.w) s.heap (typeOf u) t := by
  obtain ⟨P, Z, p, _⟩ := kit_of I ry ty
  exact Z.ty _ _ I.kIn p
theorem op_own {op : Operator} (M : OpM X.K op C f) (F : FnOk X.prog X.w X.K X.mg X.base CX k f fd ps sp) (hr : Room k X.A) (hb : Binds X.K fd ps []) (hx : Passes CX X E) : OpR X (binaryOp op) (rOwn X.K op C sp E) := by
  intro pins s σ H x y v u Q I rx ry h
  obtain ⟨a, dx, fs, t, rfl, ha, ty, ot, hq⟩ := h
  cases rx
  obtain ⟨mA, J, _⟩ := ins_get I.hok ha
  obtain ⟨od, J, _⟩ := J.look
  have hbt := typeOf_of I ry ty
  have hc : wpAny (model X.prog X.w) X.A (call (.ref f) [.ref a, u]) (PySem.W.CmpBack (EP X pins σ Q)) X.xe s :=
    wpAny_mono (callA (vs := [.ref a, y]) F hr rfl hb hx I (.cons rfl (.cons ry .nil)) hq) (fun z s' hz => by
      obtain ⟨v', H', I', rv, q⟩ := id hz
      exact relV_ni rv hz) fun _ _ z => z
  refine OX.binop_of ?_
  cases ot with
  | own => exact OX.binop1_C I.kIn J hbt M.self M.hs M.hf hc
  | ty fill sub hT => exact OX.binop1_T I.kIn J hbt M.self M.hs M.hf M.hr fill sub hT hc
/-- no method of the class works in place -/
structure NoIp (K : PySem.W.Frag) (op : Operator) (C : Addr) : Prop where
  cd : ∃ cd, PySem.W.clsIn K C = some cd ∧ cd.mro = [.ref C, .type "object"]
  hi : PySem.W.findIn K (.ref C) (dunderI op.info.2) = some none
  ho : typeLookup (.type "object") (dunderI op.info.2) = pure none
theorem ip_own {op : Operator} (M : OpM X.K op C f) (N : NoIp X.K op C) (F : FnOk X.prog X.w X.K X.mg X.base CX k f fd ps sp) (hr : Room k X.A) (hb : Binds X.K fd ps []) (hx : Passes CX X E) : PIp X op (rOwn X.K op C sp E) := by
  intro pins s σ H x y v u Q I rx ry h
  obtain ⟨a, dx, fs, t, rfl, ha, ty, ot, hq⟩ := h
  cases rx
  obtain ⟨mA, J, _⟩ := ins_get I.hok ha
  obtain ⟨od, J, _⟩ := J.look
  have hbt := typeOf_of I ry ty
  have hc : wpAny (model X.prog X.w) X.A (call (.ref f) [.ref a, u]) (PySem.W.CmpBack (EP X pins σ Q)) X.xe s :=
    wpAny_mono (callA (vs := [.ref a, y]) F hr rfl hb hx I (.cons rfl (.cons ry .nil)) hq) (fun z s' hz => by
      obtain ⟨v', H', I', rv, q⟩ := id hz
      exact relV_ni rv hz) fun _ _ z => z
  obtain ⟨cd, hcd, hm⟩ := N.cd
  refine OX.inplace_of J (OX.noInplace I.kIn hcd hm N.hi N.ho) ?_
  cases ot with
  | own => exact OX.binop1_C I.kIn J hbt M.self M.hs M.hf hc
  | ty fill sub hT => exact OX.binop1_T I.kIn J hbt M.self M.hs M.hf M.hr fill sub hT hc

/-! ### == and != by an own == -/
structure EqM (K : PySem.W.Frag) (C f : Addr) : Prop where
  hs : PySem.W.findIn K (.ref C) "__eq__" = some (some (.ref f))
  hf : PySem.W.isFn K (.ref f) = true
  hne : PySem.W.findIn K (.ref C) "__ne__" = some (some (.builtin "object.__ne__"))
  hm : PySem.W.mroIn K C (.type "object") = some true
def rEqO (K : PySem.W.Frag) (C : Addr) (sp : Sp) (neg : Bool) : R2 := fun x y H Q => ∃ a dx fs t, x = .ref a ∧ H a = some (.ins C dx fs) ∧ TyX K H y t ∧ PySem.W.notFirst K C t = true ∧
  sp [.ref a, y] H (fun v H' => ∃ b, v = .bl b ∧ Q (.bl (if neg then !b else b)) H') (fun _ _ _ => False)
theorem op_eqO (M : EqM X.K C f) (F : FnOk X.prog X.w X.K X.mg X.base CX k f fd ps sp) (hr : Room (k + 1) X.A) (hb : Binds X.K fd ps []) (hx : Passes CX X (fun _ _ _ => False)) : OpR X (compareOp .Eq) (rEqO X.K C sp false) := by
  intro pins s σ H x y v u Q I rx ry h
  obtain ⟨a, dx, fs, t, rfl, ha, ty, nf, hq⟩ := h
  cases rx
  obtain ⟨mA, J, _⟩ := ins_get I.hok ha
  obtain ⟨od, J, _⟩ := J.look
  have hbt := typeOf_of I ry ty
  obtain ⟨m, hF⟩ := I.fr
  show wpAny (model X.prog X.w) X.A (richCompare .Eq (.ref a) u) (EP X pins σ Q) X.xe s
  refine PySem.W.cmp_K (op := .Eq) hr.units0 hF I.ok.mod.kin J hbt nf M.hs M.hf ?_
  refine wpAny_mono (callA (vs := [.ref a, y]) F (hr.mono (Nat.le_succ _)) rfl hb hx I (.cons rfl (.cons ry .nil)) hq) (fun z s' hz => ?_) fun _ _ z => z
  obtain ⟨v', H', I', rv, b, e, q⟩ := hz
  subst e
  cases (show z = Value.bool b from rv)
  exact ⟨.bl b, H', I', rfl, q⟩
theorem op_neO (M : EqM X.K C f) (F : FnOk X.prog X.w X.K X.mg X.base CX k f fd ps sp) (hr : Room (k + 1) X.A) (hb : Binds X.K fd ps []) (hx : Passes CX X (fun _ _ _ => False)) : OpR X (compareOp .NotEq) (rEqO X.K C sp true) := by
  intro pins s σ H x y v u Q I rx ry h
  obtain ⟨a, dx, fs, t, rfl, ha, ty, nf, hq⟩ := h
  cases rx
  obtain ⟨mA, J, _⟩ := ins_get I.hok ha
  obtain ⟨od, J, _⟩ := J.look
  have hbt := typeOf_of I ry ty
  show wpAny (model X.prog X.w) X.A (richCompare .NotEq (.ref a) u) (EP X pins σ Q) X.xe s
  have hu := hr.un
  refine OX.ne_own (by omega) I.kIn J hbt nf M.hs M.hf M.hne M.hm ?_
  refine wpAny_mono (callA (A := X.A.in1) (vs := [.ref a, y]) F hr.in1 rfl hb hx I (.cons rfl (.cons ry .nil)) hq) (fun z s' hz => ?_) fun _ _ z => z
  obtain ⟨v', H', I', rv, b, e, q⟩ := hz
  subst e
  cases (show z = Value.bool b from rv)
  exact ⟨b, rfl, .bl (!b), H', I', rfl, q⟩
end
end L2

/-! A caught error that is kept behind its suite. -/
namespace L2
open PySem PySem.Spec PyProof.Rows
/-- an error of the class cls that was caught, its own dict at d -/
def exh (e : Addr) (cls : Value) (d : Option Addr) : HO := .ext fun h => ∃ oe : Obj, h.get? e = some oe ∧ Zc cls d oe ∧ ∃ vs, oe.data = .fields vs
theorem exh_ok {P : Program} {w : World} {H : Hp} {h : Heap} {e : Addr} {cls : Value} {d : Option Addr} {oe : Obj} (he : h.get? e = some oe) (hz : Zc cls d oe) (hf : ∃ vs, oe.data = .fields vs) : ObjOk P w H h e (exh e cls d) :=
  ⟨⟨oe, he, hz, hf⟩, ⟨oe, he⟩, fun h1 h2 z k => by
    obtain ⟨o, q, r⟩ := z
    exact ⟨o, k _ q, r⟩⟩
theorem exh_at {P : Program} {w : World} {H : Hp} {h : Heap} {e : Addr} {cls : Value} {d : Option Addr} (ok : HOk P w H h) (q : H e = some (exh e cls d)) : ∃ oe : Obj, h.get? e = some oe ∧ Zc cls d oe ∧ ∃ vs, oe.data = .fields vs := by
  have z : ObjOk P w H h e (.ext fun h => ∃ oe : Obj, h.get? e = some oe ∧ Zc cls d oe ∧ ∃ vs, oe.data = .fields vs) := ok e _ q
  exact z.1
section
variable {X : Cx} {pins : List (Addr × Obj)} {σ : St} {H : Hp} {s : Shared}
/-- an object that no one knew is known from now on -/
theorem Inv.track {a : Addr} {oe : Obj} {vs : Array Value} {cls : Value} {d : Option Addr} (I : Inv X ((a, oe) :: pins) σ H s) (hd : oe.data = .fields vs) (hz : Zc cls d oe) (n0 : X.s_0.heap.get? a = none) (np : ∀ p ∈ X.pn ++ pins, p.1 ≠ a) :
    Inv X pins σ (upd H a (exh a cls d)) s := by
  obtain ⟨ea, na, nL, nF, _⟩ := I.pin (a, oe) (List.mem_append_right _ List.mem_cons_self)
  have old : ∀ {b o}, X.s_0.heap.get? b = some o → b ≠ a := fun {b o} e z => by rw [z, n0] at e; cases e
  have kn : ∀ {b u}, H b = some u → b ≠ a := fun {b u} e => ne_of_none e na
  refine ⟨I.ok, I.os, I.bare, ⟨I.base.keep, I.base.slot, fun b o e n hx => ?_, I.base.there, fun b xs e => ?_, fun b o u e => ?_, fun b ps e => ?_⟩, I.loc, I.cell, ?_, fun y c e => ?_, fun p hp => ?_, fun b u e => ?_, I.len⟩
  · rw [upd_ne (old e)]
    exact I.base.free b o e n hx
  · have q := I.base.tups b xs e
    rw [upd_ne (kn q)]
    exact q
  · have q := I.base.frzs b o u e
    rw [upd_ne (kn q)]
    exact q
  · obtain ⟨m, q⟩ := I.base.tbls b ps e
    exact ⟨m, by rw [upd_ne (kn q)]; exact q⟩
  · rw [upd_ne (Ne.symm nL)]
    exact I.free
  · obtain ⟨v, oc, hoc, hdc⟩ := I.cell y c e
    have hca : c ≠ a := fun z => by
      rw [z] at hoc
      have e2 : some oe = some oc := ea.symm.trans hoc
      rw [← Option.some.inj e2, hd] at hdc
      cases hdc
    rw [upd_ne hca]
    exact I.freeC y c e
  · obtain ⟨e, n, r⟩ := I.pin p (by
      rcases List.mem_append.mp hp with h | h
      · exact List.mem_append_left _ h
      · exact List.mem_append_right _ (List.mem_cons_of_mem _ h))
    exact ⟨e, by rw [upd_ne (np p hp)]; exact n, r⟩
  · by_cases hb : b = a
    · rw [hb, upd_same] at e
      cases e
      rw [hb]
      exact exh_ok ea hz ⟨vs, hd⟩
    · rw [upd_ne hb] at e
      exact (I.hok b u e).stay (fun c w' _ q => q) (fun c q => by rw [upd_ne (kn q)]; exact q) fun c xs q => by rw [upd_ne (kn q)]; exact q
theorem Inv.unsuiteK {a : Addr} {q : Addr × Obj} (I : Inv (X.suite a (q :: (X.pn ++ pins))) [] σ H s) (ok : X.Ok) : Inv X (q :: pins) σ H s :=
  ⟨ok, I.os, I.bare, I.base, I.loc, I.cell, I.free, I.freeC, fun p hp => I.pin p (List.mem_append_left _ (by
    rcases List.mem_append.mp hp with h | h
    · exact List.mem_cons_of_mem _ (List.mem_append_left _ h)
    · rcases List.mem_cons.mp h with h | h
      · rw [h]; exact List.mem_cons_self
      · exact List.mem_cons_of_mem _ (List.mem_append_right _ h))), I.hok, I.len⟩
end
/-- the wish of a body whose errors the clause takes, all of them, and keeps -/
def wKeep (K : PySem.W.Frag) (c : Value) (i : Nat) (ts : Addr → Value → Option Addr → TS) (D : Ends) : WX := fun cls d σ H => PySem.W.exmOne K cls c = some true ∧ ∀ a, H a = none →
  ts a cls d { nx := fun σ' H' => D.nx (σ'.set i none) (upd H' a (exh a cls d)), rt := fun v H' => D.rt v (upd H' a (exh a cls d)), bk := fun σ' H' => D.bk (σ'.set i none) (upd H' a (exh a cls d)), ct := fun σ' H' => D.ct (σ'.set i none) (upd H' a (exh a cls d)) } (σ.set i (some (.ref a))) H
section
variable {X : Cx} {x n : Str} {c : Value} {i : Nat} {body suite : List Stmt} {b₀ : Stmt} {np pos pos' : Pos} {tb : WX → TS} {ts : Addr → Value → Option Addr → TS}
theorem ps_try_keep (hex : X.ex = []) (hs : X.stack = X.env :: X.outer) (hf : X.env.frame = some X.env.locals) (hN : X.N.Nodup) (hi : X.N[i]? = some n) (hln : X.env.kindOf n = some .local) (hc : Names X x c)
    (hb : ∀ (W : WX) (pn : List (Addr × Obj)) (xe : Value → Shared → Prop), Takes (X.tr pn xe) W → PassesOwn (model X.prog X.w) X.A X.env xe → PSs (X.tr pn xe) body (tb W))
    (hsu : ∀ (a : Addr) (oe : Obj) (cls : Value) (d : Option Addr) (pn : List (Addr × Obj)), Zc cls d oe → (∃ vs, oe.data = .fields vs) → PSs (X.suite a ((a, oe) :: pn)) (b₀ :: suite) (ts a cls d)) :
    PS X (.Try body [.ExceptHandler (some (.Name x np)) (some n) (b₀ :: suite) pos'] [] [] pos) (fun D σ H => tb (wKeep X.K c i ts D) D σ H) := by
  refine ⟨fun pins s σ H D I h => ?_⟩
  have ok := I.ok
  have frm : X.A.frames = some (X.env :: X.outer) := by rw [ok.frames, hs]
  refine wpAny_Try_except ?_
  refine wpAny_mono ((hb (wKeep X.K c i ts D) (X.pn ++ pins) (fun e s₁ => wpAny (model X.prog X.w) X.A (noteFrame e X.env) (fun _ s₂ => wpAny (model X.prog X.w) X.A (setFlight e none)
    (fun _ s₃ => wpAny (model X.prog X.w) X.A (handleBy e X.env [.ExceptHandler (some (.Name x np)) (some n) (b₀ :: suite) pos']) (SP X pins D) X.xe s₃) X.xe s₂) X.xe s₁) (fun u s' xx => ?_) PassesOwn.looking).run [] s σ H D (I.toTry _) h) (fun f s1 hsp => ?_) (fun _ _ z => z)
  · obtain ⟨a, B, sI, pins', σ', H', cls, d, rfl, J', nb, up, sky, na, os, ag, hyes1, hyes⟩ := xx
    have J : Inv X pins σ' H' sI := J'.ofTry ok
    show wpAny (model X.prog X.w) X.A (noteFrame (.ref a) X.env) _ _ _
    refine Sky.land Zc.steady frm hf (show Sky B (X.env :: X.outer) a (Zc cls d) X.env.locals s'.heap by rw [← hs]; exact sky) fun h3 fl3 up3 => ?_
    have J3 : Inv X pins σ' H' { s' with heap := h3 } := J.landed nb fl3.1 (up.trans up3) os ag
    obtain ⟨oe3, vs3, he3, hz3, hd3⟩ := fl3.there
    have nfr : a ∉ frs (X.env :: X.outer) := fun hm => by
      obtain ⟨_, o', e', hnf⟩ := fl3.2.2.1.mem hm
      rw [he3] at e'
      cases e'
      exact hnf _ hd3
    have nL : a ≠ X.env.locals := fun z => nfr (List.mem_filterMap.mpr ⟨X.env, List.mem_cons_self, by rw [hf, z]⟩)
    have nF : a ∉ X.fs := fun hm => by
      obtain ⟨e, he, q⟩ := List.mem_filterMap.mp hm
      exact nfr (List.mem_filterMap.mpr ⟨e, List.mem_cons_of_mem _ he, q⟩)
    have inB : ∀ {b : Addr} {o : Obj}, sI.heap.get? b = some o → b ∉ frs X.stack → b ≠ a := fun {b o} e hb z => by
      have q := nb b o e hb
      rw [z, fl3.2.1] at q
      cases q
    have n0 : X.s_0.heap.get? a = none := by
      cases e : X.s_0.heap.get? a with
      | none => rfl
      | some o =>
        obtain ⟨o', e'⟩ := J.base.there a o e (by rw [hex]; exact fun z => nomatch z)
        exact absurd rfl (inB e' (by rw [hs]; exact nfr))
    have npin : ∀ p ∈ X.pn ++ pins, p.1 ≠ a := fun p hp => by
      obtain ⟨e, _, n1, n2, _⟩ := J.pin p hp
      exact inB e fun hm => (List.mem_cons.mp (J.stkSub _ hm)).elim n1 n2
    refine wpAny_handleBy_cons (codeAny_handlers_test ?_) (by intro q; cases q)
    have LT : PySem.W.Looks (model X.prog X.w) h3 (typeOf (.ref a)) cls := fun A Q E s k q => wpAny_typeOf_ref (k _ _ he3) (by rw [hz3.1]; exact q)
    have S3 := J3.suite he3 hd3 na nL nF
    have test : ∀ {Q : Value → Shared → Prop} {E : Value → Shared → Prop}, Q c { s' with heap := h3 } → wpAny (model X.prog X.w) (X.A.mark (some (.ref a))) (eval (.Name x np) X.env) Q E { s' with heap := h3 } := fun {Q E} q => by
      obtain ⟨g1, g2, g3 | ⟨g3, g4, g5⟩⟩ := hc
      · exact ld_glob (X := X.suite a ((a, oe3) :: (X.pn ++ pins))) S3 g1 g3 q g2
      · exact ld_blt (X := X.suite a ((a, oe3) :: (X.pn ++ pins))) S3 g1 g3 g4 q g5 g2
    refine test ((PySem.W.exm_one (M := model X.prog X.w) (J3.kIn) LT hyes1).here ?_)
    refine codeAny_handlers_suite_as ?_
    refine HandSPX.lands_againZ fl3 fun h4 fl4 up4 => ?_
    have J4 : Inv X pins σ' H' { s' with heap := h4 } := J.landed nb fl4.1 ((up.trans up3).trans up4) os ag
    obtain ⟨oe4, vs4, he4, hz4, hd4⟩ := fl4.there
    refine store_ok (X := X.suite a ((a, oe4) :: (X.pn ++ pins))) (v := .ref a) (J4.suite he4 hd4 na nL nF) hN hi (.inl hln) rfl (fun s5 S5 => ?_) (.inr hln)
    refine wpAny_mono ((hsu a oe4 cls d (X.pn ++ pins) hz4 ⟨_, hd4⟩).run [] s5 _ H' _ S5 (hyes a na)) (fun f s6 hsp => ?_) (fun _ _ z => False.elim z)
    have fin : ∀ {σ6 : St} {H6 : Hp} {Q : Shared → Prop}, Inv (X.suite a ((a, oe4) :: (X.pn ++ pins))) [] σ6 H6 s6 → (∀ s7, Inv X pins (σ6.set i none) (upd H6 a (exh a cls d)) s7 → Q s7) →
        wpAny (model X.prog X.w) X.A (do bindName X.env n .none; unbindBehindTheSuite X.env n pos') (fun _ s7 => Q s7) X.xe s6 := fun {σ6 H6 Q} S6 hq => gone_ok (S6.unsuiteK ok) hN hi hln fun s7 J7 => hq s7 (J7.track hd4 hz4 n0 npin)
    cases f with
    | ret u =>
      obtain ⟨v6, σ6, H6, S6, r6, q6⟩ := hsp
      exact fin S6 fun s7 J7 => ⟨_, _, _, J7, r6, q6⟩
    | next =>
      obtain ⟨σ6, H6, S6, q6⟩ := hsp
      exact fin S6 fun s7 J7 => ⟨_, _, J7, q6⟩
    | cont =>
      obtain ⟨σ6, H6, S6, q6⟩ := hsp
      exact fin S6 fun s7 J7 => ⟨_, _, J7, q6⟩
    | brk =>
      obtain ⟨σ6, H6, S6, q6⟩ := hsp
      exact fin S6 fun s7 J7 => ⟨_, _, J7, q6⟩
  · cases f with
    | ret u =>
      obtain ⟨v, σ', H', J', r, q⟩ := hsp
      exact ⟨v, σ', H', J'.ofTry ok, r, q⟩
    | next =>
      obtain ⟨σ', H', J', q⟩ := hsp
      exact wpAny_execs_nil ⟨σ', H', J'.ofTry ok, q⟩
    | cont =>
      obtain ⟨σ', H', J', q⟩ := hsp
      exact ⟨σ', H', J'.ofTry ok, q⟩
    | brk =>
      obtain ⟨σ', H', J', q⟩ := hsp
      exact ⟨σ', H', J'.ofTry ok, q⟩
end
end L2
/-! ### isinstance and fields of such an error -/
namespace PySem.W
open PySem PySem.Calls PyProof.Rows Builtin Builtin.ObjectAttr
section
variable {prog : Program} {w : World} {A : Around} {E : Value → Shared → Prop} {s : Shared} {K : Frag} {x D : Addr} {ox : Obj} {od : Option Obj}
theorem kxc_class {Q : Option Value → Shared → Prop} (C : L2.ExcC K D) (hf : findObj K D od "__class__" = some (.bind (.builtin "getset_descriptor.__get__") (.builtin "object.__class__")))
    (X : K.In s.heap) (I : InstAt s.heap x ox D od) (h : Q (some (.ref D)) { s with toks := s.toks + 1 }) : wpAny (model prog w) A (getAttr? (.ref x) "__class__") Q E s := by
  obtain ⟨hp, g, dr, t, os⟩ := s
  have LT := I.type (M := model prog w)
  have LA := looks_findIn (M := model prog w) X C.hg
  have LB := looks_findIn (M := model prog w) X C.hk
  have LF := looks_find (M := model prog w) X I hf
  have isB : Looks (model prog w) hp (isInstance (.ref x) (.type "BaseException")) true := LT.andThen (looks_subIn X C.hs)
  have q0 : (false && onTheHeap (Value.builtin "BaseException.__getattribute__")) = false := rfl
  have q2 : (Value.builtin "BaseException.__getattribute__" == Value.builtin "object.__getattribute__") = false := by decide +kernel
  have q1 : (onTheHeap (Value.ref D) && Value.builtin "BaseException.__getattribute__" == Value.builtin "object.__getattribute__") = false := by rw [q2]; rfl
  unfold getAttr? getAttrBy? getAttrBy
  refine wpAny_bind (wpAny_mkText (wpAny_bind (wpAny_attempt (wpAny_holding (wpAny_bind (LT.at (wpAny_bind (LA.at ?_))))))))
  show wpAny _ _ (if (onTheHeap (Value.ref D) && Value.builtin "BaseException.__getattribute__" == Value.builtin "object.__getattribute__") = true then _ else _) _ _ _
  rw [q1, if_neg Bool.false_ne_true]
  unfold getAttrByItsOwn hookBefore
  refine wpAny_bind ?_
  rw [if_pos (show onTheHeap (Value.ref D) = true from rfl)]
  refine LB.at (wpAny_bind (wpAny_attempt (wpAny_holding ?_)))
  unfold callGetattribute
  rw [q0, if_neg Bool.false_ne_true]
  unfold boundAndCalled
  rw [PySem.F.excAttr_ValueError.ga.bind (.ref x)]
  refine wpAny_bind (wpAny_pure ?_)
  show wpAny _ _ (call (.builtin "BaseException.__getattribute__") [.ref x, .str "__class__" t]) _ _ _
  refine wpAny_call (codeAny_call_builtin PySem.F.excAttr_ValueError.ga.plain PySem.F.entry_bexc_ga ?_)
  refine @check_slot (model prog w) _ _ ⟨hp, g, dr, t + 1, os⟩ "BaseException.__getattribute__" "BaseException" "__getattribute__" (.ref x) [.str "__class__" t] [] _ (by decide +kernel) (by decide +kernel) isB (PySem.F.args_bexc_ga (.ref x) (.str "__class__" t)) ?_
  unfold Builtin.«object.__getattribute__»
  refine wpAny_bind (wpAny_of_eq (a := ((Value.ref x : Value), [Value.str "__class__" t])) (by first | rfl | (simp only [slotArgs]; rfl)) (wpAny_bind (wpAny_pure (wpAny_bind (LT.at (wpAny_bind (LF.at ?_)))))))
  show wpAny _ _ (holding [Value.builtin "object.__class__"] (call (.builtin "getset_descriptor.__get__") [.builtin "object.__class__", .ref x, .ref D]) >>= ret) _ _ _
  refine wpAny_bind (wpAny_holding (wpAny_call (class_get (s := ⟨hp, g, dr, t + 1, os⟩) (ox := ox) (od := od) X I C.hm (wpAny_pure ?_))))
  show wpAny _ _ (handedOut (.ref D)) _ _ _
  rw [handedOut_of (v := .ref D) rfl]
  first
    | exact wpAny_pure (wpAny_pure h)
    | exact wpAny_pure h
    | exact wpAny_pure (wpAny_bind (wpAny_pure (wpAny_pure h)))
theorem kxc_kit (C : L2.ExcC K D) (hf : findObj K D od "__class__" = some (.bind (.builtin "getset_descriptor.__get__") (.builtin "object.__class__"))) : KitX K (.ref x) (.ref D) (fun h => InstAt h x ox D od) where
  ty := fun _ _ _ I => I.type
  it := fun _ _ X _ => by
    obtain ⟨cd0, hc0, _⟩ := any_some C.hd
    unfold clsIn at hc0
    split at hc0
    · rename_i _ _ _ _ ho
      intro A' Q' E' s' k q
      unfold isType loadHead
      exact wpAny_bind (wpAny_loadPart (k _ _ (X _ _ ho)) (wpAny_pure q))
    · cases hc0
  ne := fun h tp dd its n sl X htp => by
    obtain ⟨cd0, hc0, _⟩ := any_some C.hd
    refine Bool.eq_false_iff.mpr fun q => ?_
    have e : D = tp := Value.ref.inj (beq_iff_eq.mp q)
    subst e
    unfold clsIn at hc0
    split at hc0
    · rename_i _ _ _ _ ho
      have z := (X _ _ ho).symm.trans htp
      cases z
    · cases hc0
  ca := fun X I k => kxc_class C hf X I k
end
end PySem.W
namespace L2
open PySem PySem.Spec PyProof.Rows
section
variable {X : Cx} {pins : List (Addr × Obj)} {σ : St} {H : Hp} {s : Shared}
theorem exh_inst {K : PySem.W.Frag} {a D : Addr} {d : Option Addr} {fs : List (Str × V)} (I : Inv X pins σ H s) (ea : H a = some (exh a (.ref D) d)) (ed : ∀ dd, d = some dd → H dd = some (.xd fs)) :
    ∃ (oe : Obj) (od : Option Obj), PySem.W.InstAt s.heap a oe D od ∧ (d.isSome = od.isSome) ∧ ∀ name, d.isSome = true → ∃ m : Str → Option Value, PySem.W.lookIn name (od.getD oe) = some (m name) ∧ ∀ f, RelO (fs.lookup f) (m f) := by
  obtain ⟨oe, hoe, ⟨z1, z2⟩, vs, hd⟩ := exh_at I.hok ea
  have nc : PySem.W.notCls oe = true := by unfold PySem.W.notCls; rw [hd] <;> rfl
  cases d with
  | none => exact ⟨oe, none, ⟨hoe, z1, nc, by rw [z2]; exact True.intro⟩, rfl, fun _ z => nomatch z⟩
  | some dd =>
    have hx : ObjOk X.prog X.w H s.heap dd (.xd fs) := I.hok dd _ (ed dd rfl)
    obtain ⟨mA, hns, hr⟩ := hx
    obtain ⟨od, ho, hl⟩ := lookIn_ns hns
    exact ⟨oe, some od, ⟨hoe, z1, nc, by rw [z2]; exact ho⟩, rfl, fun name _ => ⟨mA, hl name, hr⟩⟩
end
/-- isinstance(e, c), e an error that was caught and kept -/
def rIsK (K : PySem.W.Frag) : List V → Hp → VK → Prop := fun xs H Q => ∃ (a D dd : Addr) (fs : List (Str × V)) (c : V) (cv : Value) (b : Bool), xs = [.ref a, c] ∧ ClsV c cv ∧ H a = some (exh a (.ref D) (some dd)) ∧ H dd = some (.xd fs) ∧ ExcC K D ∧ PySem.W.kitOne K (.ref D) cv = some b ∧ Q (.bl b) H
theorem call_isK {X : Cx} : CallR X (.builtin "isinstance") (rIsK X.K) := by
  intro pins s σ H xs us Q I r h
  obtain ⟨a, D, dd, fs, c, cv, b, rfl, hcv, ea, ed, C, e, q⟩ := h
  obtain ⟨u1, u2, rfl, r1, r2⟩ := vals2 r
  cases (show u1 = Value.ref a from r1)
  have ec := hcv.eq r2
  subst ec
  obtain ⟨oe, od, J, hd, _⟩ := exh_inst (K := X.K) I ea (fun d' e' => by cases e'; exact ed)
  cases od with
  | none => cases hd
  | some od =>
    have hf := PySem.W.findObj_data (K := X.K) (C := D) (od := od) (name := "__class__") (by obtain ⟨cd, hc, _⟩ := PySem.W.any_some C.hd; rw [hc]; rfl) C.ha C.hn C.ht
    exact PySem.W.kia_one (PySem.W.kxc_kit C hf) I.kIn J e (fun z => nomatch z) fun tk => ⟨.bl b, H, I.tok tk, rfl, q⟩
/-- e.f, e such an error -/
def tXk (K : PySem.W.Frag) (te : TE) (f : Str) : TE := fun σ H Q => te σ H fun x H1 => ∃ (a C dd : Addr) (fs : List (Str × V)) (v : V), x = .ref a ∧ H1 a = some (exh a (.ref C) (some dd)) ∧ H1 dd = some (.xd fs) ∧ XfC K C ∧ PySem.W.findIn K (.ref C) f = some none ∧ fs.lookup f = some v ∧ Q v H1
theorem pe_xk {X : Cx} {e : Expr} {te : TE} {pos : Pos} {n : Str} (he : PE X e te) (hb : attributeBase e n X.env (eval e X.env) = eval e X.env := by rfl) : PE X (.Attribute e n pos) (tXk X.K te n) := by
  refine ⟨fun pins s σ H Q I h => attr_of hb (thn (he.run pins s σ H _ I h) fun u s1 hh => ?_)⟩
  obtain ⟨x, H1, I1, rx, a, C, dd, fs, v, ex, ea, ed, T, hno, l, q⟩ := hh
  subst ex
  obtain rfl : u = Value.ref a := rx
  obtain ⟨oe, od, J, hd, hl⟩ := exh_inst (K := X.K) I1 ea (fun d' e' => by cases e'; exact ed)
  cases od with
  | none => cases hd
  | some od =>
    obtain ⟨m, h1, h2⟩ := hl n rfl
    obtain ⟨u, hu, ru⟩ := RelO.some_of (v := v) (o := m n) (by rw [← l]; exact h2 n)
    exact HandSPX.exc_get I1.kIn J T.ga T.gg T.exC (PySem.W.findObj_own T.hdC hno rfl (by rw [← hu]; exact h1)) (handed_of ru) ⟨v, H1, I1.tok _, ru, q⟩
end L2

/-! repr of data: it asks which reprs are under way; a def's promise where none is. -/
namespace L2
open PySem PySem.Spec PyProof.Rows
/-- a promise that holds where no repr is under way -/
structure FnG (P : Program) (w : World) (K : PySem.W.Frag) (mg : Str → Option Value) (base : Heap) (CX : CXT) (k : Nat) (f : Addr) (fd : FuncData) (ps : List Str) (sp : Sp) : Prop where
  len : ∀ vs H Q E, sp vs H Q E → vs.length = ps.length
  run : ∀ (A : Around) (outer : List Env) (s : Shared) (H : Hp) (args : Args) (us : List Value) (vs : List V) (Q : VK) (E : XK), Room k A → A.guards = some [] → Env0 P w K mg base A outer s H → BindsTo s fd args (ps.zip us) → Vals vs us → sp vs H Q E →
    codeAny (model P w) A (.call (.ref f) args) (CR CX outer P w H s Q E) s
theorem FnOk.g {P : Program} {w : World} {K : PySem.W.Frag} {mg : Str → Option Value} {base : Heap} {CX : CXT} {k : Nat} {f : Addr} {fd : FuncData} {ps : List Str} {sp : Sp} (F : FnOk P w K mg base CX k f fd ps sp) : FnG P w K mg base CX k f fd ps sp :=
  ⟨F.len, fun A outer s H args us vs Q E hr _ => F.run A outer s H args us vs Q E hr⟩
section
variable {P : Program} {w : World} {K : PySem.W.Frag} {mg : Str → Option Value} {base : Heap}
theorem Fun.okG {x qual : Str} {st : Stmt} {f : Addr} {fd : FuncData} {N ps : List Str} {k : Nat} {sp : Sp} (F : Fun K x qual st f fd) (S : FnScope N ps (defScope st)) (len : ∀ vs H Q E, sp vs H Q E → vs.length = ps.length)
    (hbody : ∀ (cdv : Value) (A : Around) (outer : List Env) (s : Shared) (H : Hp) (vs : List V) (Q : VK) (E : XK), Room k (A.deeper (envOfC qual (defScope st) s.heap.objs.size f cdv)) → A.guards = some [] → sp vs H Q E →
      ∃ t, PSs (cxOf CX0 P w K mg base N qual (defScope st) f cdv A outer s H E).nox (defBody st) t ∧ t { nx := fun _ H' => Q .non H', rt := Q } (start N vs) H) : FnG P w K mg base CX0 (k + 1) f fd ps sp := by
  obtain ⟨oc, od, kV, doc, pm, an, cdv, ct, osl, rfl, lk, hcd⟩ := F.ex
  refine ⟨len, fun A outer s H args us vs Q E hr hg e0 hb r hsp => LamX.run_ofS lk hcd S hr e0 hb r (len _ _ _ _ hsp) fun hr' => ?_⟩
  obtain ⟨t, h, q⟩ := hbody cdv A outer s H vs Q E hr' hg hsp
  exact ⟨t, h.nox, q⟩
end
section
variable {X : Cx} {CX : CXT} {k : Nat} {f : Addr} {fd : FuncData} {ps : List Str} {sp : Sp} {E : XK} {x : Str} {ds : List Value} {dvs : List V} {e : Expr} {es : List Expr} {t : TA} {p pos : Pos}
theorem run_fnG {pins : List (Addr × Obj)} {σ : St} {H : Hp} {s : Shared} {Q : VK} {us : List Value} {vs : List V} (hG : X.A.guards = some []) (F : FnG X.prog X.w X.K X.mg X.base CX k f fd ps sp) (hr : Room k X.A) (hb : Binds X.K fd ps ds) (hd : Vals dvs ds)
    (hx : Passes CX X E) (I : Inv X pins σ H s) (r : Vals vs us) (h : sp (vs ++ dvs) H Q E) : wpAny (model X.prog X.w) X.A (call (.ref f) us) (EP X pins σ Q) X.xe s := by
  have rr : Vals (vs ++ dvs) (us ++ ds) := r.append hd
  have hlen : (us ++ ds).length = ps.length := by rw [← rr.length]; exact F.len _ _ _ _ h
  refine wpAny_call (codeAny_mono (F.run X.A X.stack s H ⟨us, []⟩ (us ++ ds) (vs ++ dvs) Q E hr hG I.env0 (hb s us I.kIn hlen) rr h) fun r s' hq => ?_)
  cases r with
  | error e => exact hx pins σ H s e s' I hq
  | ok fl =>
    cases fl with
    | ret u => exact I.after hq
    | next => exact False.elim hq
    | brk => exact False.elim hq
    | cont => exact False.elim hq
theorem pe_callG (hG : X.A.guards = some []) (F : FnG X.prog X.w X.K X.mg X.base CX k f fd ps sp) (hr : Room k X.A) (hg : Gl X x) (hm : X.mg x = some (.ref f)) (hk : PySem.W.keepIn X.K (.ref f) = true) (hb : Binds X.K fd ps ds) (hd : Vals dvs ds) (hx : Passes CX X E)
    (ha : PA X (e :: es) t) (hdb : (x == ("__debug__" : Str)) = false := by decide) (he : starEach (e :: es) X.env = (false, eval e X.env) :: starEach es X.env := by rfl) (hpl : (backTo pos (starEach es X.env)).any (·.1) = false := by rfl) :
    PE X (.Call (.Name x p) (e :: es) [] pos) (tCall sp dvs E t) := by
  refine ⟨fun pins s σ H Q I h => wpAny_Call_Name_kw (ld_glob I hg hm ?_ hdb)⟩
  refine PySem.W.callWith_K (h₀ := X.base) I.ok.mod.kin hk (thn (ha.run pos pins s σ H _ I h) fun us s1 ⟨vs, H1, I1, r, q⟩ => ⟨I1.kIn, run_fnG hG F hr hb hd hx I1 r q⟩) he hpl
/-- repr of a list or tuple of data -/
def rRepr (K : PySem.W.Frag) : List V → Hp → VK → Prop := fun xs H Q => ∃ (a : Addr) (d : PyData), xs = [.ref a] ∧ Dp K H (.ref a) d ∧ d.showable = true ∧ d.hasDict = false ∧ d.depth ≤ 64 ∧ d.shown.length ≤ sizeLine ∧ Q (.str d.shown) H
theorem c_repr (hG : X.A.guards = some []) (hu : X.A.units + 128 < cLine) : CallR X (.builtin "repr") (rRepr X.K) := by
  intro pins s σ H xs us Q I r h
  obtain ⟨a, d, rfl, hd, h1, h2, h3, h4, q⟩ := h
  obtain ⟨u, rfl, rx⟩ := vals1 r
  cases (show u = Value.ref a from rx)
  obtain ⟨as, hr⟩ := Dp.reads I d _ _ hd rx
  refine repr_of_reads' hr h1 (fun z => by rw [h2] at z; cases z) hG (by omega) (fun _ _ z => z) (fun h' u tk hk => ?_) h4
  exact ⟨.str d.shown, H, I.kept hk, ⟨u, rfl⟩, q⟩
end
end L2

namespace LamX
open PySem PySem.Spec PyProof.Rows L2
theorem law_callG {P : Program} {w : World} {K : PySem.W.Frag} {mg mBlt : Str → Option Value} {CX : CXT} {k : Nat} {fLaw a : Addr} {tabs : List (Addr × Addr)} {fdLaw : FuncData} {x : Str} {spc : Sp} {s₁ : Shared} {items : List Value} {nums : List Int}
    (KH : K.In s₁.heap) (nsG : s₁.heap.Ns mainGlobals mg) (hB2 : s₁.heap.Ns builtinsNs mBlt) (bltB : ∀ x : Str, x ≠ "__name__" → mBlt x = bootBuiltins x) (limG : s₁.heap.NoLimit) (gnE : s₁.gens = #[])
    (tabE : ∀ p ∈ tabs, s₁.heap.get? p.2 = some { cls := .none, data := .fields #[] }) (tabK : ∀ p ∈ tabs, K.lookup p.2 = none) (cdE : ∀ p ∈ tabs, PySem.W.CodeHd s₁.heap p.1 p.2)
    (bmE : ∃ (bmA : Addr) (obj : Obj), mg "__builtins__" = some (.ref bmA) ∧ bmA ≠ builtinsNs ∧ s₁.heap.get? bmA = some obj ∧ obj.cls = .type "module" ∧ obj.dict = some builtinsNs ∧ obj.data = .plain)
    (scE : s₁.heap.get? a = some { cls := .type "list", data := .seq items.toArray }) (inE : IntsAre items nums) (lnE : nums.length ≤ sizeLine) (rmE : Room k callerA)
    (FF : ∀ base : Heap, K.In base → base.Ns mainGlobals mg → (∀ p ∈ tabs, TabB base mg p.1 p.2) → L2.FnG P w K mg base CX k fLaw fdLaw [x] spc) (bdE : ∀ (s : Shared) (u : Value), BindsTo s fdLaw ⟨[u], []⟩ [(x, u)])
    (spE : ∀ H : Hp, (∀ p ∈ tabs, H p.2 = some (.tbl #[])) → SqL K H a (nums.map V.int) → spc [.ref a] H (fun v _ => v = .bl true) fun _ _ _ => False)
    (cxE : ∀ H e s', CX [] H s₁ (fun _ _ _ => False) e s' → False) :
    codeAny (model P w) callerA (.call (.ref fLaw) ⟨[.ref a], []⟩) (fun r s' => r = .ok (.ret (.bool true)) ∧ OldK s₁.heap s'.heap ∧ s'.os = s₁.os ∧ AllBare s'.gens) s₁ := by
  have rvs := vals_ints inE
  have lenW := inE.length
  have isTb : ∀ b : Addr, b ∈ tabs.map (·.2) → s₁.heap.get? b = some { cls := .none, data := .fields #[] } := fun b hB2 => by
    obtain ⟨p, memP, e⟩ := List.mem_map.mp hB2
    rw [← e]
    exact tabE p memP
  have notTb : a ∉ tabs.map (·.2) := fun zq => by
    have qq := isTb a zq
    rw [scE] at qq
    have z' : Data.seq items.toArray _ = Data.fields #[] := congrArg Obj.data (Option.some.inj qq)
    cases z'
  have inTb : ∀ p ∈ tabs, p.2 ∈ tabs.map (·.2) := fun p memP => List.mem_map.mpr ⟨p, memP, rfl⟩
  -- from an abstract heap in which nothing but the script and the tables may be tracked
  have main0 : ∀ H : Hp, (∀ p ∈ tabs, H p.2 = some (.tbl #[])) → (∀ b, H b = none ∨ b ∈ tabs.map (·.2) ∨ ∃ o xs, H b = some (.frz o (.lst xs))) → SqL K H a (nums.map V.int) → HOk P w H s₁.heap → (∀ b, H b ≠ none → b = a ∨ b ∈ tabs.map (·.2)) → (H a ≠ none → K.lookup a = none) →
      codeAny (model P w) callerA (.call (.ref fLaw) ⟨[.ref a], []⟩) (fun r s' => r = .ok (.ret (.bool true)) ∧ OldK s₁.heap s'.heap ∧ s'.os = s₁.os ∧ AllBare s'.gens) s₁ := by
    intro H Htab Hone Hscr Hok0 Hall HKn
    have toBase : ∀ {b : Addr} {o : Obj}, s₁.heap.get? b = some o → H b = none → (hidT s₁.heap H).get? b = some o := fun e n => hidT_get e n
    have notD : ∀ {b : Addr} {o : Obj}, s₁.heap.get? b = some o → (∀ items n, o.data ≠ .seq items n) → o.data ≠ .fields #[] → H b = none := fun {b o} e h11 hh => by
      cases qq : H b with
      | none => rfl
      | some u =>
        rcases Hall b (by rw [qq]; simp) with e' | e'
        · rw [e', scE] at e
          cases e
          exact (h11 _ _ rfl).elim
        · rw [isTb b e'] at e
          cases e
          exact (hh rfl).elim
    have notA : ∀ {b : Addr} {o : Obj} {es : Array DictEntry} {epp : Nat}, s₁.heap.get? b = some o → o.data = .dict es epp → H b = none := fun {b o es epp} e d => by
      refine notD e (fun items n zq => ?_) fun zq => ?_
      · rw [d] at zq
        cases zq
      · rw [d] at zq
        cases zq
    have nsB0 : ∀ {b : Addr} {m : Str → Option Value}, s₁.heap.Ns b m → (hidT s₁.heap H).Ns b m := fun {b m} ⟨o, es, epp, e, d, r⟩ => ⟨o, es, epp, toBase e (notA e d), d, r⟩
    have KBase : K.In (hidT s₁.heap H) := fun b o e => toBase (KH b o e) (by
      cases qq : H b with
      | none => rfl
      | some u =>
        rcases Hall b (by rw [qq]; simp) with e' | e'
        · rw [e'] at e qq
          rw [HKn (by rw [qq]; simp)] at e
          cases e
        · obtain ⟨p, memP, epp⟩ := List.mem_map.mp e'
          rw [← epp, tabK p memP] at e
          cases e)
    have modB : L2.Mod K mg (hidT s₁.heap H) := ⟨KBase, nsB0 nsG, ⟨mBlt, nsB0 hB2, bltB⟩, let ⟨mc, h11, hh⟩ := limG; ⟨mc, nsB0 h11, hh⟩⟩
    have tabB0 : ∀ p ∈ tabs, TabB (hidT s₁.heap H) mg p.1 p.2 := fun p memP => by
      have hTp := tabE p memP
      refine ⟨?_, ?_, fun zq => ?_⟩
      · obtain ⟨o, uus, file, tf, flags, tg, inF, text, tt, e1, r1, r2, r3, r4, r5, r6, r7, r8, hne⟩ := cdE p memP
        refine ⟨o, uus, file, tf, flags, tg, inF, text, tt, toBase e1 (notD e1 (fun items n zq => ?_) fun zq => ?_), r1, r2, r3, r4, r5, r6, r7, r8, hne⟩
        · rw [r2] at zq
          cases zq
        · rw [r2] at zq
          cases zq
          simp at r3
      · obtain ⟨bmA, obj, b1, b2, b3, b4, b5, b6⟩ := bmE
        have nG : bmA ≠ mainGlobals := fun qq => by
          obtain ⟨o, es, epp, e, hd, _⟩ := nsG
          rw [qq, e] at b3
          cases b3
          rw [hd] at b6
          cases b6
        have nP : bmA ≠ p.2 := fun qq => by
          rw [qq, hTp] at b3
          cases b3
          cases b6
        refine ⟨bmA, obj, b1, b2, nG, nP, toBase b3 (notD b3 (fun items n zq => ?_) fun zq => ?_), b4, b5, b6⟩
        · rw [b6] at zq
          cases zq
        · rw [b6] at zq
          cases zq
      · obtain ⟨o, es, epp, e, hd, _⟩ := nsG
        rw [zq, hTp] at e
        cases e
        cases hd
    have env0 : Env0 P w K mg (hidT s₁.heap H) callerA [] s₁ H := ⟨rfl, modB, fun b o e => of_hidT e, Nat.le_of_eq (hidT_size _ _), trivial, fun b hB2 => absurd (show b ∈ ([] : List Addr) from hB2) (by simp), Hok0, .of_eq gnE⟩
    refine codeAny_mono ((FF _ KBase (nsB0 nsG) tabB0).run callerA [] s₁ H ⟨[.ref a], []⟩ [.ref a] [.ref a] _ _ rmE rfl env0 (bdE s₁ (.ref a)) (.cons rfl .nil) (spE H Htab Hscr)) fun r s' h => ?_
    cases r with
    | error e => exact (cxE H e s' h).elim
    | ok fl =>
      cases fl with
      | next => exact False.elim h
      | brk => exact False.elim h
      | cont => exact False.elim h
      | ret u =>
        obtain ⟨v, H', osE, bareE, unk, Hok1, r', qq⟩ := h
        have q' : v = .bl true := qq
        subst q'
        obtain rfl : u = Value.bool true := r'
        have kept0 : ∀ b o, b ∉ tabs.map (·.2) → s₁.heap.get? b = some o → s'.heap.get? b = some o := fun b o nb e => by
          cases qq : H b with
          | none => exact unk.keep b o e qq (by intro zq; exact absurd (show b ∈ ([] : List Addr) from zq) (by simp)) (by simp)
          | some u =>
            rcases Hone b with zq | zq | ⟨obj, xs, zq⟩
            · rw [qq] at zq; cases zq
            · exact absurd zq nb
            · have zz := unk.frzs b obj _ zq
              obtain ⟨e1, _⟩ := Hok0 b _ zq
              obtain ⟨ee, _⟩ := Hok1 b _ zz
              rw [e] at e1; cases e1
              exact ee
        have grew : ∀ p ∈ tabs, ∃ rest : Array Value, s'.heap.get? p.2 = some { cls := .none, data := .fields rest } := fun p memP => by
          obtain ⟨rest, zq⟩ := unk.tbls p.2 #[] (Htab p memP)
          exact ⟨_, Hok1 p.2 _ zq⟩
        refine ⟨rfl, ⟨fun b o e => ?_, fun b o e => ?_⟩, osE, bareE⟩
        · by_cases hB2 : b ∈ tabs.map (·.2)
          · obtain ⟨p, memP, epp⟩ := List.mem_map.mp hB2
            obtain ⟨rest, hmo⟩ := grew p memP
            rw [← epp] at e ⊢
            rw [tabE p memP] at e
            cases e
            exact .inr (.inl ⟨((cdE p memP).tab (tabE p memP)).isCodeTable, rfl, #[], rest, rfl, by rw [Array.empty_append]; exact hmo⟩)
          · exact .inl (kept0 b o hB2 e)
        · by_cases hB2 : b ∈ tabs.map (·.2)
          · obtain ⟨p, memP, epp⟩ := List.mem_map.mp hB2
            obtain ⟨rest, hmo⟩ := grew p memP
            rw [← epp]
            exact ⟨_, hmo⟩
          · exact ⟨o, kept0 b o hB2 e⟩
  cases lookE : K.lookup a with
  | some o =>
    have e := KH a o lookE
    rw [scE] at e
    cases e
    refine main0 (fun b => if b ∈ tabs.map (·.2) then some (.tbl #[]) else none) (fun p memP => if_pos (inTb p memP)) (fun b => ?_) (.inr ⟨_, items.toArray, _, lookE, rfl, rfl, rfl, by rw [List.size_toArray, lenW]; exact lnE, by simpa using rvs⟩) (fun b u zq => ?_) (fun b zq => ?_) fun zq => absurd (show (if a ∈ tabs.map (·.2) then some (HO.tbl #[]) else none) = none from if_neg notTb) zq
    · by_cases hB2 : b ∈ tabs.map (·.2)
      · exact .inr (.inl hB2)
      · exact .inl (if_neg hB2)
    · by_cases hB2 : b ∈ tabs.map (·.2)
      · have z' := (if_pos hB2).symm.trans zq
        cases z'
        exact isTb b hB2
      · have z' := (if_neg hB2).symm.trans zq
        cases z'
    · by_cases hB2 : b ∈ tabs.map (·.2)
      · exact .inr hB2
      · exact absurd (if_neg hB2) zq
  | none =>
    refine main0 (fun b => if b = a then some (.frz { cls := .type "list", data := .seq items.toArray } (.lst (nums.map V.int))) else if b ∈ tabs.map (·.2) then some (.tbl #[]) else none) (fun p memP => (if_neg (show ¬ p.2 = a from fun zq => notTb (by rw [← zq]; exact inTb p memP))).trans (if_pos (inTb p memP))) (fun b => ?_)
      (.inl (.inr ⟨{ cls := .type "list", data := .seq items.toArray }, if_pos rfl⟩)) (fun b u zq => ?_) (fun b zq => ?_) fun _ => lookE
    · by_cases hB2 : b = a
      · exact .inr (.inr ⟨_, _, if_pos hB2⟩)
      · by_cases hb2 : b ∈ tabs.map (·.2)
        · exact .inr (.inl hb2)
        · exact .inl ((if_neg hB2).trans (if_neg hb2))
    · by_cases hB2 : b = a
      · have z' := (if_pos hB2).symm.trans zq
        cases z'
        rw [hB2]
        exact ⟨scE, by rw [List.length_map]; exact lnE, items, _, rvs, scE⟩
      · have z1 := (if_neg hB2).symm.trans zq
        by_cases hb2 : b ∈ tabs.map (·.2)
        · have z' := (if_pos hb2).symm.trans z1
          cases z'
          exact isTb b hb2
        · have z' := (if_neg hb2).symm.trans z1
          cases z'
    · by_cases hB2 : b = a
      · exact .inl hB2
      · by_cases hb2 : b ∈ tabs.map (·.2)
        · exact .inr hb2
        · exact absurd ((if_neg hB2).trans (if_neg hb2)) zq
/-- what is known of the law's promise at the head's heap h -/
def LawAtG (l : PySem.W.OpenLaw) (w : World) (K : PySem.W.Frag) (CX : CXT) (k n : Nat) (x : Str) (mg : Str → Option Value) (fLaw : Addr) (h : Heap) : Prop :=
  ∃ (fdLaw : FuncData) (tabs : List (Addr × Addr)) (spc : Sp), (∀ p ∈ tabs, h.get? p.2 = some { cls := .none, data := .fields #[] }) ∧ (∀ p ∈ tabs, K.lookup p.2 = none) ∧ (∀ p ∈ tabs, PySem.W.CodeHd h p.1 p.2) ∧ (∀ (s : Shared) (u : Value), BindsTo s fdLaw ⟨[u], []⟩ [(x, u)]) ∧
    (∀ (H : Hp) (a : Addr) (nums : List Int), nums.length ≤ n → (∀ zq ∈ nums, Builtin.Int.intBits zq ≤ 1048576) → (∀ p ∈ tabs, H p.2 = some (.tbl #[])) → SqL K H a (nums.map V.int) → spc [.ref a] H (fun v _ => v = .bl true) fun _ _ _ => False) ∧
    ∀ base : Heap, K.In base → base.Ns mainGlobals mg → (∀ p ∈ tabs, TabB base mg p.1 p.2) → L2.FnG l.prog w K mg base CX k fLaw fdLaw [x] spc
theorem walk_ofG {l : PySem.W.OpenLaw} {n k : Nat} {qq : Program} {loose : List Str} {XP : (Str → Option Value) → Heap → Prop} {YP : World → Heap → Prop} {d : DefRec} {K : Params → PySem.W.Frag} {CX : World → CXT} {x : Str}
    (hn : l.most = some n) (hn2 : n ≤ sizeLine) (hdf : d.params.defaults = []) (rmE : Room k callerA) (hY : ∀ (w : World) (h : Heap), YP w h → (K w.params).In h)
    (FF : ∀ (w : World) (mg : Str → Option Value) (fLaw : Addr) (h : Heap), YP w h → (K w.params).In h → h.Ns mainGlobals mg → mg d.name = some (.ref fLaw) → LawAtG l w (K w.params) (CX w) k n x mg fLaw h)
    (cxE : ∀ (w : World) (H : Hp) (s : Shared) (e : Value) (s' : Shared), CX w [] H s (fun _ _ _ => False) e s' → False) :
    PySem.W.WalkO qq loose XP YP l.row.toRowW d [] (fun f items => PySem.call f items) := by
  refine Att.attach_callB hn hdf fun w s₀ s₁ mg mBlt fLaw o pm cd doc a items nums G Y ho hd hcd hmg hobj hints hlen hbits gnE => ?_
  have KH := hY w _ Y
  obtain ⟨fdLaw, tabs, spc, tabE, tabK, cdE, hB2, spE, hF⟩ := FF w mg fLaw _ Y KH G.T.g hmg
  exact law_callG KH G.T.g G.T.b G.T.builtins G.T.nolimit gnE tabE tabK cdE G.T.bmain hobj hints (Nat.le_trans hlen hn2) rmE hF hB2 (fun H Htab Hscr => spE H a nums hlen hbits Htab Hscr) fun H e s' => cxE w H s₁ e s'
end LamX

/-! len(x), str(x) of an own class. -/
namespace L2
open PySem PySem.Spec PyProof.Rows
section
variable {X : Cx} {CX : CXT} {k : Nat} {f C : Addr} {fd : FuncData} {ps : List Str} {sp : Sp}
/-- a special method of the class -/
structure SpM (K : PySem.W.Frag) (C f : Addr) (name : Str) : Prop where
  hs : PySem.W.findIn K (.ref C) name = some (some (.ref f))
  hf : PySem.W.isFn K (.ref f) = true
def rLenO (C : Addr) (sp : Sp) : List V → Hp → VK → Prop := fun xs H Q => ∃ a dx fs, xs = [.ref a] ∧ H a = some (.ins C dx fs) ∧ sp [.ref a] H (fun v H' => ∃ n : Int, v = .int n ∧ (0 ≤ n ∧ n < 2 ^ 63) ∧ Q (.int n) H') (fun _ _ _ => False)
theorem c_lenO (M : SpM X.K C f "__len__") (F : FnOk X.prog X.w X.K X.mg X.base CX k f fd ps sp) (hr : Room (k + 1) X.A) (hb : Binds X.K fd ps []) (hx : Passes CX X (fun _ _ _ => False)) : CallR X (.builtin "len") (rLenO C sp) := by
  intro pins s σ H xs us Q I r h
  obtain ⟨a, dx, fs, rfl, ha, hq⟩ := h
  obtain ⟨u, rfl, rx⟩ := vals1 r
  cases (show u = Value.ref a from rx)
  obtain ⟨_, J, _⟩ := ins_get I.hok ha
  obtain ⟨_, J, _⟩ := J.look
  obtain ⟨_, hF⟩ := I.fr
  refine PySem.W.len_K hF I.ok.mod.kin J M.hs M.hf (wpAny_mono (callA (A := X.A.in1) (vs := [.ref a]) F hr.in1 rfl hb hx I (.cons rfl .nil) hq) (fun z s' hz => ?_) fun _ _ z => z)
  obtain ⟨v', H', I', rv, n, e, hn, q⟩ := hz
  subst e
  obtain ⟨t, rfl⟩ := (show ∃ t, z = Value.int n t from rv)
  exact ⟨hn, .int n, H', I'.tok _, ⟨_, rfl⟩, q⟩
def rStrO (C : Addr) (sp : Sp) : List V → Hp → VK → Prop := fun xs H Q => ∃ a dx fs, xs = [.ref a] ∧ H a = some (.ins C dx fs) ∧ sp [.ref a] H (fun v H' => ∃ x : Str, v = .str x ∧ Q (.str x) H') (fun _ _ _ => False)
theorem c_strO (M : SpM X.K C f "__str__") (F : FnOk X.prog X.w X.K X.mg X.base CX k f fd ps sp) (hr : Room (k + 2) X.A) (hb : Binds X.K fd ps []) (hx : Passes CX X (fun _ _ _ => False)) : CallR X (.type "str") (rStrO C sp) := by
  intro pins s σ H xs us Q I r h
  obtain ⟨a, dx, fs, rfl, ha, hq⟩ := h
  obtain ⟨u, rfl, rx⟩ := vals1 r
  cases (show u = Value.ref a from rx)
  obtain ⟨_, J, _⟩ := ins_get I.hok ha
  obtain ⟨_, J, _⟩ := J.look
  have hu := hr.un
  refine PySem.W.kso_call (by show X.A.units + 1 + 1 < cLine; omega) I.kIn J M.hs M.hf (wpAny_mono (callA (A := X.A.in1.in1) (vs := [.ref a]) F hr.in1.in1 rfl hb hx I (.cons rfl .nil) hq) (fun z s' hz => ?_) fun _ _ z => z)
  obtain ⟨v', H', I', rv, x, e, q⟩ := hz
  subst e
  obtain ⟨t, rfl⟩ := (show ∃ t, z = Value.str x t from rv)
  exact ⟨.str x, H', I', ⟨_, rfl⟩, q⟩
end
end L2

/-! Abstract rules for own classes, errors, lambdas, pens. -/
namespace L2
open PySem PySem.Spec PyProof.Rows
/-- as Fun.okG, the code object told -/
theorem Fun.okGC {P : Program} {w : World} {K : PySem.W.Frag} {mg : Str → Option Value} {base : Heap} {x qual : Str} {st : Stmt} {f : Addr} {fd : FuncData} {N ps : List Str} {k : Nat} {sp : Sp} (F : Fun K x qual st f fd) (S : FnScope N ps (defScope st)) (len : ∀ vs H Q E, sp vs H Q E → vs.length = ps.length)
    (hb : ∀ (A : Around) (outer : List Env) (s : Shared) (H : Hp) (vs : List V) (Q : VK) (E : XK), Room k (A.deeper (envOfC qual (defScope st) s.heap.objs.size f fd.code)) → A.guards = some [] → sp vs H Q E →
      ∃ t, PSs (cxOf CX0 P w K mg base N qual (defScope st) f fd.code A outer s H E).nox (defBody st) t ∧ t { nx := fun _ H' => Q .non H', rt := Q } (start N vs) H) : FnG P w K mg base CX0 (k + 1) f fd ps sp := by
  obtain ⟨oc, od, kV, doc, pm, an, cdv, ct, osl, rfl, lk, hcd⟩ := F.ex
  refine ⟨len, fun A outer s H args us vs Q E hr hg e0 hbd r hsp => LamX.run_ofS lk hcd S hr e0 hbd r (len _ _ _ _ hsp) fun hr' => ?_⟩
  obtain ⟨t, h, q⟩ := hb A outer s H vs Q E hr' hg hsp
  exact ⟨t, h.nox, q⟩
end L2
namespace AW
open PySem PySem.Spec PyProof.Rows L2 LamX ClX
theorem both_nt {A B : Prop} (h : B) : ((!true) = true → A) ∧ ((!true) = false → B) := ⟨fun z => Bool.noConfusion z, fun _ => h⟩
theorem both_nf {A B : Prop} (h : A) : ((!false) = true → A) ∧ ((!false) = false → B) := ⟨fun _ => h, fun z => Bool.noConfusion z⟩
theorem bor_t {A B : Prop} (h : B) : (true = false → A) ∧ (true = true → B) := ⟨fun z => Bool.noConfusion z, fun _ => h⟩
theorem bor_f {A B : Prop} (h : A) : (false = false → A) ∧ (false = true → B) := ⟨fun _ => h, fun z => Bool.noConfusion z⟩
theorem bor_nt {A B : Prop} (h : A) : ((!true) = false → A) ∧ ((!true) = true → B) := ⟨fun _ => h, fun z => Bool.noConfusion z⟩
theorem bor_nf {A B : Prop} (h : B) : ((!false) = false → A) ∧ ((!false) = true → B) := ⟨fun z => Bool.noConfusion z, fun _ => h⟩
theorem keep2 {kn : Hp} {a q : Addr} {o : HO} {u : HO} (h : a ≠ q) (e : kn a = some u) : upd kn q o a = some u := by
  rw [upd_ne h]
  exact e
section
variable {K : PySem.W.Frag} {H H' : Hp} {x : V} {t : Value}
theorem tyof_ext (e : Ext H H') (h : TyOf K H x t) : TyOf K H' x t := by
  cases h with
  | non => exact .non
  | bl x => exact .bl x
  | int i => exact .int i
  | str x => exact .str x
  | flt x => exact .flt x
  | lst h => exact .lst (e _ _ h)
  | frz h => exact .frz (e _ _ h)
  | tup h => exact .tup (e _ _ h)
  | dK h => exact .dK (e _ _ h)
  | dT h => exact .dT (e _ _ h)
  | ins h a b c d m => exact .ins (e _ _ h) a b c d m
theorem tyx_ext (e : Ext H H') (h : TyX K H x t) : TyX K H' x t := by
  cases h with
  | base b => exact .base (tyof_ext e b)
  | byt b => exact .byt b
  | set h => exact .set (e _ _ h)
  | kList h c => exact .kList h c
  | kTuple h c => exact .kTuple h c
  | kDict h c => exact .kDict h c
  | fTuple h => exact .fTuple (e _ _ h)
  | fDict h => exact .fDict (e _ _ h)
end
/-- the wish of errors -/
abbrev EAK := Value → Option Addr → Hp → Nat → Prop
def ErrOk (c : Cw) (EA : EAK) (E : XK) : Prop := ∀ cls d kn' n' H', EA cls d kn' n' → Good c kn' n' H' → E cls d H'
theorem err_no {c : Cw} {E : XK} : ErrOk c (fun _ _ _ _ => False) E := fun _ _ _ _ _ h => h.elim
abbrev bodyX (c : Cw) (E : XK) : EAK := fun cls d kn n => ∀ H', Good c kn n H' → E cls d H'
theorem err_body {c : Cw} {E : XK} : ErrOk c (bodyX c E) E := fun _ _ _ _ H' h g => h H' g
section
variable {c : Cw} {kn : Hp} {n : Nat} {σ : L2.St} {Q : V → Hp → Nat → Prop} {K : PySem.W.Frag} {E : XK} {EA : EAK} {B : List V → Hp → AK → AXK → Prop}
theorem r_isi {x cv : V} {t u : Value} {b : Bool} (k : ClsV cv u) (ty : TyX K kn x t) (e : PySem.W.kitOne K t u = some b) (q : Q (.bl b) kn n) : W c (rIsi K [x, cv]) kn n Q :=
  fun H g _ f => ⟨x, cv, t, u, b, rfl, k, tyx_ext g.ex ty, e, f _ kn n H q g⟩
theorem w_call {dvs : List V} {t : TA} (hm : MonoX B) (hE : ErrOk c EA E) (h : W c (t σ) kn n fun vs kn1 n1 => B (vs ++ dvs) kn1 (fun v k => Q v k n1) (fun cls d k => EA cls d k n1)) : W c (tCall (liftX B) dvs E t σ) kn n Q :=
  w_callX hm hE h
def rIsN : R2 := fun x y H Q => y = V.non ∧ Q (V.bl (decide (x = V.non))) H
theorem c_isN {X : Cx} : OpR X (compareOp .Is) rIsN := op_isN
theorem r_isN {x : V} (q : Q (.bl (decide (x = V.non))) kn n) : W c (rIsN x .non) kn n Q := fun H g _ k => ⟨rfl, k _ kn n H q g⟩
theorem r_isNt (q : Q (V.bl true) kn n) : W c (rIsN .non .non) kn n Q := fun H g _ k => ⟨rfl, k _ kn n H q g⟩
theorem r_isNr {a : Addr} (q : Q (V.bl false) kn n) : W c (rIsN (.ref a) .non) kn n Q := fun H g _ k => ⟨rfl, k _ kn n H q g⟩
theorem r_neV {v : V} (h : scal v v = true) (q : Q (V.bl false) kn n) : W c (rNe v v) kn n Q := r_ne h (by rw [decide_eq_true rfl]; exact q)
theorem r_eqV {v : V} (h : scal v v = true) (q : Q (V.bl true) kn n) : W c (rEq v v) kn n Q := r_eq h (by rw [decide_eq_true rfl]; exact q)
theorem r_neSelf {x : Str} (q : Q (V.bl false) kn n) : W c (rNe (.str x) (.str x)) kn n Q := r_ne rfl (by rw [decide_eq_true rfl]; exact q)
theorem r_eqSelf {x : Str} (q : Q (V.bl true) kn n) : W c (rEq (.str x) (.str x)) kn n Q := r_eq rfl (by rw [decide_eq_true rfl]; exact q)
theorem w_make {C : Addr} {t : TA} (hm : MonoX B) (hE : ErrOk c EA E) (h : W c (t σ) kn n fun vs kn1 n1 => ∀ x dx, kn1 x = none → kn1 dx = none → dx ≠ x →
    B (.ref x :: vs) (upd (upd kn1 dx (.own x)) x (.ins C dx [])) (fun v kn2 => v = .non ∧ Q (.ref x) kn2 n1) (fun cls d k => EA cls d k n1)) : W c (tMake C (liftX B) [] E t σ) kn n Q :=
  fun H g Q' q => h H g _ fun vs kn1 n1 H1 h1 g1 => fun x dx hx hdx hne => by
    have hx2 : upd H1 dx (.own x) x = none := by rw [upd_ne (Ne.symm hne)]; exact hx
    have z := sp_call (c := c) (n := n1) (Q := fun v kn2 n2 => v = .non ∧ Q (.ref x) kn2 n2) hm hE (h1 x dx (g1.free hx) (g1.free hdx) hne) _ ((g1.new hdx).new hx2) (fun v H2 => v = .non ∧ Q' (.ref x) H2)
      (fun v kn2 n2 H2 hq g2 => ⟨hq.1, q _ _ _ _ hq.2 g2⟩)
    have e : vs ++ [] = vs := List.append_nil vs
    rw [e]
    exact z
theorem w_meth {C : Addr} {m : Str} {ta : TE} {t : TA} (hm : MonoX B) (hE : ErrOk c EA E) (h : W c (ta σ) kn n fun x kn1 n1 => ∃ a dx fs, x = .ref a ∧ kn1 a = some (.ins C dx fs) ∧ fs.lookup m = none ∧
    W c (t σ) kn1 n1 fun vs kn2 n2 => B (.ref a :: vs) kn2 (fun v k => Q v k n2) (fun cls d k => EA cls d k n2)) : W c (tMeth C m (liftX B) [] E ta t σ) kn n Q :=
  fun H g Q' q => h H g _ fun x kn1 n1 H1 h1 g1 => by
    obtain ⟨a, dx, fs, rfl, ha, hl, h2⟩ := h1
    refine ⟨a, dx, fs, rfl, g1.ex _ _ ha, hl, h2 H1 g1 _ fun vs kn2 n2 H2 h3 g2 => ?_⟩
    have e : vs ++ [] = vs := List.append_nil vs
    rw [e]
    exact sp_call hm hE h3 H2 g2 Q' q
theorem r_own {op : Operator} {C a dx : Addr} {fs : List (Str × V)} {y : V} {t : Value} (hm : MonoX B) (hE : ErrOk c EA E) (ha : kn a = some (.ins C dx fs)) (ty : TyX K kn y t) (ot : OpT K op C t)
    (h : B [.ref a, y] kn (fun v k => Q v k n) (fun cls d k => EA cls d k n)) : W c (rOwn K op C (liftX B) E (.ref a) y) kn n Q :=
  fun H g Q' q => ⟨a, dx, fs, t, rfl, g.ex _ _ ha, tyx_ext g.ex ty, ot, sp_call hm hE h H g Q' q⟩
theorem r_eqO {C a dx : Addr} {fs : List (Str × V)} {y : V} {t : Value} {neg : Bool} (hm : MonoX B) (ha : kn a = some (.ins C dx fs)) (ty : TyX K kn y t) (nf : PySem.W.notFirst K C t = true)
    (h : B [.ref a, y] kn (fun v k => ∃ b, v = .bl b ∧ Q (.bl (if neg then !b else b)) k n) (fun _ _ _ => False)) : W c (rEqO K C (liftX B) neg (.ref a) y) kn n Q :=
  fun H g Q' q => ⟨a, dx, fs, t, rfl, g.ex _ _ ha, tyx_ext g.ex ty, nf, sp_call (EA := fun _ _ _ _ => False) (Q := fun v k n => ∃ b, v = .bl b ∧ Q (.bl (if neg then !b else b)) k n) hm err_no h H g _ fun v kn1 n1 H1 ⟨b, e, hq⟩ g1 => ⟨b, e, q _ _ _ _ hq g1⟩⟩
theorem r_lenO {C a dx : Addr} {fs : List (Str × V)} (hm : MonoX B) (ha : kn a = some (.ins C dx fs)) (h : B [.ref a] kn (fun v k => ∃ i : Int, v = .int i ∧ (0 ≤ i ∧ i < 2 ^ 63) ∧ Q (.int i) k n) (fun _ _ _ => False)) : W c (rLenO C (liftX B) [.ref a]) kn n Q :=
  fun H g Q' q => ⟨a, dx, fs, rfl, g.ex _ _ ha, sp_call (EA := fun _ _ _ _ => False) (Q := fun v k n => ∃ i : Int, v = .int i ∧ (0 ≤ i ∧ i < 2 ^ 63) ∧ Q (.int i) k n) hm err_no h H g _ fun v kn1 n1 H1 ⟨b, e, e2, hq⟩ g1 => ⟨b, e, e2, q _ _ _ _ hq g1⟩⟩
theorem r_strO {C a dx : Addr} {fs : List (Str × V)} (hm : MonoX B) (ha : kn a = some (.ins C dx fs)) (h : B [.ref a] kn (fun v k => ∃ x : Str, v = .str x ∧ Q (.str x) k n) (fun _ _ _ => False)) : W c (rStrO C (liftX B) [.ref a]) kn n Q :=
  fun H g Q' q => ⟨a, dx, fs, rfl, g.ex _ _ ha, sp_call (EA := fun _ _ _ _ => False) (Q := fun v k n => ∃ x : Str, v = .str x ∧ Q (.str x) k n) hm err_no h H g _ fun v kn1 n1 H1 ⟨b, e, hq⟩ g1 => ⟨b, e, q _ _ _ _ hq g1⟩⟩
theorem w_cval {ta : TE} {f : Str} (h : W c (ta σ) kn n fun x kn1 n1 => ∃ C mc v u, x = .ref C ∧ CRead K C mc ∧ CVal K C mc f v u ∧ Q v kn1 n1) : W c (tCVal K ta f σ) kn n Q :=
  fun H g Q' q => h H g _ fun x kn1 n1 H1 ⟨C, mc, v, u, e, r, cv, hq⟩ g1 => ⟨C, mc, v, u, e, r, cv, q _ _ _ _ hq g1⟩
theorem w_tupRg {ta tb : TE} (h : W c (ta σ) kn n fun x kn1 n1 => W c (tb σ) kn1 n1 fun y kn2 n2 => ∃ i j, x = .int i ∧ y = .int j ∧ RgOk i j ∧ ∀ q, kn2 q = none → Q (.ref q) (upd kn2 q (.tup (rgV i j))) n2) : W c (tTupRg (tRg2 ta tb) σ) kn n Q :=
  fun H g Q' q => h H g _ fun x kn1 n1 H1 h1 g1 => h1 H1 g1 _ fun y kn2 n2 H2 ⟨i, j, e1, e2, ok, h2⟩ g2 => ⟨i, j, e1, e2, ok, fun p hp => q _ _ _ _ (h2 p (g2.free hp)) (g2.new hp)⟩
theorem w_fmtI {te : TE} (h : W c (te σ) kn n fun x kn1 n1 => ∃ i : Int, x = .int i ∧ i.natAbs.log2 < 1920 ∧ Q (.str (toString i)) kn1 n1) : W c (tFmt te σ) kn n Q :=
  fun H g Q' q => h H g _ fun x kn1 n1 H1 ⟨i, e, hi, hq⟩ g1 => .inr ⟨i, e, hi, q _ _ _ _ hq g1⟩
theorem w_fmtS {te : TE} (h : W c (te σ) kn n fun x kn1 n1 => ∃ y : Str, x = .str y ∧ y.length ≤ sizeLine ∧ Q (.str y) kn1 n1) : W c (tFmt te σ) kn n Q :=
  fun H g Q' q => h H g _ fun x kn1 n1 H1 ⟨i, e, hi, hq⟩ g1 => .inl ⟨i, e, hi, q _ _ _ _ hq g1⟩
theorem w_js0 {acc : Str} {QS : Str → Hp → Nat → Prop} (q : QS acc kn n) : W c (tJs [] acc σ) kn n QS := fun H g _ k => k _ kn n H q g
theorem w_js {t : TE} {ts : List TE} {acc : Str} {QS : Str → Hp → Nat → Prop} (h : W c (t σ) kn n fun x kn1 n1 => ∃ y : Str, x = .str y ∧ (acc ++ y).length ≤ sizeLine ∧ W c (tJs ts (acc ++ y) σ) kn1 n1 QS) : W c (tJs (t :: ts) acc σ) kn n QS :=
  fun H g Q' q => h H g _ fun x kn1 n1 H1 ⟨y, e, hl, h2⟩ g1 => ⟨y, e, hl, h2 H1 g1 Q' q⟩
theorem w_joined {ts : List TE} (h : W c (tJs ts Str.empty σ) kn n fun out kn1 n1 => Q (.str out) kn1 n1) : W c (fun H Q' => tJs ts Str.empty σ H fun out H1 => Q' (.str out) H1) kn n Q :=
  fun H g Q' q => h H g _ fun out kn1 n1 H1 h1 g1 => q _ _ _ _ h1 g1
theorem r_repr {a : Addr} {d : PyData} (hd : Dp K kn (.ref a) d) (h1 : d.showable = true) (h2 : d.hasDict = false) (h3 : d.depth ≤ 64) (h4 : d.shown.length ≤ sizeLine) (q : Q (.str d.shown) kn n) : W c (rRepr K [.ref a]) kn n Q :=
  fun H g _ k => ⟨a, d, rfl, Dp.ext g.ex d _ hd, h1, h2, h3, h4, k _ kn n H q g⟩
theorem r_isK {a D dd : Addr} {fs : List (Str × V)} {cv : V} {u : Value} {b : Bool} (k : ClsV cv u) (ea : kn a = some (exh a (.ref D) (some dd))) (ed : kn dd = some (.xd fs)) (ex : ExcC K D) (e : PySem.W.kitOne K (.ref D) u = some b) (q : Q (.bl b) kn n) : W c (rIsK K [.ref a, cv]) kn n Q :=
  fun H g _ f => ⟨a, D, dd, fs, cv, u, b, rfl, k, g.ex _ _ ea, g.ex _ _ ed, ex, e, f _ kn n H q g⟩
theorem w_xk {te : TE} {f : Str} (h : W c (te σ) kn n fun x kn1 n1 => ∃ (a C dd : Addr) (fs : List (Str × V)) (v : V), x = .ref a ∧ kn1 a = some (exh a (.ref C) (some dd)) ∧ kn1 dd = some (.xd fs) ∧ XfC K C ∧ PySem.W.findIn K (.ref C) f = some none ∧ fs.lookup f = some v ∧ Q v kn1 n1) : W c (tXk K te f σ) kn n Q :=
  fun H g Q' q => h H g _ fun x kn1 n1 H1 ⟨a, C, dd, fs, v, e, ea, ed, xf, hn, hl, hq⟩ g1 => ⟨a, C, dd, fs, v, e, g1.ex _ _ ea, g1.ex _ _ ed, xf, hn, hl, q _ _ _ _ hq g1⟩
theorem w_dnew (h : ∀ q, kn q = none → Q (.ref q) (upd kn q (.dK [])) n) : W c (tDNewK σ) kn n Q := fun H g Q' q => fun p hp => q _ _ _ _ (h p (g.free hp)) (g.new hp)
theorem w_chain {r r' : R2} {ta tb tc : TE} (h : W c (ta σ) kn n fun x kn1 n1 => W c (tb σ) kn1 n1 fun y kn2 n2 => W c (r x y) kn2 n2 fun z kn3 n3 => ∃ k, z = .bl k ∧ (k = true → W c (tc σ) kn3 n3 fun w kn4 n4 => W c (r' y w) kn4 n4 Q) ∧ (k = false → Q (.bl false) kn3 n3)) : W c (tChain r r' ta tb tc σ) kn n Q :=
  fun H g Q' q => h H g _ fun x kn1 n1 H1 h1 g1 => h1 H1 g1 _ fun y kn2 n2 H2 h2 g2 => h2 H2 g2 _ fun z kn3 n3 H3 h3 g3 => by
    obtain ⟨k, e, a, b⟩ := h3
    refine ⟨k, e, ?_⟩
    cases k with
    | true => exact iteT (a rfl H3 g3 _ fun w kn4 n4 H4 h4 g4 => h4 H4 g4 Q' q)
    | false => exact iteF (q _ _ _ _ (b rfl) g3)
variable {D : AE}
theorem s_fld {ta tv : TE} {f : Str} (h : W c (tv σ) kn n fun y kn1 n1 => W c (ta σ) kn1 n1 fun x kn2 n2 => ∃ a C dx fs, x = .ref a ∧ kn2 a = some (.ins C dx fs) ∧ Cls K C ∧ NoAttr K C f ∧ fs.length < 1000 ∧ D.nx σ (upd kn2 a (.ins C dx (putF f y fs))) n2) : WS c (sFld K ta tv f) D σ kn n :=
  fun H g D' fit => h H g _ fun y kn1 n1 H1 h1 g1 => h1 H1 g1 _ fun x kn2 n2 H2 ⟨a, C, dx, fs, e, ha, cl, na, hl, hq⟩ g2 => ⟨a, C, dx, fs, e, g2.ex _ _ ha, cl, na, hl, fit.nx _ _ _ _ hq (g2.put ha rfl)⟩
theorem s_aug {i : Nat} {te : TE} {ti : TIp} {x : V} (hv : σ[i]? = some (some x)) (h : W c (te σ) kn n fun y kn1 n1 => W c (ti x y) kn1 n1 fun z kn2 n2 => D.nx (σ.set i (some z)) kn2 n2) : WS c (tAug i te ti) D σ kn n :=
  fun H g D' fit => ⟨x, hv, h H g _ fun y kn1 n1 H1 h1 g1 => h1 H1 g1 _ fun z kn2 n2 H2 h2 g2 => fit.nx _ _ _ _ h2 g2⟩
theorem room_u128 {k : Nat} {A : Around} (r : Room k A) : A.units + 128 < cLine := by have := r.un; omega
/-- an error class whose __init__ sets one field -/
def spX1 (K : PySem.W.Frag) (f : Str) : Sp := fun vs H Q _ => ∃ (a C : Addr) (y : V), vs = [.ref a, y] ∧ OexC K C ∧ PySem.W.findIn K (.ref C) f = some none ∧ H a = some (exo a C none) ∧
  ∀ dx, H dx = none → dx ≠ a → Q .non (upd (upd H dx (exd dx [(f, y)])) a (exo a C (some dx)))
theorem x1_end {H : Hp} {a d : Addr} {o1 o2 o3 o4 : HO} (ha : H a = none) (hd : d ≠ a) : upd (del (upd (upd (upd H a o1) d o2) a o3) a) d o4 = upd H d o4 := by
  funext x
  by_cases h1 : x = d
  · rw [h1, upd_same, upd_same]
  · rw [upd_ne h1, upd_ne h1]
    by_cases h2 : x = a
    · rw [h2, del_same, ha]
    · rw [del_ne h2, upd_ne h2, upd_ne h1, upd_ne h2]
theorem s_raise1 {C : Addr} {f : Str} {ta : TA} (oc : OexC K C) (hf : PySem.W.findIn K (.ref C) f = some none) (hE : ErrOk c EA E)
    (h : W c (ta σ) kn n fun vs kn1 n1 => ∃ y, vs = [y] ∧ ∀ d, kn1 d = none → EA (.ref C) (some d) (upd kn1 d (.xd [(f, y)])) n1) :
    WS c (fun _ σ H => tMkO C (spX1 K f) [] ta σ H fun cls d H' => E cls d H') D σ kn n :=
  fun H g D' fit => h H g _ fun vs kn1 n1 H1 ⟨y, e, h1⟩ g1 => by
    subst e
    refine ⟨Nat.le_add_left 1 999, fun a ha => ⟨a, C, y, rfl, oc, hf, upd_same, fun d hd hda => ⟨rfl, d, [(f, y)], upd_same, ?_, ?_, ?_⟩⟩⟩
    · rw [upd_ne hda, upd_same]
    · rw [upd_ne hda] at hd
      exact hd
    · rw [upd_ne hda] at hd
      rw [x1_end ha hda]
      exact hE _ _ _ _ _ (h1 d (g1.free hd)) (g1.new hd)
end
end AW

/-! C(.., k = v) at the abstract layer. -/
namespace L2
open PySem PySem.Spec PyProof.Rows
/-- o.m(k = v, ..), no positional argument -/
def tMethKW (C : Addr) (m : Str) (b : Nat) (sp : Sp) (gV : List V → List V → List V) (E : XK) (ta : TE) (tk : TA) : TE := fun σ H Q => ta σ H fun x H1 => ∃ a dx fs, x = .ref a ∧ H1 a = some (.ins C dx fs) ∧ fs.lookup m = none ∧ tk σ H1 fun zs H2 => zs.length = b ∧ sp (gV [x] zs) H2 Q E
section
variable {X : Cx} {CX : CXT} {k : Nat} {f C : Addr} {fd : FuncData} {ps ks : List Str} {sp : Sp} {E : XK} {m : Str} {apos pos : Pos} {o : Expr} {kws : List Keyword} {ta : TE} {tk : TA} {g : List Value → List Value → List Value} {gV : List V → List V → List V}
theorem pe_methKW {pl : Sem Bool} (he : PE X o ta) (c : Cls X.K C) (hm : Meth X.K C m f) (F : FnOk X.prog X.w X.K X.mg X.base CX k f fd ps sp) (hr : Room k X.A) (hb : KBn X.K fd ps 1 ks g gV) (hx : Passes CX X E) (hkw : PK X kws tk)
    (hall : (backToKw pos (keywordEach kws X.env)).all (·.1.isSome) = true := by rfl) (hks : (backToKw pos (keywordEach kws X.env)).filterMap (·.1) = ks := by rfl)
    (hpl : ((backTo pos (starEach [] X.env)).any (·.1) || (backToKw pos (keywordEach kws X.env)).any (·.1.isNone)) = false := by rfl)
    (ht : eval (.Call (.Attribute o m apos) [] kws pos) X.env = (do
      let ov ← eval o X.env
      standAt apos.atName
      let (fn, first) ← holding [ov] (getMethod ov m pl)
      callWith pos fn first (backTo pos (starEach [] X.env)) (backToKw pos (keywordEach kws X.env))) := by rfl) :
    PE X (.Call (.Attribute o m apos) [] kws pos) (tMethKW C m ks.length sp gV E ta tk) := by
  refine ⟨fun pins s σ H Q I h => ?_⟩
  refine PySem.W.methodCall_KW (pl := pl) (thn (he.run pins s σ H _ I h) fun u s1 ⟨x, H1, I1, rx, a, dx, fs, ex, ea, l, q⟩ => ?_) ht
  subst ex
  cases (show u = Value.ref a from rx)
  refine getmeth_ok I1 ea c hm l ?_
  refine PySem.W.callWith_KW0 (first := [.ref a]) (h₀ := X.base) I1.ok.mod.kin hm.kp hall ?_ hpl
  refine thn (hkw.run pos pins s1 σ H1 _ I1 q) fun ws s2 ⟨zs, H2, I2, rz, lz, q2⟩ => ⟨I2.kIn, ?_⟩
  rw [hks]
  have r1 : Vals [V.ref a] [Value.ref a] := .cons rfl .nil
  have lw : ws.length = ks.length := rz.length.symm.trans lz
  refine wpAny_call (codeAny_mono (F.run X.A X.stack s2 H2 ⟨[.ref a], ks.zip ws⟩ (g [.ref a] ws) (gV [.ref a] zs) Q E hr I2.env0 (hb.to s2 [.ref a] ws I2.kIn rfl lw) (hb.rel r1 rz) q2) fun r s' hq => ?_)
  cases r with
  | error e => exact hx pins σ H2 s2 e s' I2 hq
  | ok fl =>
    cases fl with
    | ret u => exact I2.after hq
    | next => exact False.elim hq
    | brk => exact False.elim hq
    | cont => exact False.elim hq
end
end L2
namespace AW
open PySem PySem.Spec PyProof.Rows L2
section
variable {c : Cw} {kn : Hp} {n : Nat} {σ : L2.St} {Q : V → Hp → Nat → Prop} {E : XK} {EA : EAK} {B : List V → Hp → AK → AXK → Prop} {C : Addr} {a b : Nat} {gV : List V → List V → List V} {t tk : TA}
theorem w_makeN (hm : MonoX B) (hE : ErrOk c EA E) (h : W c (t σ) kn n fun vs kn1 n1 => W c (tk σ) kn1 n1 fun zs kn2 n2 => vs.length = a ∧ zs.length = b ∧ ∀ x dx, kn2 x = none → kn2 dx = none → dx ≠ x →
    B (gV (.ref x :: vs) zs) (upd (upd kn2 dx (.own x)) x (.ins C dx [])) (fun v k => v = .non ∧ Q (.ref x) k n2) (fun cls d k => EA cls d k n2)) : W c (tMakeN C a b (liftX B) gV E t tk σ) kn n Q :=
  fun H g Q' q => h H g _ fun vs kn1 n1 H1 h1 g1 => h1 H1 g1 _ fun zs kn2 n2 H2 ⟨l1, l2, h2⟩ g2 => ⟨l1, l2, fun x dx hx hdx hne => by
    have hx2 : upd H2 dx (.own x) x = none := by rw [upd_ne (Ne.symm hne)]; exact hx
    exact sp_call (c := c) (n := n2) (Q := fun v k m => v = .non ∧ Q (.ref x) k m) hm hE (h2 x dx (g2.free hx) (g2.free hdx) hne) _ ((g2.new hdx).new hx2) (fun v H3 => v = .non ∧ Q' (.ref x) H3) fun v k m H3 hq g3 => ⟨hq.1, q _ _ _ _ hq.2 g3⟩⟩
theorem w_makeK (hm : MonoX B) (hE : ErrOk c EA E) (h : W c (t σ) kn n fun vs kn1 n1 => W c (tk σ) kn1 n1 fun zs kn2 n2 => vs.length = a ∧ zs.length = b ∧ ∀ x dx, kn2 x = none → kn2 dx = none → dx ≠ x →
    B (gV (.ref x :: vs) zs) (upd (upd kn2 dx (.own x)) x (.ins C dx [])) (fun v k => v = .non ∧ Q (.ref x) k n2) (fun cls d k => EA cls d k n2)) : W c (tMakeK C a b (liftX B) gV E t tk σ) kn n Q :=
  fun H g Q' q => h H g _ fun vs kn1 n1 H1 h1 g1 => h1 H1 g1 _ fun zs kn2 n2 H2 ⟨l1, l2, h2⟩ g2 => ⟨l1, l2, fun x dx hx hdx hne => by
    have hx2 : upd H2 dx (.own x) x = none := by rw [upd_ne (Ne.symm hne)]; exact hx
    exact sp_call (c := c) (n := n2) (Q := fun v k m => v = .non ∧ Q (.ref x) k m) hm hE (h2 x dx (g2.free hx) (g2.free hdx) hne) _ ((g2.new hdx).new hx2) (fun v H3 => v = .non ∧ Q' (.ref x) H3) fun v k m H3 hq g3 => ⟨hq.1, q _ _ _ _ hq.2 g3⟩⟩
theorem w_methKW {m : Str} {ta : TE} (hm : MonoX B) (hE : ErrOk c EA E) (h : W c (ta σ) kn n fun x kn1 n1 => ∃ a dx fs, x = .ref a ∧ kn1 a = some (.ins C dx fs) ∧ fs.lookup m = none ∧
    W c (tk σ) kn1 n1 fun zs kn2 n2 => zs.length = b ∧ B (gV [.ref a] zs) kn2 (fun v k => Q v k n2) (fun cls d k => EA cls d k n2)) : W c (tMethKW C m b (liftX B) gV E ta tk σ) kn n Q :=
  fun H g Q' q => h H g _ fun x kn1 n1 H1 h1 g1 => by
    obtain ⟨a, dx, fs, rfl, ha, hl, h2⟩ := h1
    exact ⟨a, dx, fs, rfl, g1.ex _ _ ha, hl, h2 H1 g1 _ fun zs kn2 n2 H2 ⟨lz, h3⟩ g2 => ⟨lz, sp_call hm hE h3 H2 g2 Q' q⟩⟩
end
end AW

/-! x in o, x not in o: o of an own class with __contains__; truth of an own class by __bool__ or __len__ is not here. -/
namespace L2
open PySem PySem.Spec PyProof.Rows
section
variable {X : Cx} {CX : CXT} {k : Nat} {f C : Addr} {fd : FuncData} {ps : List Str} {sp : Sp}
def rInO (C : Addr) (sp : Sp) (neg : Bool) : R2 := fun x y H Q => ∃ a dx fs, y = .ref a ∧ H a = some (.ins C dx fs) ∧ sp [.ref a, x] H (fun v H' => ∃ b, v = .bl b ∧ Q (.bl (if neg then !b else b)) H') (fun _ _ _ => False)
theorem op_inO (M : SpM X.K C f "__contains__") (F : FnOk X.prog X.w X.K X.mg X.base CX k f fd ps sp) (hr : Room k X.A) (hb : Binds X.K fd ps []) (hx : Passes CX X (fun _ _ _ => False)) : OpR X (compareOp .In) (rInO C sp false) := by
  intro pins s σ H x y v u Q I rx ry h
  obtain ⟨a, dx, fs, rfl, ha, hq⟩ := h
  cases (show u = Value.ref a from ry)
  obtain ⟨_, J, _⟩ := ins_get I.hok ha
  obtain ⟨_, J, _⟩ := J.look
  obtain ⟨_, hF⟩ := I.fr
  refine PySem.W.in_K hF I.ok.mod.kin J M.hs M.hf (wpAny_mono (callA (vs := [.ref a, x]) F hr rfl hb hx I (.cons rfl (.cons rx .nil)) hq) (fun z s' hz => ?_) fun _ _ z => z)
  obtain ⟨v', H', I', rv, b, e, q⟩ := hz
  subst e
  cases (show z = Value.bool b from rv)
  exact wpAny_truthy_bool ⟨.bl b, H', I', rfl, q⟩
theorem op_notInO (M : SpM X.K C f "__contains__") (F : FnOk X.prog X.w X.K X.mg X.base CX k f fd ps sp) (hr : Room k X.A) (hb : Binds X.K fd ps []) (hx : Passes CX X (fun _ _ _ => False)) : OpR X (compareOp .NotIn) (rInO C sp true) := by
  intro pins s σ H x y v u Q I rx ry h
  obtain ⟨a, dx, fs, rfl, ha, hq⟩ := h
  cases (show u = Value.ref a from ry)
  obtain ⟨_, J, _⟩ := ins_get I.hok ha
  obtain ⟨_, J, _⟩ := J.look
  obtain ⟨_, hF⟩ := I.fr
  refine PySem.W.notIn_K hF I.ok.mod.kin J M.hs M.hf (wpAny_mono (callA (vs := [.ref a, x]) F hr rfl hb hx I (.cons rfl (.cons rx .nil)) hq) (fun z s' hz => ?_) fun _ _ z => z)
  obtain ⟨v', H', I', rv, b, e, q⟩ := hz
  subst e
  cases (show z = Value.bool b from rv)
  exact wpAny_truthy_bool ⟨.bl (!b), H', I', rfl, q⟩
end
end L2
namespace AW
open PySem PySem.Spec PyProof.Rows L2
section
variable {c : Cw} {kn : Hp} {n : Nat} {Q : V → Hp → Nat → Prop} {B : List V → Hp → AK → AXK → Prop}
theorem r_inO {C a dx : Addr} {fs : List (Str × V)} {x : V} {neg : Bool} (hm : MonoX B) (ha : kn a = some (.ins C dx fs)) (h : B [.ref a, x] kn (fun v k => ∃ b, v = .bl b ∧ Q (.bl (if neg then !b else b)) k n) (fun _ _ _ => False)) : W c (rInO C (liftX B) neg x (.ref a)) kn n Q :=
  fun H g Q' q => ⟨a, dx, fs, rfl, g.ex _ _ ha, sp_call (EA := fun _ _ _ _ => False) (Q := fun v k n => ∃ b, v = .bl b ∧ Q (.bl (if neg then !b else b)) k n) hm err_no h H g _ fun v kn1 n1 H1 ⟨b, e, hq⟩ g1 => ⟨b, e, q _ _ _ _ hq g1⟩⟩
end
end AW

/-! The pen: what it draws is not told, but its bounds. -/
namespace AW
open PySem PySem.Spec PyProof.Rows L2 LamX
/-- the pen: a list of the cells' list, the spot, the number that is left over -/
structure PenAt (H : Hp) (p a : Addr) (ns : List Int) (n : Nat) : Prop where
  pen : ∃ i g : Int, H p = some (.lst [.ref a, .int i, .int g]) ∧ 0 ≤ i ∧ i ≤ n ∧ 0 ≤ g
  cells : H a = some (.lst (ns.map V.int))
  pa : p ≠ a
theorem PenAt.mono {H : Hp} {p a : Addr} {ns : List Int} {n m : Nat} (h : PenAt H p a ns n) (e : n ≤ m) : PenAt H p a ns m := by
  obtain ⟨⟨i, g, h1, h2, h3, h4⟩, h5, h6⟩ := h
  exact ⟨⟨i, g, h1, h2, by omega, h4⟩, h5, h6⟩
/-- _law_draw -/
def spDraw : Sp := fun vs H Q _ => ∃ (p a : Addr) (ns : List Int) (n : Nat) (many : Int), vs = [.ref p, .int many] ∧ PenAt H p a ns n ∧ n < 1000000 ∧ 0 < many ∧ many < 1180591620717411303424 ∧
  ∀ (k : Int) (H' : Hp), 0 ≤ k → k < many → PenAt H' p a ns (n + 1) → (∀ x o, x ≠ p → H x = some o → H' x = some o) → Q (.int k) H'
theorem nil_eqv (ns : List Int) : PyData.eqv (.list (ns.map PyData.int)) (.list []) = ns.isEmpty := by
  cases ns <;> simp [PyData.eqv, PyData.eqvAll]
theorem dp_ints {K : PySem.W.Frag} {H : Hp} : ∀ ns : List Int, DpAll K H (ns.map V.int) (ns.map PyData.int)
  | [] => .nil
  | n :: r => .cons (.int n) (dp_ints r)
theorem mul_bd {a b A B : Int} (h1 : 0 ≤ a) (h2 : a ≤ A) (h3 : 0 ≤ b) (h4 : b ≤ B) : 0 ≤ a * b ∧ a * b ≤ A * B :=
  ⟨Int.mul_nonneg h1 h3, Int.mul_le_mul h2 h4 h3 (Int.le_trans h1 h2)⟩
theorem at_mod (ns : List Int) (i : Int) (h : 0 < ns.length) : ∃ z, atI (ns.map V.int) (i % ((ns.map V.int).length : Int)) = some (.int z) := by
  rw [List.length_map]
  have h1 : 0 ≤ i % (ns.length : Int) := Int.emod_nonneg _ (by omega)
  have h2 : i % (ns.length : Int) < ns.length := Int.emod_lt_of_pos _ (by omega)
  obtain ⟨j, hj⟩ : ∃ j : Nat, i % (ns.length : Int) = j := ⟨(i % (ns.length : Int)).toNat, by omega⟩
  have hj2 : j < ns.length := by omega
  rw [hj]
  refine ⟨ns[j], atI_nat ?_⟩
  rw [List.getElem?_map, List.getElem?_eq_getElem hj2]
  rfl
theorem lay_ints : ∀ ns : List Int, PyData.canLayAll0 (ns.map PyData.int) = true
  | [] => by simp [PyData.canLayAll0]
  | n :: r => by simp only [List.map_cons, PyData.canLayAll0, PyData.canLay0, Bool.true_and]; exact lay_ints r
theorem deep_ints : ∀ ns : List Int, PyData.depthAll (ns.map PyData.int) = 0
  | [] => by simp [PyData.depthAll]
  | n :: r => by simp only [List.map_cons, PyData.depthAll, PyData.depth]; rw [deep_ints r]; rfl
theorem shaped_ints (ns : List Int) : SeqAt.shaped (.list (ns.map PyData.int)) = true := by
  unfold SeqAt.shaped
  rw [show PyData.canLay0 (.list (ns.map PyData.int)) = true by simp only [PyData.canLay0]; exact lay_ints ns, show PyData.depth (.list (ns.map PyData.int)) = 1 by simp only [PyData.depth]; rw [deep_ints ns]]
  rfl
theorem weigh_int {i : Int} (h : i.natAbs < 10 ^ 12) : PyData.weight (.int i) ≤ 41 := by
  simp only [PyData.weight]
  split
  · omega
  · rename_i z
    have z0 : i.natAbs ≠ 0 := fun e => z (by rw [beq_iff_eq]; omega)
    have a : i.natAbs < 2 ^ 40 := by omega
    have := (Nat.log2_lt z0).mpr a
    omega
theorem weigh_ints : ∀ ns : List Int, (∀ n ∈ ns, n.natAbs < 10 ^ 12) → PyData.weightAll (ns.map PyData.int) ≤ 42 * ns.length
  | [], _ => by simp [PyData.weightAll]
  | n :: r, h => by
    have h1 := weigh_int (h n List.mem_cons_self)
    have h2 := weigh_ints r fun m hm => h m (List.mem_cons_of_mem _ hm)
    simp only [List.map_cons, PyData.weightAll, List.length_cons]
    omega
theorem lay0_ints {ns : List Int} (h : ∀ n ∈ ns, n.natAbs < 10 ^ 12) (l : ns.length ≤ 1000) : PyData.layable0 (.list (ns.map PyData.int)) = true := by
  have h1 := weigh_ints ns h
  have h2 : PyData.weight (.list (ns.map PyData.int)) ≤ 2 ^ 20 := by simp only [PyData.weight]; omega
  unfold PyData.layable0
  rw [show PyData.canLay0 (.list (ns.map PyData.int)) = true by simp only [PyData.canLay0]; exact lay_ints ns, show PyData.depth (.list (ns.map PyData.int)) = 1 by simp only [PyData.depth]; rw [deep_ints ns], decide_eq_true h2]
  rfl
theorem show_ints : ∀ ns : List Int, (∀ n ∈ ns, n.natAbs < 10 ^ 12) → PyData.showableAll (ns.map PyData.int) = true
  | [], _ => by simp [PyData.showableAll]
  | n :: r, h => by
    have h0 : n.natAbs.log2 < 1920 := by
      have := h n List.mem_cons_self
      by_cases z : n.natAbs = 0
      · rw [z]; decide
      · exact Nat.lt_trans ((Nat.log2_lt z).mpr (show n.natAbs < 2 ^ 40 by omega)) (by decide)
    simp only [List.map_cons, PyData.showableAll, PyData.showable, decide_eq_true h0, Bool.true_and]
    exact show_ints r fun m hm => h m (List.mem_cons_of_mem _ hm)
theorem nodict_ints : ∀ ns : List Int, PyData.hasDictAll (ns.map PyData.int) = false
  | [] => by simp [PyData.hasDictAll]
  | n :: r => by simp only [List.map_cons, PyData.hasDictAll, PyData.hasDict, Bool.false_or]; exact nodict_ints r
theorem r_reprInts {K : PySem.W.Frag} {c : Cw} {kn : Hp} {n : Nat} {Q : V → Hp → Nat → Prop} {a : Addr} {vs : List V} (ns : List Int) (e : vs = ns.map V.int) (h : kn a = some (.lst vs)) (hb : ∀ n ∈ ns, n.natAbs < 10 ^ 12) (hl : ns.length ≤ 1000) (q : Q (.str (PyData.shown (.list (ns.map PyData.int)))) kn n) : W c (rRepr K [.ref a]) kn n Q := by
  subst e
  refine r_repr (.lst (sql h) (dp_ints ns)) ?_ ?_ ?_ ?_ q
  · simp only [PyData.showable]; exact show_ints ns hb
  · simp only [PyData.hasDict]; exact nodict_ints ns
  · simp only [PyData.depth]; rw [deep_ints ns]; decide
  · exact PyData.shown_fits_of_layable0 (B := 13) (by decide) (by decide) (lay0_ints hb hl) (by simp only [PyData.intsShort]; exact PyData.intsShortAll_ints ns hb)
theorem r_cat {c : Cw} {kn : Hp} {n : Nat} {Q : V → Hp → Nat → Prop} {l b : Addr} {xs zs : List V} (h1 : kn l = some (.lst xs)) (h2 : kn b = some (.lst zs)) (hz : xs.length + zs.length ≤ 1000) (q : ∀ p, kn p = none → Q (.ref p) (upd kn p (.lst (xs ++ zs))) n) : W c (rCat (.ref l) (.ref b)) kn n Q :=
  fun H g _ k => ⟨l, b, xs, zs, rfl, rfl, g.ex _ _ h1, g.ex _ _ h2, Nat.le_trans hz (by rw [sizeLine_eq]; decide), fun p hp => k _ _ _ _ (q p (g.free hp)) (g.new hp)⟩
theorem w_append {K : PySem.W.Frag} {c : Cw} {kn : Hp} {n i : Nat} {σ : L2.St} {Q : V → Hp → Nat → Prop} {l : Addr} {xs0 : List V} {t : TA} (hv : σ[i]? = some (some (.ref l))) (h0 : kn l = some (.lst xs0))
    (h : W c (t σ) kn n fun vs kn1 n1 => ∃ y xs, vs = [y] ∧ kn1 l = some (.lst xs) ∧ xs.length ≤ 1000 ∧ Q .non (upd kn1 l (.lst (xs ++ [y]))) n1) : W c (tBM K "list" rAppend (tVar i) t σ) kn n Q :=
  fun H g Q' q => ⟨.ref l, hv, .inl ⟨rfl, _, sql (g.ex _ _ h0)⟩, h H g _ fun vs kn1 n1 H1 ⟨y, xs, e, e1, hl, hq⟩ g1 => ⟨l, xs, y, rfl, e, g1.ex _ _ e1, Nat.lt_of_le_of_lt hl (by rw [sizeLine_eq]; decide), q _ _ _ _ hq (g1.put e1 rfl)⟩⟩
theorem Good.grow {c : Cw} {kn H H' : Hp} {n : Nat} {q : Addr} {o : HO} (g : Good c kn n H) (e : Ext H H') (h0 : H q = none) (h1 : H' q = some o) (ht : isTbl o = false := by rfl) : Good c (upd kn q o) n H' := by
  refine ⟨fun x u hx => ?_, c.step n kn H H' g.inv g.res fun x u hx _ => e x u hx, fun x r => ?_, nt_upd g.nt ht⟩
  · by_cases z : x = q
    · rw [z, upd_same] at hx; cases hx; rw [z]; exact h1
    · rw [upd_ne z] at hx; exact e x u (g.ex x u hx)
  · rw [upd_ne (fun z => c.live n H x g.inv r (by rw [z]; exact h0))]
    exact g.res x r
/-- the pen and its cells alone are known -/
def penKn (H : Hp) (p a : Addr) : Hp := fun x => if x = p ∨ x = a then H x else none
theorem TabS.keep {H H' : Hp} {P : Addr} {q : Str} (e : ∀ b o, H b = some o → isMut o = false → H' b = some o) (h : TabS H P q) : TabS H' P q := by
  obtain ⟨ps, h1, h2, h3⟩ := h
  refine ⟨ps, e _ _ h1 rfl, h2, fun pos cv hc => ?_⟩
  obtain ⟨c, e1, e2⟩ := h3 pos cv hc
  exact ⟨c, e1, e _ _ e2 rfl⟩
theorem Tabs.keep {T : List (Addr × Str)} {H H' : Hp} (e : ∀ b o, H b = some o → isMut o = false → H' b = some o) (h : Tabs T H) : Tabs T H' := fun p hp => TabS.keep e (h p hp)
def penC (p a : Addr) (ns : List Int) (T : List (Addr × Str)) : Cw where
  inv n H := PenAt H p a ns n ∧ Tabs T H
  res x := x = p ∨ x = a ∨ ∃ t ∈ T, x = t.1
  live n H x h r := by
    obtain ⟨⟨⟨i, g, h1, _⟩, h2, _⟩, hT⟩ := h
    rcases r with rfl | rfl | ⟨t, ht, rfl⟩
    · rw [h1]; exact fun z => nomatch z
    · rw [h2]; exact fun z => nomatch z
    · obtain ⟨ps, h3, _⟩ := hT t ht
      rw [h3]; exact fun z => nomatch z
  step n kn H H' h r k := by
    obtain ⟨⟨⟨i, g, h1, h1'⟩, h2, h3⟩, hT⟩ := h
    exact ⟨⟨⟨i, g, k _ _ h1 (.inl (r _ (.inl rfl))), h1'⟩, k _ _ h2 (.inl (r _ (.inr (.inl rfl)))), h3⟩, Tabs.keep (fun b o e m => k b o e (.inr m)) hT⟩
  up n m H h l := ⟨h.1.mono l, h.2⟩
section
variable {p a : Addr} {ns : List Int} {T : List (Addr × Str)} {kn : Hp} {n : Nat} {σ : L2.St} {Q : V → Hp → Nat → Prop} {E : XK} {EA : EAK} {B : List V → Hp → AK → AXK → Prop} {t : TA}
theorem w_draw (h : W (penC p a ns T) (t σ) kn n fun vs kn1 n1 => ∃ many, vs = [.ref p, .int many] ∧ n1 < 1000000 ∧ 0 < many ∧ many < 1180591620717411303424 ∧ ∀ k : Int, 0 ≤ k → k < many → Q (.int k) kn1 (n1 + 1)) : W (penC p a ns T) (tCall spDraw [] E t σ) kn n Q :=
  fun H g Q' q => h H g _ fun vs kn1 n1 H1 h1 g1 => by
    obtain ⟨many, rfl, b1, b2, b3, h2⟩ := h1
    refine ⟨p, a, ns, n1, many, rfl, g1.inv.1, b1, b2, b3, fun k H' k0 k1 hp hk => q _ _ _ _ (h2 k k0 k1) ⟨fun x o e => hk x o (fun z => ?_) (g1.ex x o e), ⟨hp, Tabs.keep (fun b o e m => hk b o (fun z => ?_) e) g1.inv.2⟩, g1.res, g1.nt⟩⟩
    · have := g1.res x (.inl z)
      rw [e] at this
      cases this
    · obtain ⟨i, g, hP, _⟩ := g1.inv.1.pen
      rw [z, hP] at e
      cases e
      cases m
/-- a promise of a def that draws m times at most -/
def liftP (T : List (Addr × Str)) (m : Nat) (B : List V → Hp → AK → AXK → Prop) : Sp := fun vs H Q E => ∃ p a ns n kn ws, vs = .ref p :: ws ∧ Good (penC p a ns T) kn n H ∧ n + m < 1000000 ∧
  B ws kn (fun v k => ∀ H', Good (penC p a ns T) k (n + m) H' → Q v H') (fun cls d k => ∀ H', Good (penC p a ns T) k (n + m) H' → E cls d H')
theorem w_callP {m : Nat} (hm : MonoX B) (hE : ErrOk (penC p a ns T) EA E) (h : W (penC p a ns T) (t σ) kn n fun vs kn1 n1 => ∃ ws, vs = .ref p :: ws ∧ n1 + m < 1000000 ∧ B ws kn1 (fun v k => Q v k (n1 + m)) (fun cls d k => EA cls d k (n1 + m))) : W (penC p a ns T) (tCall (liftP T m B) [] E t σ) kn n Q :=
  fun H g Q' q => h H g _ fun vs kn1 n1 H1 h1 g1 => by
    obtain ⟨ws, rfl, hb, h2⟩ := h1
    refine ⟨p, a, ns, n1, kn1, ws, by simp, g1, hb, hm _ _ _ _ _ _ (fun v k hq H' g' => q _ _ _ _ hq g') (fun cls d k hq H' g' => hE _ _ _ _ _ hq g') h2⟩
theorem takes_len {X : Cx} {W : WX} {m : Nat} (tk : L2.Takes X W) (h : X.N.length = m := by rfl) : L2.Takes X (fun cls d σ H => σ.length = m → W cls d σ H) :=
  fun u s' ⟨a, B, sI, pins, σ, H, cls, d, e, I, nb, up, sky, na, os, ag, w⟩ => tk u s' ⟨a, B, sI, pins, σ, H, cls, d, e, I, nb, up, sky, na, os, ag, w (I.len.trans h)⟩
/-- the abstract meaning of def heard(ask): [what was found], or (.., the error's field) -/
def EAh (B : Addr) (word : Str) (Q : V → Hp → Nat → Prop) : EAK := fun cls d kn n => cls = .ref B ∧ ∃ dd fs y, d = some dd ∧ kn dd = some (.xd fs) ∧ fs.lookup ("part" : Str) = some y ∧
  ∀ q kn2, Ext kn kn2 → kn q = none → kn2 q = some (.tup [.str word, y]) → Q (.ref q) kn2 n
def TTh (B : Addr) (word : Str) : (XK → Hp → VK → Prop) → Hp → VK → Prop := fun tl H Q => ∃ (c : Cw) (kn : Hp) (n : Nat) (QA : V → Hp → Nat → Prop), Good c kn n H ∧ (∀ v kn' n' H', QA v kn' n' → Good c kn' n' H' → Q v H') ∧
  ∀ E, ErrOk c (EAh B word QA) E → W c (fun H' Q' => tl E H' Q') kn n fun v kn1 n1 => ∀ q, kn1 q = none → QA (.ref q) (upd kn1 q (.lst [v])) n1
theorem good_lam {H H1 : Hp} (g : Good (penC p a ns T) kn n H) (e : ExtN H H1) (hT : Tabs T H1) : Good (penC p a ns T) kn n H1 := by
  obtain ⟨⟨⟨i, k, h1, h1'⟩, h2, h3⟩, _⟩ := g.inv
  refine ⟨fun x o hx => e x o (g.ex x o hx) (fun ps z => ?_), ⟨⟨⟨i, k, e _ _ h1 (fun _ z => nomatch z), h1'⟩, e _ _ h2 (fun _ z => nomatch z), h3⟩, hT⟩, g.res, g.nt⟩
  have := g.nt x o hx
  rw [z] at this
  cases this
theorem w_lam {B : Addr} {word : Str} {tt : XK → TE}
    (h : ∀ E, ErrOk (penC p a ns T) (EAh B word Q) E → W (penC p a ns T) (tt E σ) kn n fun v kn1 n1 => ∀ q, kn1 q = none → Q (.ref q) (upd kn1 q (.lst [v])) n1) : W (penC p a ns T) (tLam T (TTh B word) tt σ) kn n Q :=
  fun H g Q' q => ⟨g.inv.2, fun H1 e hT => ⟨penC p a ns T, kn, n, Q, good_lam g e hT, q, h⟩⟩
theorem fin_at {c : Cw} {kn : Hp} {n m : Nat} {P : Hp → Prop} (le : n ≤ m) (f : ∀ H', Good c kn m H' → P H') : ∀ H', Good c kn n H' → P H' := fun H' g => f H' (g.up le)
end
end AW

/-! Built-in types as right operands of own operators. -/
namespace L2
open PySem PySem.Spec PyProof.Rows
section
variable {K : PySem.W.Frag} {C : Addr}
theorem ot_int_shr (h : PySem.W.subIn K (.type "int") (.ref C) = some false) : OpT K .RShift C (.type "int") := .ty (r := true) (o := some (.builtin "int.__rrshift__")) (by first | rfl | kernel_rfl) h (by rw [typeLookup_type, builtinLookup_eq_fast]; kernel_rfl)
theorem ot_int_shl (h : PySem.W.subIn K (.type "int") (.ref C) = some false) : OpT K .LShift C (.type "int") := .ty (r := true) (o := some (.builtin "int.__rlshift__")) (by first | rfl | kernel_rfl) h (by rw [typeLookup_type, builtinLookup_eq_fast]; kernel_rfl)
theorem ot_int_div (h : PySem.W.subIn K (.type "int") (.ref C) = some false) : OpT K .FloorDiv C (.type "int") := .ty (r := true) (o := some (.builtin "int.__rfloordiv__")) (by first | rfl | kernel_rfl) h (by rw [typeLookup_type, builtinLookup_eq_fast]; kernel_rfl)
theorem ot_bool_div (h : PySem.W.subIn K (.type "bool") (.ref C) = some false) : OpT K .FloorDiv C (.type "bool") := .ty (r := true) (o := some (.builtin "int.__rfloordiv__")) (by first | rfl | kernel_rfl) h (by rw [typeLookup_type, builtinLookup_eq_fast]; kernel_rfl)
theorem ot_none_div (h : PySem.W.subIn K (.type "NoneType") (.ref C) = some false) : OpT K .FloorDiv C (.type "NoneType") := .ty (r := false) (o := none) (by first | rfl | kernel_rfl) h (by rw [typeLookup_type, builtinLookup_eq_fast]; kernel_rfl)
theorem ot_str_div (h : PySem.W.subIn K (.type "str") (.ref C) = some false) : OpT K .FloorDiv C (.type "str") := .ty (r := false) (o := none) (by first | rfl | kernel_rfl) h (by rw [typeLookup_type, builtinLookup_eq_fast]; kernel_rfl)
theorem ot_tuple_div (h : PySem.W.subIn K (.type "tuple") (.ref C) = some false) : OpT K .FloorDiv C (.type "tuple") := .ty (r := false) (o := none) (by first | rfl | kernel_rfl) h (by rw [typeLookup_type, builtinLookup_eq_fast]; kernel_rfl)
theorem ot_list_div (h : PySem.W.subIn K (.type "list") (.ref C) = some false) : OpT K .FloorDiv C (.type "list") := .ty (r := false) (o := none) (by first | rfl | kernel_rfl) h (by rw [typeLookup_type, builtinLookup_eq_fast]; kernel_rfl)
theorem ot_dict_div (h : PySem.W.subIn K (.type "dict") (.ref C) = some false) : OpT K .FloorDiv C (.type "dict") := .ty (r := false) (o := none) (by first | rfl | kernel_rfl) h (by rw [typeLookup_type, builtinLookup_eq_fast]; kernel_rfl)
end
end L2

/-! iter(t) of a tuple; list(o), o of an own class whose __iter__ gives that, with a __len__ of its own. -/
namespace L2
open PySem PySem.Spec PyProof.Rows
def TitO (t it : Addr) : HO := .ext fun h => h.IsTupleIter it t 0
theorem titO_ok {P : Program} {w : World} {H : Hp} {h : Heap} {t it : Addr} (e : h.IsTupleIter it t 0) : ObjOk P w H h it (TitO t it) := ⟨e, (let ⟨o, ho, _⟩ := e; ⟨o, ho⟩), fun h1 h2 q k => let ⟨o, ho, r⟩ := q; ⟨o, k _ ho, r⟩⟩
def rIterT (K : PySem.W.Frag) : List V → Hp → VK → Prop := fun xs H Q => ∃ (t : Addr) (zs : List V), xs = [.ref t] ∧ SqT K H t zs ∧ ∀ it, H it = none → Q (.ref it) (upd H it (TitO t it))
section
variable {X : Cx}
theorem c_iterT : CallR X (.builtin "iter") (rIterT X.K) := by
  intro pins s σ H xs us Q I r h
  obtain ⟨t, zs, rfl, hq, q⟩ := h
  obtain ⟨u, rfl, rx⟩ := vals1 r
  cases (show u = Value.ref t from rx)
  obtain ⟨its, rv, pl, hz⟩ := I.tuple hq
  refine Calls.call_function_entry (by decide +kernel) (by decide +kernel) PySem.W.kdk_entry_iter (PySem.W.kdk_args_iter _) ?_
  unfold Builtin.«iter»
  refine wpAny_bind (m := someArgs "iter" 1 2 _) (wpAny_of_eq (a := [Value.ref t]) (by first | rfl | kernel_rfl!) ?_)
  show wpAny _ _ (pyIter (.ref t) >>= _) _ _ _
  refine wpAny_bind (wpAny_pyIter_tuple pl ?_)
  refine wpAny_pure ⟨_, rfl, ?_⟩
  exact ⟨.ref s.heap.objs.size, _, I.laid (t' := s.toks) (fun b u e => Heap.get?_push_of_some _ e) (Nat.le_refl _) (titO_ok ⟨_, Heap.get?_push_size _ rfl, rfl, rfl⟩), rfl, q _ (I.hok.fresh (Nat.le_refl _))⟩
/-- the promise of such an __iter__ -/
def spIterT (C : Addr) (f : Str) : Sp := fun vs H Q _ => ∃ a dx fs t zs, vs = [.ref a] ∧ H a = some (.ins C dx fs) ∧ fs.lookup f = some (.ref t) ∧ H t = some (.tup zs) ∧ ∀ it, H it = none → Q (.ref it) (upd H it (TitO t it))
variable {kI kL n : Nat} {C fI fL S a t : Addr} {fdI fdL : FuncData} {psI psL : List Str} {spL : Sp} {f : Str} {A1 : Around} {pins : List (Addr × Obj)} {σ : St} {HA : Hp} {sA : Shared} {dx : Addr} {fs : List (Str × V)} {zs : List V} {Rs : Result → Shared → Prop}
/-- what the own __len__ answers, wherever more is known -/
def TellsLen (spL : Sp) (a : Addr) (H : Hp) (n : Nat) : Prop := ∀ H', (∀ b o, H b = some o → H' b = some o) → spL [.ref a] H' (fun v H2 => v = .int (n : Int) ∧ ∀ b o, H' b = some o → H2 b = some o) (fun _ _ _ => False)
theorem lot_hint {Q : Bool → Shared → Prop} {E : Value → Shared → Prop} {H : Hp} {s : Shared} (ML : SpM X.K C fL "__len__") (FL : FnOk X.prog X.w X.K X.mg X.base CX0 kL fL fdL psL spL) (bL : Binds X.K fdL psL []) (hr : Room (kL + 1) A1) (hfr : A1.frames = X.A.frames)
    (I : Inv X pins σ H s) (ha : H a = some (.ins C dx fs)) (hz : n ≤ 1000) (hL : TellsLen spL a H n)
    (q : ∀ k s' H', Inv X pins σ H' s' → Un (frs X.stack) [] H H' s.heap s'.heap → s'.os = s.os → (∀ b o, H b = some o → H' b = some o) → Q k s') : wpAny (model X.prog X.w) A1 (Builtin.List.listLengthHint (.ref a)) Q E s := by
  obtain ⟨mA, J, _⟩ := ins_get I.hok ha
  obtain ⟨od, J, _⟩ := J.look
  obtain ⟨m0, hF⟩ := I.fr
  unfold Builtin.List.listLengthHint
  refine wpAny_bind (wpAny_bind (J.type.here ((PySem.W.looks_findIn I.kIn ML.hs).here ?_)))
  refine PySem.W.KFB.if_not rfl ?_
  dsimp only
  refine wpAny_ite_split (fun _ => ?_) (fun z => absurd rfl z)
  refine wpAny_bind (wpAny_rule ?_)
  have e0 : Env0 X.prog X.w X.K X.mg X.base A1.in1 X.stack s H := by
    have e := I.env0
    exact ⟨hfr.trans e.frames, e.mod, e.bs, e.bsz, e.funs, e.frf, e.hok, e.bare⟩
  have r2 : Vals [V.ref a] [Value.ref a] := .cons rfl .nil
  have hsp := hL H fun _ _ z => z
  have hlen := FL.len _ _ _ _ hsp
  refine wpAny_bind (wpAny_attempt (PySem.W.len_K hF I.ok.mod.kin J ML.hs ML.hf (wpAny_call (codeAny_mono (FL.run A1.in1 X.stack s H ⟨[.ref a], []⟩ [.ref a] [.ref a] _ _ hr.in1 e0 (by
    have := bL s [.ref a] I.kIn (by simpa using hlen)
    simpa using this) r2 hsp) fun r s1 hq1 => ?_))))
  cases r with
  | error e => exact hq1.elim
  | ok fl =>
    cases fl with
    | next => exact False.elim hq1
    | brk => exact False.elim hq1
    | cont => exact False.elim hq1
    | ret u =>
      obtain ⟨v, H1, os1, bare1, un1, hok1, rv, ev, ex1⟩ := (show CE _ _ _ _ _ _ _ _ from hq1)
      subst ev
      obtain ⟨tk, rfl⟩ := (show ∃ tk, u = Value.int (n : Int) tk from rv)
      obtain ⟨h1, g1, d1, t1, o1⟩ := s1
      cases (show o1 = s.os from os1)
      have I1 : Inv X pins σ H1 _ := I.call (h' := h1) (g' := g1) (d' := d1) (t' := t1 + 1) (ch := []) un1 hok1 bare1 (fun b z => absurd z (by simp))
      refine ⟨⟨Int.natCast_nonneg _, by omega⟩, ?_⟩
      refine wpAny_bind (m := asInt? (.int (n : Int) _)) (wpAny_pure ?_)
      dsimp only
      have small : Builtin.List.listTooLong ((n : Int)).toNat = false := by
        rw [Int.toNat_natCast]
        unfold Builtin.List.listTooLong
        exact decide_eq_false (by rw [sizeLine_eq]; omega)
      refine PySem.W.KFB.if_not small ?_
      exact wpAny_pure (q _ _ H1 I1 un1 rfl ex1)
theorem items_same {its : List Value} {acc : Array Value} (h : ItemsOf (fun i v => its.toArray[i]? = some v) acc its.toArray.size) : acc.toList = its := by
  refine List.ext_getElem? fun j => ?_
  have h1 : acc.size = its.length := h.1.trans List.size_toArray
  cases e : acc[j]? with
  | some u =>
    have q : its.toArray[j]? = some u := h.2 j u e
    rw [List.getElem?_toArray] at q
    rw [Array.getElem?_toList, e, q]
  | none =>
    have l : acc.size ≤ j := Array.getElem?_eq_none_iff.mp e
    rw [Array.getElem?_toList, e, List.getElem?_eq_none (by omega)]
theorem lot_extend (MI : SpM X.K C fI "__iter__") (FI : FnOk X.prog X.w X.K X.mg X.base CX0 kI fI fdI psI (spIterT C f)) (bI : Binds X.K fdI psI []) (ML : SpM X.K C fL "__len__") (FL : FnOk X.prog X.w X.K X.mg X.base CX0 kL fL fdL psL spL) (bL : Binds X.K fdL psL [])
    (rI : Room kI A1.in1) (rL : Room (kL + 1) A1.in1) (hfr : A1.in1.frames = X.A.frames) (IA : Inv X pins σ HA sA) (ha : HA a = some (.ins C dx fs)) (hl : fs.lookup f = some (.ref t)) (ht : HA t = some (.tup zs)) (hz : zs.length ≤ 1000)
    (hL : TellsLen spL a HA zs.length) (hS : HA S = some (.lst [])) (hdone : ∀ s5 H5, Inv X pins σ H5 s5 → (∀ b o, b ≠ S → HA b = some o → H5 b = some o) → H5 S = some (.lst zs) → Rs (.ok (.ret .none)) s5) :
    wpAny (model X.prog X.w) A1.in1 (Builtin.List.listExtendWith (.ref S) (.ref a) .none)
      (fun fin s' => match fin with | .done g => Rs (.ok g) s' | .again cd => cd.quiet = true ∧ codeAny (model X.prog X.w) A1 cd Rs s') (fun e s' => Rs (.error e) s') sA := by
  have neq : S ≠ a := fun z => by rw [z, ha] at hS; cases hS
  obtain ⟨mA, J, _⟩ := ins_get IA.hok ha
  obtain ⟨od, J, _⟩ := J.look
  obtain ⟨m0, hF⟩ := IA.fr
  unfold Builtin.List.listExtendWith
  refine wpAny_bind (J.type.here ?_)
  have z1 : Builtin.List.listSameRef (.ref S) (.ref a) = false := by simp [Builtin.List.listSameRef, neq]
  have z2 : ((Value.ref C) == (Value.type "list")) = false := rfl
  have z3 : ((Value.ref C) == (Value.type "tuple")) = false := rfl
  simp only [z1, z2, z3, Bool.or_false, Bool.false_eq_true, if_false]
  refine wpAny_bind (PySem.W.owit_iter hF IA.ok.mod.kin J MI.hs MI.hf ?_)
  have e0 : Env0 X.prog X.w X.K X.mg X.base A1.in1 X.stack sA HA := by
    have e := IA.env0
    exact ⟨hfr.trans e.frames, e.mod, e.bs, e.bsz, e.funs, e.frf, e.hok, e.bare⟩
  have rv0 : Vals [V.ref a] [Value.ref a] := .cons rfl .nil
  have hsp : spIterT C f [.ref a] HA (fun v H' => ∃ it, HA it = none ∧ v = .ref it ∧ H' = upd HA it (TitO t it)) (fun _ _ _ => False) := ⟨a, dx, fs, t, zs, rfl, ha, hl, ht, fun it hi => ⟨it, hi, rfl, rfl⟩⟩
  have hlen := FI.len _ _ _ _ hsp
  refine wpAny_call (codeAny_mono (FI.run A1.in1 X.stack sA HA ⟨[.ref a], []⟩ [.ref a] [.ref a] _ _ rI e0 (by
    have z := bI sA [.ref a] IA.kIn (by simpa using hlen)
    simpa using z) rv0 hsp) fun r s1 hr1 => ?_)
  cases r with
  | error e => exact hr1.elim
  | ok fl =>
    cases fl with
    | next => exact False.elim hr1
    | brk => exact False.elim hr1
    | cont => exact False.elim hr1
    | ret u =>
      obtain ⟨v, H1, os1, bare1, un1, hok1, rv, it, hit, ev, eH⟩ := (show CE _ _ _ _ _ _ _ _ from hr1)
      subst ev
      subst eH
      cases (show u = Value.ref it from rv)
      obtain ⟨h1, g1, d1, t1, o1⟩ := s1
      cases (show o1 = sA.os from os1)
      have I1 : Inv X pins σ (upd HA it (TitO t it)) _ := IA.call (h' := h1) (g' := g1) (d' := d1) (t' := t1) (ch := []) un1 hok1 bare1 (fun b z => absurd z (by simp))
      have ex1 : ∀ b o, HA b = some o → upd HA it (TitO t it) b = some o := fun b o e => by rw [upd_ne (ne_of_none e hit)]; exact e
      have ti1 : h1.IsTupleIter it t 0 := (hok1 it _ upd_same).1
      show PySem.W.OwitIt _ _ _ _ _ _
      unfold PySem.W.OwitIt
      refine wpAny_specialOf (name := Str.ofString "__next__") (s := ⟨h1, g1, d1, t1, sA.os⟩) ti1.typeIs PySem.F.slot_tuple_iterator_next.lookup ?_
      dsimp only
      refine wpAny_bind (wpAny_holding (lot_hint ML FL bL rL hfr I1 (ex1 _ _ ha) hz (fun H' e => hL H' fun b o z => e b o (ex1 b o z)) fun k s2 H2 I2 un2 os2 ex2 => ?_))
      have nSi : S ≠ it := ne_of_none hS hit
      have hS2 : H2 S = some (.lst []) := ex2 _ _ (ex1 _ _ hS)
      have hT2 : H2 it = some (TitO t it) := ex2 _ _ upd_same
      have ht2 : H2 t = some (.tup zs) := ex2 _ _ (ex1 _ _ ht)
      obtain ⟨its, rvs, pl, hzz⟩ := I2.tuple (.inl (.inl ht2))
      have nti : t ≠ it := ne_of_none ht hit
      have nSt : S ≠ t := fun z => by rw [z, ht] at hS; cases hS
      have hzl := rvs.length
      have un12 : Un (frs X.stack) [] HA H2 sA.heap s2.heap := un1.trans un2
      have nit : sA.heap.get? it = none := by
        cases z : sA.heap.get? it with
        | none => rfl
        | some o =>
          have := un1.free it o z hit (by simp)
          rw [upd_same] at this
          cases this
      have loop : ∀ (s4 : Shared) (c4 : Nat), (∀ b o, b ≠ S → s2.heap.get? b = some o → s4.heap.get? b = some o) → s4.heap.get? S = some { cls := .type "list", dict := none, data := .seq #[] c4, slots := #[] } → s4.gens = s2.gens → s4.os = s2.os →
          codeAny (model X.prog X.w) A1 (.builtin "list.extend.loop" ⟨[.ref S, .ref it, .none], []⟩) Rs s4 := by
        intro s4 c4 k4 e4 q4 o4
        have hh : A1.in1.handled = none := rI.hd
        have W := (Walks.tuple (prog := X.prog) (w := X.w) (A := A1.in1) hh it t nti its.toArray).toS
        have st0 : s4.heap.IsTupleIter it t 0 ∧ s4.heap.IsTuple t its.toArray := by
          refine ⟨?_, ?_⟩
          · obtain ⟨o, ho, r⟩ := (I2.hok it _ hT2).1
            exact ⟨o, k4 _ _ (Ne.symm nSi) ho, r⟩
          · obtain ⟨o, ho, r⟩ := pl
            exact ⟨o, k4 _ _ (Ne.symm nSt) ho, r⟩
        refine codeAny_extend_loopS W (by rw [List.size_toArray, sizeLine_eq]; omega) S (by simp [nSi, nSt]) .none _ 0 s4 #[] c4 rfl (Nat.zero_le _) st0 e4 (ItemsOf.nil _) fun s5 acc c5 mv e5 hacc => ?_
        have eacc : acc.toList = its := items_same hacc
        have k5 : ∀ b o, b ≠ S → b ≠ it → s2.heap.get? b = some o → s5.heap.get? b = some o := fun b o n1 n2 e => mv.heap b o (by simp [n1, n2]) (k4 b o n1 e)
        have un5 : Un (frs X.stack) [] HA (upd (del H2 it) S (.lst zs)) sA.heap s5.heap := by
          have nS : ∀ b, HA b = none → b ≠ S := fun b n z => by rw [z, hS] at n; cases n
          have nI : ∀ b o, sA.heap.get? b = some o → b ≠ it := fun b o e z => by rw [z, nit] at e; cases e
          have old : ∀ b y, HA b = some y → (∀ xs, y ≠ .lst xs) → upd (del H2 it) S (.lst zs) b = some y := fun b y e n => by
            rw [upd_ne (fun z => by rw [z, hS] at e; cases e; exact n _ rfl), del_ne (ne_of_none e hit)]
            exact ex2 _ _ (ex1 _ _ e)
          refine ⟨fun b o e n hb hx => k5 b o (nS b n) (nI b o e) (un12.keep b o e n hb hx), fun b o e n hb hx => ?_, fun b o e n hx => ?_, fun b o e hx => ?_, fun b xs e => old b _ e (fun _ z => nomatch z), fun b o y e => old b _ e (fun _ z => nomatch z), fun b ps e => ⟨#[], ?_⟩⟩
          · obtain ⟨sl, e'⟩ := un12.slot b o e n hb hx
            exact ⟨sl, k5 b _ (nS b n) (nI b o e) e'⟩
          · rw [upd_ne (nS b n), del_ne (nI b o e)]; exact un12.free b o e n hx
          · by_cases z : b = S
            · rw [z]; exact ⟨_, e5⟩
            · obtain ⟨o', e'⟩ := un12.there b o e hx
              exact ⟨o', k5 b o' z (nI b o e) e'⟩
          · rw [old b _ e (fun _ z => nomatch z)]; simp
        have hok5 : HOk X.prog X.w (upd (del H2 it) S (.lst zs)) s5.heap := fun b y e => by
          by_cases z : b = S
          · rw [z, upd_same] at e
            cases e
            rw [z]
            refine ⟨by rw [sizeLine_eq]; omega, its, c5, rvs, ?_⟩
            rw [← eacc, Array.toArray_toList]
            exact e5
          · rw [upd_ne z] at e
            have n2 : b ≠ it := fun w => by rw [w, del_same] at e; cases e
            rw [del_ne n2] at e
            have same : ∀ c y, H2 c = some y → (∀ xs, y ≠ .lst xs) → (∀ g, y ≠ .ext g) → upd (del H2 it) S (.lst zs) c = some y := fun c y e n m => by
              rw [upd_ne (fun z => by rw [z, hS2] at e; cases e; exact n _ rfl), del_ne (fun z => by rw [z, hT2] at e; cases e; exact m _ rfl)]
              exact e
            refine (I2.hok b y e).stay (fun c x hc q => k5 c x ?_ ?_ q) (fun c q => same c _ q (fun _ w => nomatch w) (fun _ w => nomatch w)) fun c xs q => same c _ q (fun _ w => nomatch w) (fun _ w => nomatch w)
            · rcases hc with hc | hc
              · rw [hc]; exact z
              · exact fun w => by rw [w, hS2] at hc; cases hc
            · rcases hc with hc | hc
              · rw [hc]; exact n2
              · exact fun w => by rw [w, hT2] at hc; cases hc
        obtain ⟨h5, g5, d5, t5, o5⟩ := s5
        have bare5 : AllBare g5 := by
          have : g5 = s4.gens := mv.gens
          rw [this, q4]
          exact I2.bare
        cases (show o5 = sA.os from (mv.os.trans o4).trans os2)
        refine hdone _ _ (IA.call (h' := h5) (g' := g5) (d' := d5) (t' := t5) (ch := []) un5 hok5 bare5 (fun b z => absurd z (by simp))) (fun b o nb e => ?_) upd_same
        rw [upd_ne nb, del_ne (ne_of_none e hit)]
        exact ex2 _ _ (ex1 _ _ e)
      obtain ⟨z4, its4, k4, r4, hl4, e4⟩ := I2.lstM hS2
      cases r4
      refine wpAny_ite_split (fun _ => ?_) (fun _ => wpAny_pure ⟨plainId_quiet PySem.F.plain_extend_loop _, loop s2 k4 (fun _ _ _ e => e) e4 rfl rfl⟩)
      refine wpAny_bind (wpAny_rule (wpAny_bind ?_))
      show wpAny _ _ (updateSeq S (·.push .none) >>= fun _ => updateSeq S (·.pop)) _ _ _
      refine wpAny_bind (wpAny_updateSeq e4 rfl ?_)
      have q1 := PySem.IsL.update e4 (·.push Value.none)
      refine wpAny_updateSeq q1 rfl ?_ (by show 1 ≤ sizeLine; rw [sizeLine_eq]; decide) (by show 0 ≤ sizeLine + 1; exact Nat.zero_le _)
      have q2 := PySem.IsL.update q1 (·.pop)
      refine wpAny_pure ⟨plainId_quiet PySem.F.plain_extend_loop _, loop _ _ (fun b o nb e => ?_) q2 rfl rfl⟩
      exact (Heap.get?_update_other _ _ (Ne.symm nb)).trans ((Heap.get?_update_other _ _ (Ne.symm nb)).trans e)
/-- list(o) -/
def rListOT (C : Addr) (f : Str) (spL : Sp) : List V → Hp → VK → Prop := fun xs H Q => ∃ a dx fs t zs, xs = [.ref a] ∧ H a = some (.ins C dx fs) ∧ fs.lookup f = some (.ref t) ∧ H t = some (.tup zs) ∧ zs.length ≤ 1000 ∧ TellsLen spL a H zs.length ∧
  ∀ q H', H q = none → (∀ b o, H b = some o → H' b = some o) → H' q = some (.lst zs) → Q (.ref q) H'
theorem c_listOT (MI : SpM X.K C fI "__iter__") (FI : FnOk X.prog X.w X.K X.mg X.base CX0 kI fI fdI psI (spIterT C f)) (bI : Binds X.K fdI psI []) (ML : SpM X.K C fL "__len__") (FL : FnOk X.prog X.w X.K X.mg X.base CX0 kL fL fdL psL spL) (bL : Binds X.K fdL psL [])
    (rI : Room (kI + 2) X.A) (rL : Room (kL + 3) X.A) : CallR X (.type "list") (rListOT C f spL) := by
  intro pins s σ H xs us Q I rv h
  obtain ⟨a, dx, fs, t, zs, rfl, ha, hl, ht, hz, hL, hq⟩ := h
  obtain ⟨u, rfl, ru⟩ := vals1 rv
  cases (show u = Value.ref a from ru)
  refine callType_codes (Q₁ := fun ob z => ob = .ref s.heap.objs.size ∧ z = { s with heap := s.heap.push { cls := .type "list", data := .seq #[] } })
    PySem.F.called_list (PySem.F.typeCall_list_1 _) PySem.F.entry_list_init (code_list_new _ ⟨rfl, rfl⟩) fun ob z hoz => ?_
  obtain ⟨rfl, rfl⟩ := hoz
  have gS : (s.heap.push { cls := .type "list", data := .seq #[] }).get? s.heap.objs.size = some { cls := .type "list", data := .seq #[] } := Heap.get?_push_size _ rfl
  refine ⟨⟨_, gS, rfl⟩, PySem.F.args_list_init_2 _ _, ?_⟩
  have nS : H s.heap.objs.size = none := I.hok.fresh (Nat.le_refl _)
  have J1 : Inv X pins σ (upd H s.heap.objs.size (.lst [])) { s with heap := s.heap.push { cls := .type "list", data := .seq #[] } } := I.lnew (its := []) (t' := s.toks) .nil (Nat.zero_le _)
  show wpAny _ _ (do
    let old ← Builtin.List.listItems (.ref s.heap.objs.size)
    Builtin.List.listUpdate (.ref s.heap.objs.size) (fun _ => #[])
    letGo old.toList.reverse
    Builtin.List.listExtendWith (.ref s.heap.objs.size) (.ref a) .none) _ _ _
  refine wpAny_bind ?_
  unfold Builtin.List.listItems
  refine wpAny_bind (wpAny_seqItems gS rfl (wpAny_pure ?_))
  show wpAny _ _ (updateSeq s.heap.objs.size (fun _ => #[]) >>= fun _ =>
    letGo (#[] : Array Value).toList.reverse >>= fun _ =>
    Builtin.List.listExtendWith (.ref s.heap.objs.size) (.ref a) .none) _ _ _
  refine wpAny_bind (wpAny_updateSeq gS rfl ?_)
  have J2 := J1.lset (f := fun _ => #[]) (its := []) (its' := []) (ys := []) (t' := s.toks) upd_same gS rfl .nil (Nat.zero_le _)
  rw [upd_upd] at J2
  refine wpAny_bind (wpAny_letGo ?_)
  have old : ∀ b o, H b = some o → upd H s.heap.objs.size (.lst []) b = some o := fun b o e => by rw [upd_ne (ne_of_none e nS)]; exact e
  exact lot_extend (A1 := X.A.in1) (Rs := wants (fun r z => r = .none ∧ EP X pins σ Q (.ref s.heap.objs.size) z) X.xe) MI FI bI ML FL bL (Room.in1 (Room.in1 rI)) (Room.in1 (Room.in1 rL)) rfl J2 (old _ _ ha) hl (old _ _ ht) hz
    (fun H' e => hL H' fun b o z => e b o (old b o z)) upd_same
    (fun s5 H5 I5 e5 q5 => ⟨rfl, .ref s.heap.objs.size, H5, I5, rfl, hq _ H5 nS (fun b o z => e5 b o (ne_of_none z nS) (old b o z)) q5⟩)
end
end L2

/-! for x in o, o of an own class whose __iter__ gives iter(t), t a tuple of its: the iterator is young. -/
namespace L2
open PySem PySem.Spec PyProof.Rows
/-- a promise that may tell the heap's size at the entry -/
structure FnN (P : Program) (w : World) (K : PySem.W.Frag) (mg : Str → Option Value) (base : Heap) (CX : CXT) (k : Nat) (f : Addr) (fd : FuncData) (ps : List Str) (sp : Nat → Sp) : Prop where
  len : ∀ n vs H Q E, sp n vs H Q E → vs.length = ps.length
  run : ∀ (A : Around) (outer : List Env) (s : Shared) (H : Hp) (args : Args) (us : List Value) (vs : List V) (Q : VK) (E : XK), Room k A → Env0 P w K mg base A outer s H → BindsTo s fd args (ps.zip us) → Vals vs us → sp s.heap.objs.size vs H Q E →
    codeAny (model P w) A (.call (.ref f) args) (CR CX outer P w H s Q E) s
theorem Fun.okN {P : Program} {w : World} {K : PySem.W.Frag} {mg : Str → Option Value} {base : Heap} {x qual : Str} {st : Stmt} {f : Addr} {fd : FuncData} {N ps : List Str} {k : Nat} {sp : Nat → Sp} (F : Fun K x qual st f fd) (S : FnScope N ps (defScope st)) (len : ∀ n vs H Q E, sp n vs H Q E → vs.length = ps.length)
    (hb : ∀ (cdv : Value) (A : Around) (outer : List Env) (s : Shared) (H : Hp) (vs : List V) (Q : VK) (E : XK), Room k (A.deeper (envOfC qual (defScope st) s.heap.objs.size f cdv)) → sp s.heap.objs.size vs H Q E →
      ∃ t, PSs (cxOf CX0 P w K mg base N qual (defScope st) f cdv A outer s H E).nox (defBody st) t ∧ t { nx := fun _ H' => Q .non H', rt := Q } (start N vs) H) : FnN P w K mg base CX0 (k + 1) f fd ps sp := by
  obtain ⟨oc, od, kV, doc, pm, an, cdv, ct, osl, rfl, lk, hcd⟩ := F.ex
  refine ⟨len, fun A outer s H args us vs Q E hr e0 hbd r hsp => LamX.run_ofS lk hcd S hr e0 hbd r (len _ _ _ _ _ hsp) fun hr' => ?_⟩
  obtain ⟨t, h, q⟩ := hb cdv A outer s H vs Q E hr' hsp
  exact ⟨t, h.nox, q⟩
def rIterTN (K : PySem.W.Frag) (n : Nat) : List V → Hp → VK → Prop := fun xs H Q => ∃ (t : Addr) (zs : List V), xs = [.ref t] ∧ SqT K H t zs ∧ ∀ it, H it = none → n ≤ it → Q (.ref it) (upd H it (TitO t it))
section
variable {X : Cx}
theorem c_iterTN : CallR X (.builtin "iter") (rIterTN X.K X.s_0.heap.objs.size) := by
  intro pins s σ H xs us Q I r h
  obtain ⟨t, zs, rfl, hq, q⟩ := h
  obtain ⟨u, rfl, rx⟩ := vals1 r
  cases (show u = Value.ref t from rx)
  obtain ⟨its, rv, pl, hz⟩ := I.tuple hq
  refine Calls.call_function_entry (by decide +kernel) (by decide +kernel) PySem.W.kdk_entry_iter (PySem.W.kdk_args_iter _) ?_
  unfold Builtin.«iter»
  refine wpAny_bind (m := someArgs "iter" 1 2 _) (wpAny_of_eq (a := [Value.ref t]) (by first | rfl | kernel_rfl!) ?_)
  show wpAny _ _ (pyIter (.ref t) >>= _) _ _ _
  refine wpAny_bind (wpAny_pyIter_tuple pl (wpAny_pure ⟨_, rfl, ?_⟩))
  exact ⟨.ref s.heap.objs.size, _, I.laid (t' := s.toks) (fun b u e => Heap.get?_push_of_some _ e) (Nat.le_refl _) (titO_ok ⟨_, Heap.get?_push_size _ rfl, rfl, rfl⟩), rfl, q _ (I.hok.fresh (Nat.le_refl _)) I.sz⟩
def spIterN (C : Addr) (f : Str) : Nat → Sp := fun n vs H Q _ => ∃ a dx fs t zs, vs = [.ref a] ∧ H a = some (.ins C dx fs) ∧ fs.lookup f = some (.ref t) ∧ H t = some (.tup zs) ∧ ∀ it, H it = none → n ≤ it → Q (.ref it) (upd H it (TitO t it))
theorem FnN.plain {P : Program} {w : World} {K : PySem.W.Frag} {mg : Str → Option Value} {base : Heap} {k : Nat} {f C : Addr} {fd : FuncData} {ps : List Str} {g : Str} (F : FnN P w K mg base CX0 k f fd ps (spIterN C g)) : FnOk P w K mg base CX0 k f fd ps (spIterT C g) :=
  ⟨fun vs H Q E h => F.len 0 vs H Q E (let ⟨a, dx, fs, t, zs, h1, h2, h3, h4, q⟩ := h; ⟨a, dx, fs, t, zs, h1, h2, h3, h4, fun it hi _ => q it hi⟩),
   fun A outer s H args us vs Q E hr e0 hb r h => F.run A outer s H args us vs Q E hr e0 hb r (let ⟨a, dx, fs, t, zs, h1, h2, h3, h4, q⟩ := h; ⟨a, dx, fs, t, zs, h1, h2, h3, h4, fun it hi _ => q it hi⟩)⟩
/-- for .. in e, e of such a class -/
def iOwnT (K : PySem.W.Frag) (C : Addr) (f : Str) (te : TE) : TI := fun σ H R => te σ H fun x H1 => ∃ a dx fs t zs, x = .ref a ∧ H1 a = some (.ins C dx fs) ∧ fs.lookup f = some (.ref t) ∧ H1 t = some (.tup zs) ∧ R (Itt K t) H1
variable {kI : Nat} {C fI : Addr} {fdI : FuncData} {psI : List Str} {f : Str} {e tg : Expr} {te : TE}
theorem pi_ownT (MI : SpM X.K C fI "__iter__") (FI : FnN X.prog X.w X.K X.mg X.base CX0 kI fI fdI psI (spIterN C f)) (bI : Binds X.K fdI psI []) (rI : Room kI X.A) (he : PE X e te) : PI X tg e (iOwnT X.K C f te) := by
  refine ⟨fun pins s σ H R I h => ?_⟩
  refine thn (he.run pins s σ H _ I h) fun v s0 ⟨x, HA, IA, rx, a, dx, fs, t, zs, ex, ha, hl, ht, q⟩ => ?_
  subst ex
  cases (show v = Value.ref a from rx)
  obtain ⟨mA, J, _⟩ := ins_get IA.hok ha
  obtain ⟨od, J, _⟩ := J.look
  obtain ⟨m0, hF⟩ := IA.fr
  refine PySem.W.owit_iter hF IA.ok.mod.kin J MI.hs MI.hf ?_
  have rv0 : Vals [V.ref a] [Value.ref a] := .cons rfl .nil
  have hsp : spIterN C f s0.heap.objs.size [.ref a] HA (fun v H' => ∃ it, HA it = none ∧ s0.heap.objs.size ≤ it ∧ v = .ref it ∧ H' = upd HA it (TitO t it)) (fun _ _ _ => False) := ⟨a, dx, fs, t, zs, rfl, ha, hl, ht, fun it hi hn => ⟨it, hi, hn, rfl, rfl⟩⟩
  have hlen := FI.len _ _ _ _ _ hsp
  refine wpAny_call (codeAny_mono (FI.run X.A X.stack s0 HA ⟨[.ref a], []⟩ [.ref a] [.ref a] _ _ rI IA.env0 (by
    have z := bI s0 [.ref a] IA.kIn (by simpa using hlen)
    simpa using z) rv0 hsp) fun r s1 hr1 => ?_)
  cases r with
  | error e => exact hr1.elim
  | ok fl =>
    cases fl with
    | next => exact False.elim hr1
    | brk => exact False.elim hr1
    | cont => exact False.elim hr1
    | ret u =>
      obtain ⟨v, H1, I1, rv, it, hit, hy, ev, eH⟩ := IA.after hr1
      subst ev
      subst eH
      cases (show u = Value.ref it from rv)
      have ti1 : s1.heap.IsTupleIter it t 0 := (I1.hok it _ upd_same).1
      show PySem.W.OwitIt _ _ _ _ _ _
      unfold PySem.W.OwitIt
      refine wpAny_specialOf (name := Str.ofString "__next__") ti1.typeIs PySem.F.slot_tuple_iterator_next.lookup ?_
      dsimp only
      have I2 := ItX.inv_drop I1 upd_same
      have fp := ItX.inv_fp I1 upd_same (Nat.le_trans IA.sz hy)
      rw [ItX.dropH_upd hit] at I2 fp
      exact ⟨it, [it], _, _, HA, rfl, I2, turn_tuple t it, ti1, fun b hb => by rw [List.mem_singleton.mp hb]; exact fp, q⟩
end
end L2

/-! Loops and comprehensions over what is known: lists, tuples, ranges, own classes. -/
namespace AW
open PySem PySem.Spec PyProof.Rows L2
/-- what an iterator gives, as long as ka holds -/
def Gives (J : It) (xs : List V) (ka : Hp → Prop) : Prop := ∀ kn H, Ext kn H → ka kn →
  (∀ i, i < xs.length → J.go i H) ∧ (∀ i, xs.length ≤ i → J.stop i H) ∧ ∀ i x H', J.yld i H x H' → H' = H ∧ (i < xs.length → xs[i]? = some x)
def WI (c : Cw) (wi : Hp → (It → Hp → Prop) → Prop) (kn : Hp) (n : Nat) (R : It → Hp → Nat → Prop) : Prop :=
  ∀ H, Good c kn n H → ∀ R' : It → Hp → Prop, (∀ J kn' n' H', R J kn' n' → Good c kn' n' H' → R' J H') → wi H R'
section
variable {K : PySem.W.Frag} {a : Addr} {xs : List V}
theorem gives_tup : Gives (Itt K a) xs fun kn => kn a = some (.tup xs) := fun kn H e h =>
  ⟨fun i hi => ⟨xs, xs[i], sqt (e _ _ h), List.getElem?_eq_getElem hi⟩, fun i hi => ⟨xs, sqt (e _ _ h), hi⟩, fun i x H' y => ⟨y.1, fun _ => y.2 xs (sqt (e _ _ h))⟩⟩
theorem gives_lst : Gives (Itl K a) xs fun kn => kn a = some (.lst xs) := fun kn H e h =>
  ⟨fun i hi => ⟨xs, xs[i], sql (e _ _ h), List.getElem?_eq_getElem hi⟩, fun i hi => ⟨xs, sql (e _ _ h), hi⟩, fun i x H' y => ⟨y.1, fun _ => y.2 xs (sql (e _ _ h))⟩⟩
theorem gives_rng {lo : Int} {m : Nat} : Gives (Itr lo m) ((List.range m).map fun i => V.int (lo + (i : Nat))) fun _ => True := fun kn H e h =>
  ⟨fun i hi => by rw [List.length_map, List.length_range] at hi; exact hi, fun i hi => by rw [List.length_map, List.length_range] at hi; exact hi,
   fun i x H' y => ⟨y.1, fun hi => by rw [List.length_map, List.length_range] at hi; rw [List.getElem?_map, List.getElem?_range hi, y.2]; rfl⟩⟩
variable {c : Cw} {kn : Hp} {n : Nat} {σ : L2.St} {R : It → Hp → Nat → Prop} {te : TE} {ta : TA}
theorem i_tup (h : W c (te σ) kn n fun x kn1 n1 => ∃ a xs, x = .ref a ∧ kn1 a = some (.tup xs) ∧ R (Itt K a) kn1 n1) : WI c (iTup K te σ) kn n R :=
  fun H g R' q => h H g _ fun x kn1 n1 H1 ⟨a, xs, e, ha, hr⟩ g1 => ⟨a, e, ⟨xs, sqt (g1.ex _ _ ha)⟩, q _ _ _ _ hr g1⟩
theorem i_list (h : W c (te σ) kn n fun x kn1 n1 => ∃ a xs, x = .ref a ∧ kn1 a = some (.lst xs) ∧ R (Itl K a) kn1 n1) : WI c (iList K te σ) kn n R :=
  fun H g R' q => h H g _ fun x kn1 n1 H1 ⟨a, xs, e, ha, hr⟩ g1 => ⟨a, e, ⟨xs, sql (g1.ex _ _ ha)⟩, q _ _ _ _ hr g1⟩
theorem i_rng1 (h : W c (ta σ) kn n fun vs kn1 n1 => ∃ j : Int, vs = [.int j] ∧ -(2 ^ 62) ≤ j ∧ j < 2 ^ 62 ∧ R (Itr 0 j.toNat) kn1 n1) : WI c (iRng1 ta σ) kn n R :=
  fun H g R' q => h H g _ fun vs kn1 n1 H1 ⟨j, e, b1, b2, hr⟩ g1 => ⟨j, e, b1, b2, q _ _ _ _ hr g1⟩
theorem i_rng2 (h : W c (ta σ) kn n fun vs kn1 n1 => ∃ i j : Int, vs = [.int i, .int j] ∧ (-(2 ^ 62) ≤ i ∧ i < 2 ^ 62 ∧ -(2 ^ 62) ≤ j ∧ j < 2 ^ 62) ∧ R (Itr i (j - i).toNat) kn1 n1) : WI c (iRng2 ta σ) kn n R :=
  fun H g R' q => h H g _ fun vs kn1 n1 H1 ⟨i, j, e, b, hr⟩ g1 => ⟨i, j, e, b, q _ _ _ _ hr g1⟩
theorem i_own {C : Addr} {f : Str} (h : W c (te σ) kn n fun x kn1 n1 => ∃ a dx fs t zs, x = .ref a ∧ kn1 a = some (.ins C dx fs) ∧ fs.lookup f = some (.ref t) ∧ kn1 t = some (.tup zs) ∧ R (Itt K t) kn1 n1) : WI c (iOwnT K C f te σ) kn n R :=
  fun H g R' q => h H g _ fun x kn1 n1 H1 ⟨a, dx, fs, t, zs, e, ha, hl, ht, hr⟩ g1 => ⟨a, dx, fs, t, zs, e, g1.ex _ _ ha, hl, g1.ex _ _ ht, q _ _ _ _ hr g1⟩
/-- a loop -/
theorem s_forJ {D : AE} {wi : TI} {gt : TG} {tb : TS}
    (h : WI c (wi σ) kn n fun J kn1 n1 => ∃ (xs : List V) (ka : Hp → Prop) (Pv : Nat → L2.St → Hp → Nat → Prop), Gives J xs ka ∧ Pv 0 σ kn1 n1 ∧ (∀ i σ' kn' n', Pv i σ' kn' n' → ka kn') ∧
      (∀ i x σ' kn' n', xs[i]? = some x → Pv i σ' kn' n' → WG c gt x σ' kn' n' fun σ2 kn2 n2 => WS c tb { D with nx := Pv (i + 1), ct := Pv (i + 1), bk := D.nx } σ2 kn2 n2) ∧
      ∀ σ' kn' n', Pv xs.length σ' kn' n' → D.nx σ' kn' n') : WS c (tFor wi gt tb) D σ kn n := by
  intro H g D' f
  refine h H g _ fun J kn1 n1 H1 hJ g1 => ?_
  obtain ⟨xs, ka, Pv, hG, h0, hk, hs, hd⟩ := hJ
  refine ⟨fun i m σ' H' => m = xs.length - i ∧ i ≤ xs.length ∧ ∃ kn' n', Pv i σ' kn' n' ∧ Good c kn' n' H', ⟨_, rfl, Nat.zero_le _, kn1, n1, h0, g1⟩, ?_⟩
  rintro i m σ' H' ⟨rfl, hi, kn', n', p, g'⟩
  obtain ⟨q1, q2, q3⟩ := hG kn' H' g'.ex (hk _ _ _ _ p)
  by_cases hlt : i < xs.length
  · refine .inr ⟨q1 i hlt, fun σ2 H2 => ∃ kn2 n2, Pv (i + 1) σ2 kn2 n2 ∧ Good c kn2 n2 H2, fun σ2 H2 ⟨kn2, n2, p2, g2⟩ => ⟨xs.length - (i + 1), by omega, rfl, hlt, kn2, n2, p2, g2⟩, fun x H2 y => ?_⟩
    obtain ⟨e, hx⟩ := q3 i x H2 y
    subst e
    refine hs i x σ' kn' n' (hx hlt) p H2 g' _ fun σ3 kn3 n3 H3 h3 g3 => h3 H3 g3 _ ⟨fun σ4 kn4 n4 H4 h4 g4 => ⟨kn4, n4, h4, g4⟩, f.rt, fun σ4 kn4 n4 H4 h4 g4 => f.nx _ _ _ _ h4 g4, fun σ4 kn4 n4 H4 h4 g4 => ⟨kn4, n4, h4, g4⟩⟩
  · have e : i = xs.length := Nat.le_antisymm hi (Nat.le_of_not_lt hlt)
    exact .inl ⟨q2 i (Nat.le_of_not_lt hlt), f.nx _ _ _ _ (hd σ' kn' n' (e ▸ p)) g'⟩
/-- a comprehension of a list -/
theorem w_lc {Q : V → Hp → Nat → Prop} {wi : TI} {gt : TG} {tt : TT} {vs : List Nat}
    (h : WI c (wi σ) kn n fun J kn1 n1 => ∃ (xs : List V) (ka : Hp → Prop) (Pv : Addr → Nat → List V → Hp → Nat → Prop), Gives J xs ka ∧ xs.length ≤ 100000 ∧ (∀ D, kn1 D = none → Pv D 0 [] (upd kn1 D (.lst [])) n1) ∧
      (∀ D i acc kn' n', Pv D i acc kn' n' → ka kn' ∧ kn' D = some (.lst acc) ∧ acc.length ≤ i) ∧
      (∀ D i acc x kn' n', xs[i]? = some x → Pv D i acc kn' n' → WG c gt x (wipe σ vs) kn' n' fun σ2 kn2 n2 => wipe σ2 vs = wipe σ vs ∧ W c (tt σ2) kn2 n2 fun b kn3 n3 =>
        (b = true → W c (te σ2) kn3 n3 fun y kn4 n4 => kn4 D = some (.lst acc) ∧ Pv D (i + 1) (acc ++ [y]) (upd kn4 D (.lst (acc ++ [y]))) n4) ∧ (b = false → Pv D (i + 1) acc kn3 n3)) ∧
      ∀ D acc kn' n', Pv D xs.length acc kn' n' → Q (.ref D) kn' n') : W c (tLc wi gt tt te vs σ) kn n Q := by
  intro H g Q' q
  refine h H g _ fun J kn1 n1 H1 hJ g1 => ?_
  obtain ⟨xs, ka, Pv, hG, hz, h0, hk, hs, hd⟩ := hJ
  intro D hD
  refine ⟨fun i m H' => m = xs.length - i ∧ i ≤ xs.length ∧ ∃ acc kn' n', Pv D i acc kn' n' ∧ Good c kn' n' H', ⟨_, rfl, Nat.zero_le _, [], _, _, h0 D (g1.free hD), g1.new hD⟩, ?_⟩
  rintro i m H' ⟨rfl, hi, acc, kn', n', p, g'⟩
  obtain ⟨k1, k2, k3⟩ := hk _ _ _ _ _ p
  obtain ⟨q1, q2, q3⟩ := hG kn' H' g'.ex k1
  by_cases hlt : i < xs.length
  · refine .inr ⟨q1 i hlt, fun H2 => ∃ acc kn2 n2, Pv D (i + 1) acc kn2 n2 ∧ Good c kn2 n2 H2, fun H2 ⟨acc, kn2, n2, p2, g2⟩ => ⟨xs.length - (i + 1), by omega, rfl, hlt, acc, kn2, n2, p2, g2⟩, fun x H2 y => ?_⟩
    obtain ⟨e, hx⟩ := q3 i x H2 y
    subst e
    refine hs D i acc x kn' n' (hx hlt) p H2 g' _ fun σ3 kn3 n3 H3 h3 g3 => ⟨h3.1, h3.2 H3 g3 _ fun b kn4 n4 H4 h4 g4 => ?_⟩
    cases b with
    | true => exact iteT (h4.1 rfl H4 g4 _ fun y kn5 n5 H5 h5 g5 => ⟨acc, g5.ex _ _ h5.1, by rw [sizeLine_eq]; omega, _, _, _, h5.2, g5.put h5.1 rfl⟩)
    | false => exact iteF ⟨_, _, _, h4.2 rfl, g4⟩
  · have e : i = xs.length := Nat.le_antisymm hi (Nat.le_of_not_lt hlt)
    exact .inl ⟨q2 i (Nat.le_of_not_lt hlt), q _ _ _ _ (hd D acc kn' n' (e ▸ p)) g'⟩
end
end AW

namespace L2
open PySem PySem.Spec PyProof.Rows Builtin
theorem int_eq_inst (b : Int) (u : Tok) (x C dx : Addr) :
    Meets (Builtin.«int.__eq__» ⟨[.int b u, .ref x], []⟩) (fun _ R s => s.heap.get? x = some (PySem.W.instObj C dx) ∧ R (.ok (.ret .notImplemented)) s) :=
  .of_wp fun prog w A R s h => by
    obtain ⟨hp, g, d, tk, os⟩ := s
    obtain ⟨hl, h⟩ := h
    unfold PySem.W.instObj at hl
    wp_walk using wpAny_loadPart' hl, wpAny_load hl
    exact ⟨_, rfl, h⟩
theorem bool_eq_inst (b : Bool) (x C dx : Addr) :
    Meets (Builtin.«int.__eq__» ⟨[.bool b, .ref x], []⟩) (fun _ R s => s.heap.get? x = some (PySem.W.instObj C dx) ∧ R (.ok (.ret .notImplemented)) s) :=
  .of_wp fun prog w A R s h => by
    obtain ⟨hp, g, d, tk, os⟩ := s
    obtain ⟨hl, h⟩ := h
    unfold PySem.W.instObj at hl
    wp_walk using wpAny_loadPart' hl, wpAny_load hl
    exact ⟨_, rfl, h⟩
theorem str_eq_inst (b : Str) (u : Tok) (x C dx : Addr) :
    Meets (Builtin.«str.__eq__» ⟨[.str b u, .ref x], []⟩) (fun _ R s => s.heap.get? x = some (PySem.W.instObj C dx) ∧ R (.ok (.ret .notImplemented)) s) :=
  .of_wp fun prog w A R s h => by
    obtain ⟨hp, g, d, tk, os⟩ := s
    obtain ⟨hl, h⟩ := h
    unfold PySem.W.instObj at hl
    wp_walk using wpAny_loadPart' hl, wpAny_load hl
    exact ⟨_, rfl, h⟩
theorem tup_eq_inst (l x : Addr) :
    Meets (Builtin.«tuple.__eq__» ⟨[.ref l, .ref x], []⟩) (fun _ R s => (∀ (M : Model) (A : Around) (Q : Bool → Shared → Prop) (E : Value → Shared → Prop), Q false s → wpAny M A (isInstance (.ref x) (.type "tuple")) Q E s) ∧ R (.ok (.ret .notImplemented)) s) :=
  .of_wp fun prog w A R s h => by
    obtain ⟨hp, g, d, tk, os⟩ := s
    obtain ⟨hl, h⟩ := h
    wp_walk using hl _ _ _ _
    exact ⟨_, rfl, h⟩
theorem lst_eq_inst (l x : Addr) :
    Meets (Builtin.«list.__eq__» ⟨[.ref l, .ref x], []⟩) (fun _ R s => (∀ (M : Model) (A : Around) (Q : Bool → Shared → Prop) (E : Value → Shared → Prop), Q false s → wpAny M A (isInstance (.ref x) (.type "list")) Q E s) ∧ R (.ok (.ret .notImplemented)) s) :=
  .of_wp fun prog w A R s h => by
    obtain ⟨hp, g, d, tk, os⟩ := s
    obtain ⟨hl, h⟩ := h
    wp_walk using hl _ _ _ _
    exact ⟨_, rfl, h⟩
section
variable {prog : Program} {w : World} {A : Around} {E : Value → Shared → Prop} {s : Shared} {K : PySem.W.Frag} {x C f : Addr} {ox : Obj} {od : Option Obj} {b : Value} {T id : String} {Q : Value → Shared → Prop}
/-- b == x, b of a built-in type that declines, x's class has an own == -/
theorem eq_back (hu : A.units < cLine) (X : K.In s.heap) (I : PySem.W.InstAt s.heap x ox C od) (hT : s.TypeIs b T) (slot : Slot T "__eq__" id) (hs : PySem.W.findIn K (.ref C) "__eq__" = some (some (.ref f))) (hf : PySem.W.isFn K (.ref f) = true) (sub : PySem.W.subIn K (.ref C) (.type T) = some false)
    (dec : ∀ (P : Value → Shared → Prop) (E' : Value → Shared → Prop), P .notImplemented s → wpAny (model prog w) A (call (.builtin id) [b, .ref x]) P E' s)
    (h : wpAny (model prog w) A (call (.ref f) [.ref x, b]) (PySem.W.CmpBack Q) E s) : wpAny (model prog w) A (richCompare .Eq b (.ref x)) Q E s := by
  have ne : ((Value.type T) != (Value.ref C)) = true := rfl
  simp only [richCompare, cmpInfo_Eq, hT.oneThing_none]
  refine wpAny_holding (wpAny_bind (wpAny_cRoomFor hu ?_))
  refine wpAny_bind (wpAny_typeOf hT ?_)
  refine wpAny_bind (I.type.here ?_)
  rw [if_pos ne]
  refine wpAny_bind ((PySem.W.looks_subIn X sub).here ?_)
  simp only [Bool.false_eq_true, if_false, Bool.not_false, if_true]
  refine wpAny_bind (m := tryCompare b _ (.ref x)) (wpAny_tryCompare_declines hT slot (dec _ _ ⟨rfl, ?_⟩))
  refine wpAny_bind (m := tryCompare (.ref x) _ b) ?_
  unfold tryCompare
  refine wpAny_bind (PySem.W.ifBound_K X I hs hf (wpAny_mono h (fun v s' hv => ?_) fun _ _ e => e))
  cases v <;> first | exact hv.elim | exact wpAny_pure (wpAny_pure hv)
end
end L2

/-! x in a list, where == of an item may run a def of the text. -/
namespace L2
open PySem PySem.Spec PyProof.Rows PySem.SeqAt
abbrev lstOf (items : Array Value) (n : Nat) : Obj := { cls := .type "list", dict := none, data := .seq items n, slots := #[] }
/-- the turns that are left, the spot -/
def EqChain (prog : Program) (w : World) (A : Around) (l : Addr) (x : Value) : Nat → Nat → (Result → Shared → Prop) → Shared → Prop
  | 0, i, R, s => ∃ items n, s.heap.get? l = some (lstOf items n) ∧ items[i]? = none ∧ R (.ok (.ret (.bool false))) s
  | m + 1, i, R, s => ∃ items n y, s.heap.get? l = some (lstOf items n) ∧ items[i]? = some y ∧ wpAny (model prog w) A (eqBool y x) (fun b s' => (b = true → R (.ok (.ret (.bool true))) s') ∧ (b = false → EqChain prog w A l x m (i + 1) R s')) (fun e s' => R (.error e) s') s
theorem contains_chain {prog : Program} {w : World} {l : Addr} {x : Value} (m : Nat) :
    ∀ i : Nat, MeetsIn prog w (Builtin.«list.__contains__.loop» ⟨[.ref l, x, rawInt i], []⟩) (fun A R s => EqChain prog w A.in1 l x m i R s) := by
  induction m with
  | zero =>
    intro i A R s h
    obtain ⟨hp, g, d, tk, os⟩ := s
    obtain ⟨items, n, hl, hi, h⟩ := h
    wp_walk using wpAny_loadPart' hl
    have none_at : items[((i : Nat) : Int).toNat]? = none := by simpa using hi
    rw [none_at]
    wp_walk
    exact h
  | succ m ih =>
    intro i A R s h
    obtain ⟨hp, g, d, tk, os⟩ := s
    obtain ⟨items, n, y, hl, hi, h⟩ := h
    wp_walk using wpAny_loadPart' hl
    have some_at : items[((i : Nat) : Int).toNat]? = some y := by simpa using hi
    rw [some_at]
    refine wpAny_bind (wpAny_mono h (fun b s' hb => ?_) fun _ _ z => z)
    obtain ⟨ht, hf⟩ := hb
    cases b with
    | true =>
      wp_walk
      exact ht rfl
    | false =>
      have cast1 : ((i : Int) + 1) = ((i + 1 : Nat) : Int) := by push_cast; rfl
      wp_walk
      rw [cast1]
      refine ⟨plainId_quiet MeetsSeq.plain_contains_loop _, codeAny_builtin MeetsSeq.entry_contains_loop ?_⟩
      rw [Around.under_plainId MeetsSeq.plain_contains_loop _]
      exact ih (i + 1) A R s' (hf rfl)
theorem contains_list {prog : Program} {w : World} {l : Addr} {x : Value} (m : Nat) :
    MeetsIn prog w (Builtin.«list.__contains__» ⟨[.ref l, x], []⟩) (fun A R s => s.TypeIs (.ref l) "list" ∧ EqChain prog w A.in1 l x m 0 R s) := by
  intro A R s h
  obtain ⟨hp, g, d, tk, os⟩ := s
  obtain ⟨hl, h⟩ := h
  wp_walk
  refine ⟨plainId_quiet MeetsSeq.plain_contains_loop _, codeAny_builtin MeetsSeq.entry_contains_loop ?_⟩
  rw [Around.under_plainId MeetsSeq.plain_contains_loop _]
  exact contains_chain m 0 A R _ h
theorem in_chain {prog : Program} {w : World} {A : Around} {E : Value → Shared → Prop} {s : Shared} {l : Addr} {x : Value} {Q : Value → Shared → Prop} (m : Nat) (hl : s.TypeIs (.ref l) "list")
    (h : EqChain prog w A.in1 l x m 0 (wants (fun v s' => ∃ b, v = .bool b ∧ Q (.bool b) s') E) s) : wpAny (model prog w) A (compareOp .In x (.ref l)) Q E s := by
  show wpAny _ A (do return .bool (← contains (.ref l) x)) Q E s
  refine wpAny_bind (wpAny_contains_slot (T := "list") hl F.slot_list_contains (wpAny_mono (call_meetsIn F.slot_list_contains hl F.entry_list_contains (F.args_list_contains_2 _ _) (contains_list m) ⟨hl, h⟩) (fun v s' hv => ?_) fun _ _ e => e))
  obtain ⟨b, rfl, hq⟩ := hv
  exact wpAny_truthy_bool (wpAny_pure hq)
end L2

/-! o in a list of built-in values, o of an own class with an own ==. -/
namespace L2
open PySem PySem.Spec PyProof.Rows PySem.SeqAt
/-- a built-in value whose == leaves the answer to the class at C -/
inductive BackV (K : PySem.W.Frag) (H : Hp) (C : Addr) : V → Prop where
  | non (h : PySem.W.subIn K (.ref C) (.type "NoneType") = some false) : BackV K H C .non
  | bl (b : Bool) (h : PySem.W.subIn K (.ref C) (.type "bool") = some false) : BackV K H C (.bl b)
  | int (i : Int) (h : PySem.W.subIn K (.ref C) (.type "int") = some false) : BackV K H C (.int i)
  | str (x : Str) (h : PySem.W.subIn K (.ref C) (.type "str") = some false) : BackV K H C (.str x)
  | lst {l : Addr} {xs : List V} (e : H l = some (.lst xs)) (h : PySem.W.subIn K (.ref C) (.type "list") = some false) : BackV K H C (.ref l)
  | tup {l : Addr} {xs : List V} (e : H l = some (.tup xs)) (h : PySem.W.subIn K (.ref C) (.type "tuple") = some false) : BackV K H C (.ref l)
def InCh (K : PySem.W.Frag) (C a l : Addr) (vs : List V) (sp : Sp) : List V → Hp → VK → Prop
  | [], H, Q => Q (.bl false) H
  | v :: r, H, Q => BackV K H C v ∧ sp [.ref a, v] H (fun u H1 => ∃ b, u = .bl b ∧ H1 l = some (.lst vs) ∧ (∃ dx fs, H1 a = some (.ins C dx fs)) ∧ (b = true → Q (.bl true) H1) ∧ (b = false → InCh K C a l vs sp r H1 Q)) (fun _ _ _ => False)
def rInLO (K : PySem.W.Frag) (C : Addr) (sp : Sp) : R2 := fun x y H Q => ∃ a dx fs l vs, x = .ref a ∧ y = .ref l ∧ H a = some (.ins C dx fs) ∧ H l = some (.lst vs) ∧ InCh K C a l vs sp vs H Q
section
variable {X : Cx} {CX : CXT} {k : Nat} {f C a l : Addr} {fd : FuncData} {ps : List Str} {sp : Sp} {pins : List (Addr × Obj)} {σ : St} {H : Hp} {s : Shared} {v : V} {u : Value} {dx : Addr} {fs : List (Str × V)}
theorem eqBool_back {A : Around} {Q : Bool → Shared → Prop} {E : Value → Shared → Prop} (hu : A.units < cLine) (M : EqM X.K C f) (I : Inv X pins σ H s) (ha : H a = some (.ins C dx fs)) (b : BackV X.K H C v) (r : RelV v u)
    (h : wpAny (model X.prog X.w) A (call (.ref f) [.ref a, u]) (PySem.W.CmpBack fun z s' => wpAny (model X.prog X.w) A (truthOfDropped z) Q E s') E s) : wpAny (model X.prog X.w) A (eqBool u (.ref a)) Q E s := by
  obtain ⟨mA, J, _⟩ := ins_get I.hok ha
  obtain ⟨od, J, _⟩ := J.look
  have KI := I.kIn
  have isI : ∀ {T : String}, PySem.W.subIn X.K (.ref C) (.type T) = some false → ∀ (M : Model) (A : Around) (Q : Bool → Shared → Prop) (E : Value → Shared → Prop), Q false s → wpAny M A (isInstance (.ref a) (.type T)) Q E s := fun {T} h M' A' Q' E' q => (J.type.andThen (f := fun t => isSubtype t (.type T)) (PySem.W.looks_subIn KI h)).here q
  unfold eqBool
  refine wpAny_holding ?_
  cases b with
  | non hs =>
    cases (show u = Value.none from r)
    refine wpAny_ite_split (fun z => absurd (eq_of_beq z) nofun) (fun _ => ?_)
    refine wpAny_bind (eq_back hu KI J (T := "NoneType") rfl F.slot_NoneType_eq M.hs M.hf hs (fun P E' p => call_gives F.slot_NoneType_eq rfl F.entry_NoneType_eq (F.args_NoneType_eq_2 _ _) (NoneType___eq___none_ref_0 a) p) h)
  | bl y hs =>
    cases (show u = Value.bool y from r)
    refine wpAny_ite_split (fun z => absurd (eq_of_beq z) nofun) (fun _ => ?_)
    refine wpAny_bind (eq_back hu KI J (T := "bool") rfl F.slot_bool_eq M.hs M.hf hs (fun P E' p => call_meets F.slot_bool_eq rfl F.entry_int_eq (F.args_int_eq_2 _ _) (bool_eq_inst y a C dx) ⟨J.1, p⟩) h)
  | int y hs =>
    obtain ⟨t, rfl⟩ := (show ∃ t, u = Value.int y t from r)
    refine wpAny_ite_split (fun z => absurd (eq_of_beq z) nofun) (fun _ => ?_)
    refine wpAny_bind (eq_back hu KI J (T := "int") (typeIs_int _ _ _) F.slot_int_eq M.hs M.hf hs (fun P E' p => call_meets F.slot_int_eq (typeIs_int _ _ _) F.entry_int_eq (F.args_int_eq_2 _ _) (int_eq_inst y t a C dx) ⟨J.1, p⟩) h)
  | str y hs =>
    obtain ⟨t, rfl⟩ := (show ∃ t, u = Value.str y t from r)
    refine wpAny_ite_split (fun z => absurd (eq_of_beq z) nofun) (fun _ => ?_)
    refine wpAny_bind (eq_back hu KI J (T := "str") (typeIs_str _ _ _) F.slot_str_eq M.hs M.hf hs (fun P E' p => call_meets F.slot_str_eq (typeIs_str _ _ _) F.entry_str_eq (F.args_str_eq_2 _ _) (str_eq_inst y t a C dx) ⟨J.1, p⟩) h)
  | @lst l xs e hs =>
    cases (show u = Value.ref l from r)
    have ne : l ≠ a := fun z => by rw [z, ha] at e; cases e
    obtain ⟨_, its, n, _, _, e1⟩ := I.lstM e
    refine wpAny_ite_split (fun z => absurd (Value.ref.inj (eq_of_beq z)) ne) (fun _ => ?_)
    refine wpAny_bind (eq_back hu KI J (T := "list") ⟨_, e1, rfl⟩ F.slot_list_eq M.hs M.hf hs (fun P E' p => call_meets F.slot_list_eq ⟨_, e1, rfl⟩ F.entry_list_eq (F.args_list_eq_2 _ _) (lst_eq_inst l a) ⟨isI hs, p⟩) h)
  | @tup l xs e hs =>
    cases (show u = Value.ref l from r)
    have ne : l ≠ a := fun z => by rw [z, ha] at e; cases e
    obtain ⟨its, _, pl, _⟩ := I.tuple (.inl (.inl e))
    obtain ⟨o, ho, hc, _⟩ := pl
    refine wpAny_ite_split (fun z => absurd (Value.ref.inj (eq_of_beq z)) ne) (fun _ => ?_)
    refine wpAny_bind (eq_back hu KI J (T := "tuple") ⟨o, ho, hc⟩ F.slot_tuple_eq M.hs M.hf hs (fun P E' p => call_meets F.slot_tuple_eq ⟨o, ho, hc⟩ F.entry_tuple_eq (F.args_tuple_eq_2 _ _) (tup_eq_inst l a) ⟨isI hs, p⟩) h)
theorem in_walk {Q : VK} (hu : X.A.in1.units < cLine) (M : EqM X.K C f) (F : FnOk X.prog X.w X.K X.mg X.base CX k f fd ps sp) (hr : Room k X.A.in1) (hb : Binds X.K fd ps []) (hx : Passes CX X (fun _ _ _ => False)) {vs : List V} :
    ∀ (r done : List V) (H : Hp) (s : Shared), vs = done ++ r → Inv X pins σ H s → (∃ dx fs, H a = some (.ins C dx fs)) → H l = some (.lst vs) → InCh X.K C a l vs sp r H Q →
      EqChain X.prog X.w X.A.in1 l (.ref a) r.length done.length (wants (fun v s' => ∃ b, v = .bool b ∧ EP X pins σ Q (.bool b) s') X.xe) s := by
  intro r
  induction r with
  | nil =>
    intro done H s e I ha hl h
    obtain ⟨_, its, n, rv, hlen, e1⟩ := I.lstM hl
    refine ⟨its.toArray, n, e1, ?_, ⟨false, rfl, .bl false, H, I, rfl, h⟩⟩
    rw [List.getElem?_toArray, List.getElem?_eq_none]
    rw [← hlen, e, List.append_nil]
    exact Nat.le_refl _
  | cons v r ih =>
    intro done H s e I ha hl h
    obtain ⟨dx, fs, ha⟩ := ha
    obtain ⟨bv, hsp⟩ := h
    obtain ⟨_, its, n, rv, hlen, e1⟩ := I.lstM hl
    have at_v : vs[done.length]? = some v := by rw [e]; simp
    obtain ⟨u, hu1, ru⟩ := rv.get at_v
    refine ⟨its.toArray, n, u, e1, by rw [List.getElem?_toArray]; exact hu1, ?_⟩
    refine eqBool_back hu M I ha bv ru (wpAny_mono (callA (A := X.A.in1) (vs := [.ref a, v]) F hr rfl hb hx I (.cons rfl (.cons ru .nil)) hsp) (fun z s' hz => ?_) fun _ _ z => z)
    obtain ⟨v', H', I', rv', b, eb, hl', ha', ht, hf⟩ := hz
    subst eb
    cases (show z = Value.bool b from rv')
    show wpAny _ _ (truthOfDropped (.bool b)) _ _ _
    refine (show wpAny _ _ (truthy (.bool b)) _ _ _ from wpAny_truthy_bool ⟨fun hbt => ?_, fun hbf => ?_⟩)
    · exact ⟨true, rfl, .bl true, H', I', rfl, ht hbt⟩
    · have q := ih (done ++ [v]) H' s' (by rw [e]; simp) I' ha' hl' (hf hbf)
      rw [List.length_append] at q
      exact q
theorem op_inLO (M : EqM X.K C f) (F : FnOk X.prog X.w X.K X.mg X.base CX k f fd ps sp) (hr : Room (k + 1) X.A) (hb : Binds X.K fd ps []) (hx : Passes CX X (fun _ _ _ => False)) : OpR X (compareOp .In) (rInLO X.K C sp) := by
  intro pins s σ H x y v u Q I rx ry h
  obtain ⟨a, dx, fs, l, vs, rfl, rfl, ha, hl, h⟩ := h
  cases (show v = Value.ref a from rx)
  cases (show u = Value.ref l from ry)
  obtain ⟨_, its, n, _, _, e1⟩ := I.lstM hl
  exact in_chain vs.length ⟨_, e1, rfl⟩ (in_walk hr.in1.units0 M F hr.in1 hb hx vs [] H s rfl I ⟨dx, fs, ha⟩ hl h)
end
end L2
namespace AW
open PySem PySem.Spec PyProof.Rows L2
theorem backV_ext {K : PySem.W.Frag} {H H' : Hp} {C : Addr} {v : V} (e : Ext H H') (b : BackV K H C v) : BackV K H' C v := by
  cases b with
  | non h => exact .non h
  | bl b h => exact .bl b h
  | int i h => exact .int i h
  | str x h => exact .str x h
  | lst q h => exact .lst (e _ _ q) h
  | tup q h => exact .tup (e _ _ q) h
/-- none of the items is equal -/
theorem r_inL_no {K : PySem.W.Frag} {c : Cw} {kn : Hp} {n : Nat} {Q : V → Hp → Nat → Prop} {B : List V → Hp → AK → AXK → Prop} {C a l dx : Addr} {fs : List (Str × V)} {vs : List V} (hm : MonoX B) (ha : kn a = some (.ins C dx fs)) (hl : kn l = some (.lst vs))
    (hv : ∀ v ∈ vs, BackV K kn C v ∧ B [.ref a, v] kn (fun u k => u = .bl false ∧ k = kn) (fun _ _ _ => False)) (q : Q (.bl false) kn n) : W c (rInLO K C (liftX B) (.ref a) (.ref l)) kn n Q := by
  intro H g Q' k
  have walk : ∀ (r : List V), (∀ v ∈ r, v ∈ vs) → ∀ H, Good c kn n H → InCh K C a l vs (liftX B) r H Q' := by
    intro r
    induction r with
    | nil => exact fun _ H g => k _ _ _ _ q g
    | cons v r ih =>
      intro hr H g
      obtain ⟨b, h⟩ := hv v (hr v List.mem_cons_self)
      refine ⟨backV_ext g.ex b, kn, g.ex, g.nt, hm _ _ _ _ _ _ (fun u k' hu n' H' g' => ?_) (fun _ _ _ z => z.elim) h⟩
      obtain ⟨rfl, rfl⟩ := hu
      have g2 : Good c k' n H' := g.back g'
      exact ⟨false, rfl, g2.ex _ _ hl, ⟨dx, fs, g2.ex _ _ ha⟩, (fun z => nomatch z), fun _ => ih (fun w hw => hr w (List.mem_cons_of_mem _ hw)) H' g2⟩
  exact ⟨a, dx, fs, l, vs, rfl, rfl, g.ex _ _ ha, g.ex _ _ hl, walk vs (fun _ z => z) H g⟩
end AW

/-! An own operator whose right operand is of another own class; built-in == own; repr of any data; properties. -/
namespace OX
open PySem PySem.W PySem.Calls PyProof.Rows Builtin
section
variable {prog : Program} {w : World} {A : Around} {E : Value → Shared → Prop} {s : Shared} {K : Frag} {x C D f : Addr} {ox : Obj} {od : Option Obj} {b : Value}
theorem noNumber {M : Model} {h : Heap} {nm : String} {cd : ClassData} (X : K.In h) (hc : clsIn K D = some cd) (hm : cd.mro = [.ref D, .type "object"]) (h1 : findIn K (.ref D) (PySem.dunder nm) = some none) (h2 : findIn K (.ref D) (dunderR nm) = some none)
    (o1 : typeLookup (.type "object") (PySem.dunder nm) = pure none) (o2 : typeLookup (.type "object") (dunderR nm) = pure none) : Looks M h (fillsNumberSlot (.ref D) nm) false := by
  intro A Q E s k q
  unfold fillsNumberSlot
  dsimp only
  refine wpAny_bind ((looks_clsIn X hc).andThen (f := fun cd => pure cd.mro) .now A _ E s k ?_)
  rw [hm, List.anyM_cons]
  refine wpAny_bind ?_
  dsimp only
  rw [List.anyM_cons]
  refine wpAny_bind (wpAny_bind (looks_findIn X h1 A _ E s k ?_))
  dsimp only
  refine wpAny_pure ?_
  simp only [Bool.false_eq_true, if_false]
  rw [List.anyM_cons]
  refine wpAny_bind (wpAny_bind (looks_findIn X h2 A _ E s k ?_))
  dsimp only
  refine wpAny_pure ?_
  simp only [Bool.false_eq_true, if_false, List.anyM_nil]
  refine wpAny_pure ?_
  simp only [Bool.false_eq_true, if_false]
  rw [List.anyM_cons, o1, o2]
  refine wpAny_bind (wpAny_bind (wpAny_pure (wpAny_bind (wpAny_pure ?_))))
  refine wpAny_pure ?_
  simp only [Option.isSome_none, Bool.false_and, Bool.or_self, Bool.false_eq_true, if_false, List.anyM_nil]
  exact wpAny_pure q
theorem binop1_D {nm : String} {Q : Value → Shared → Prop} (X : K.In s.heap) (I : InstAt s.heap x ox C od) (hb : Looks (model prog w) s.heap (typeOf b) (.ref D)) (hc : selfFirst K C = true)
    (hs : findIn K (.ref C) (PySem.dunder nm) = some (some (.ref f))) (hf : isFn K (.ref f) = true) (fill : Looks (model prog w) s.heap (fillsNumberSlot (.ref D) nm) false)
    (h : wpAny (model prog w) A (call (.ref f) [.ref x, b]) (PySem.W.CmpBack Q) E s) : wpAny (model prog w) A (binaryOp1 nm (.ref x) b) (fun r s' => ∃ v, r = some v ∧ Q v s') E s := by
  obtain ⟨cd, hcd, hm⟩ := any_some hc
  obtain ⟨rest, hm⟩ : ∃ rest, cd.mro = .ref C :: rest := by
    cases q : cd.mro with
    | nil => rw [q] at hm; cases hm
    | cons a r => rw [q] at hm; exact ⟨r, by rw [List.head?_cons] at hm; cases (beq_iff_eq.mp hm); rfl⟩
  have last : ∀ {α : Type} (k : Option Value → Sem α) (P : α → Shared → Prop), (∀ v s', PySem.W.CmpBack Q v s' → wpAny (model prog w) A (k (some v)) P E s') → wpAny (model prog w) A (tryMethod (.ref x) (PySem.dunder nm) b >>= k) P E s := fun k P hk => by
    refine wpAny_bind ?_
    unfold tryMethod
    refine wpAny_bind (special_fn X I hs (beq_iff_eq.mp hf) (wpAny_mono h (fun v s' hv => ?_) fun _ _ e => e))
    cases v <;> first | exact hv.elim | exact wpAny_pure (hk _ _ hv)
  unfold binaryOp1
  refine wpAny_bind (I.type.here (wpAny_bind (hb.here (wpAny_bind ((fills_K X hcd hm hs).here ?_)))))
  cases q : (Value.ref C == Value.ref D) with
  | true =>
    simp only [if_true]
    refine wpAny_bind (wpAny_pure ?_)
    simp only [Bool.and_false, Bool.false_eq_true, if_false, Bool.false_and]
    refine wpAny_bind (wpAny_pure ?_)
    simp only [Bool.false_eq_true, if_false]
    refine last _ _ fun v s' hv => ?_
    cases v <;> first | exact hv.elim | exact wpAny_pure ⟨_, rfl, hv⟩
  | false =>
    simp only [Bool.false_eq_true, if_false]
    refine wpAny_bind (fill.here ?_)
    simp only [Bool.and_false, Bool.false_eq_true, if_false, Bool.false_and]
    refine wpAny_bind (wpAny_pure ?_)
    simp only [Bool.false_eq_true, if_false, if_true]
    refine last _ _ fun v s' hv => ?_
    cases v <;> first | exact hv.elim | exact wpAny_pure ⟨_, rfl, hv⟩
end
end OX
namespace L2
open PySem PySem.Spec PyProof.Rows PySem.SeqAt
/-- the class at D has nothing to say in an operator -/
structure NoNum (K : PySem.W.Frag) (op : Operator) (D : Addr) : Prop where
  cd : ∃ cd, PySem.W.clsIn K D = some cd ∧ cd.mro = [.ref D, .type "object"]
  h1 : PySem.W.findIn K (.ref D) (PySem.dunder op.info.2) = some none
  h2 : PySem.W.findIn K (.ref D) (dunderR op.info.2) = some none
  o1 : typeLookup (.type "object") (PySem.dunder op.info.2) = pure none
  o2 : typeLookup (.type "object") (dunderR op.info.2) = pure none
def rOwnD (K : PySem.W.Frag) (op : Operator) (C D : Addr) (sp : Sp) (E : XK) : R2 := fun x y H Q => ∃ a dx fs b dy gs, x = .ref a ∧ y = .ref b ∧ H a = some (.ins C dx fs) ∧ H b = some (.ins D dy gs) ∧ sp [.ref a, .ref b] H Q E
section
variable {X : Cx} {CX : CXT} {k : Nat} {f C D : Addr} {fd : FuncData} {ps : List Str} {sp : Sp} {E : XK}
theorem op_ownD {op : Operator} (M : OpM X.K op C f) (N : NoNum X.K op D) (O : OwnC X.K D) (F : FnOk X.prog X.w X.K X.mg X.base CX k f fd ps sp) (hr : Room k X.A) (hb : Binds X.K fd ps []) (hx : Passes CX X E) : OpR X (binaryOp op) (rOwnD X.K op C D sp E) := by
  intro pins s σ H x y v u Q I rx ry h
  obtain ⟨a, dx, fs, b, dy, gs, rfl, rfl, ha, hb', hq⟩ := h
  cases rx
  have ry' := ry
  cases ry'
  obtain ⟨mA, J, _⟩ := ins_get I.hok ha
  obtain ⟨od, J, _⟩ := J.look
  have hbt := typeOf_of I ry (O.ty hb')
  obtain ⟨cd, c1, c2⟩ := N.cd
  have hc : wpAny (model X.prog X.w) X.A (call (.ref f) [.ref a, .ref b]) (PySem.W.CmpBack (EP X pins σ Q)) X.xe s :=
    wpAny_mono (callA (vs := [.ref a, .ref b]) F hr rfl hb hx I (.cons rfl (.cons ry .nil)) hq) (fun z s' hz => by
      obtain ⟨v', H', I', rv, q⟩ := id hz
      exact relV_ni rv hz) fun _ _ z => z
  exact OX.binop_of (OX.binop1_D I.kIn J hbt M.self M.hs M.hf (OX.noNumber I.kIn c1 c2 N.h1 N.h2 N.o1 N.o2) hc)
/-- x == o or o == x, o of an own class with an own ==, x of a built-in type -/
def rEqU (K : PySem.W.Frag) (C : Addr) (sp : Sp) : R2 := fun x y H Q => rEqO K C sp false x y H Q ∨ ∃ a dx fs, y = .ref a ∧ H a = some (.ins C dx fs) ∧ BackV K H C x ∧ sp [.ref a, x] H (fun v H' => ∃ b, v = .bl b ∧ Q (.bl b) H') (fun _ _ _ => False)
theorem op_eqU (M : EqM X.K C f) (F : FnOk X.prog X.w X.K X.mg X.base CX k f fd ps sp) (hr : Room (k + 1) X.A) (hb : Binds X.K fd ps []) (hx : Passes CX X (fun _ _ _ => False)) : OpR X (compareOp .Eq) (rEqU X.K C sp) := by
  intro pins s σ H x y v u Q I rx ry h
  rcases h with h | ⟨a, dx, fs, rfl, ha, bv, hq⟩
  · exact op_eqO M F hr hb hx pins s σ H x y v u Q I rx ry h
  cases (show u = Value.ref a from ry)
  obtain ⟨mA, J, _⟩ := ins_get I.hok ha
  obtain ⟨od, J, _⟩ := J.look
  have KI := I.kIn
  have hu : X.A.units < cLine := hr.units0
  have isI : ∀ {T : String}, PySem.W.subIn X.K (.ref C) (.type T) = some false → ∀ (M : Model) (A : Around) (Q : Bool → Shared → Prop) (E : Value → Shared → Prop), Q false s → wpAny M A (isInstance (.ref a) (.type T)) Q E s := fun {T} h M' A' Q' E' q => (J.type.andThen (f := fun t => isSubtype t (.type T)) (PySem.W.looks_subIn KI h)).here q
  have h : wpAny (model X.prog X.w) X.A (call (.ref f) [.ref a, v]) (PySem.W.CmpBack (EP X pins σ Q)) X.xe s :=
    wpAny_mono (callA (vs := [.ref a, x]) F (hr.mono (Nat.le_succ _)) rfl hb hx I (.cons rfl (.cons rx .nil)) hq) (fun z s' hz => by
      obtain ⟨v', H', I', rv, b, e, q⟩ := hz
      subst e
      cases (show z = Value.bool b from rv)
      exact ⟨.bl b, H', I', rfl, q⟩) fun _ _ z => z
  show wpAny (model X.prog X.w) X.A (richCompare .Eq v (.ref a)) (EP X pins σ Q) X.xe s
  cases bv with
  | non hs =>
    cases (show v = Value.none from rx)
    exact eq_back hu KI J (T := "NoneType") rfl PySem.F.slot_NoneType_eq M.hs M.hf hs (fun P E' p => call_gives PySem.F.slot_NoneType_eq rfl PySem.F.entry_NoneType_eq (PySem.F.args_NoneType_eq_2 _ _) (NoneType___eq___none_ref_0 a) p) h
  | bl y hs =>
    cases (show v = Value.bool y from rx)
    exact eq_back hu KI J (T := "bool") rfl PySem.F.slot_bool_eq M.hs M.hf hs (fun P E' p => call_meets PySem.F.slot_bool_eq rfl PySem.F.entry_int_eq (PySem.F.args_int_eq_2 _ _) (bool_eq_inst y a C dx) ⟨J.1, p⟩) h
  | int y hs =>
    obtain ⟨t, rfl⟩ := (show ∃ t, v = Value.int y t from rx)
    exact eq_back hu KI J (T := "int") (typeIs_int _ _ _) PySem.F.slot_int_eq M.hs M.hf hs (fun P E' p => call_meets PySem.F.slot_int_eq (typeIs_int _ _ _) PySem.F.entry_int_eq (PySem.F.args_int_eq_2 _ _) (int_eq_inst y t a C dx) ⟨J.1, p⟩) h
  | str y hs =>
    obtain ⟨t, rfl⟩ := (show ∃ t, v = Value.str y t from rx)
    exact eq_back hu KI J (T := "str") (typeIs_str _ _ _) PySem.F.slot_str_eq M.hs M.hf hs (fun P E' p => call_meets PySem.F.slot_str_eq (typeIs_str _ _ _) PySem.F.entry_str_eq (PySem.F.args_str_eq_2 _ _) (str_eq_inst y t a C dx) ⟨J.1, p⟩) h
  | @lst l xs e hs =>
    cases (show v = Value.ref l from rx)
    obtain ⟨_, its, n, _, _, e1⟩ := I.lstM e
    exact eq_back hu KI J (T := "list") ⟨_, e1, rfl⟩ PySem.F.slot_list_eq M.hs M.hf hs (fun P E' p => call_meets PySem.F.slot_list_eq ⟨_, e1, rfl⟩ PySem.F.entry_list_eq (PySem.F.args_list_eq_2 _ _) (lst_eq_inst l a) ⟨isI hs, p⟩) h
  | @tup l xs e hs =>
    cases (show v = Value.ref l from rx)
    obtain ⟨its, _, pl, _⟩ := I.tuple (.inl (.inl e))
    obtain ⟨o, ho, hc, _⟩ := pl
    exact eq_back hu KI J (T := "tuple") ⟨o, ho, hc⟩ PySem.F.slot_tuple_eq M.hs M.hf hs (fun P E' p => call_meets PySem.F.slot_tuple_eq ⟨o, ho, hc⟩ PySem.F.entry_tuple_eq (PySem.F.args_tuple_eq_2 _ _) (tup_eq_inst l a) ⟨isI hs, p⟩) h
/-- repr of a bool -/
def rReprB : List V → Hp → VK → Prop := fun xs H Q => ∃ b : Bool, xs = [.bl b] ∧ Q (.str (if b then "True" else "False")) H
theorem c_reprB : CallR X (.builtin "repr") rReprB := by
  intro pins s σ H xs us Q I r h
  obtain ⟨b, rfl, q⟩ := h
  obtain ⟨u, rfl, rx⟩ := vals1 r
  cases (show u = Value.bool b from rx)
  exact PySem.P.repr_of_bool ⟨.str (if b then "True" else "False"), H, I.tok _, ⟨_, rfl⟩, q⟩
def rNotN : R2 := fun x y H Q => y = V.non ∧ Q (V.bl (!decide (x = V.non))) H
theorem c_notN : OpR X (compareOp .IsNot) rNotN := op_notN
def rMax2 : List V → Hp → VK → Prop := fun xs H Q => ∃ i j : Int, xs = [.int i, .int j] ∧ Q (.int (if j > i then j else i)) H
theorem c_max2 (hc : X.calm = true) : CallR X (.builtin "max") rMax2 := call_max2 hc
def rMin2 : List V → Hp → VK → Prop := fun xs H Q => ∃ i j : Int, xs = [.int i, .int j] ∧ Q (.int (if j < i then j else i)) H
theorem c_min2 (hc : X.calm = true) : CallR X (.builtin "min") rMin2 := call_min2 hc
end
end L2
namespace AW
open PySem PySem.Spec PyProof.Rows L2
section
variable {c : Cw} {kn : Hp} {n : Nat} {σ : L2.St} {Q : V → Hp → Nat → Prop} {K : PySem.W.Frag} {E : XK} {EA : EAK} {B : List V → Hp → AK → AXK → Prop} {C D : Addr}
theorem r_ownD {op : Operator} {a b dx dy : Addr} {fs gs : List (Str × V)} (hm : MonoX B) (hE : ErrOk c EA E) (ha : kn a = some (.ins C dx fs)) (hb : kn b = some (.ins D dy gs))
    (h : B [.ref a, .ref b] kn (fun v k => Q v k n) (fun cls d k => EA cls d k n)) : W c (rOwnD K op C D (liftX B) E (.ref a) (.ref b)) kn n Q :=
  fun H g Q' q => ⟨a, dx, fs, b, dy, gs, rfl, rfl, g.ex _ _ ha, g.ex _ _ hb, sp_call hm hE h H g Q' q⟩
theorem r_eqUo {x y : V} (h : W c (rEqO K C (liftX B) false x y) kn n Q) : W c (rEqU K C (liftX B) x y) kn n Q := fun H g Q' q => .inl (h H g Q' q)
theorem r_eqUb {a dx : Addr} {fs : List (Str × V)} {x : V} (hm : MonoX B) (ha : kn a = some (.ins C dx fs)) (bv : BackV K kn C x)
    (h : B [.ref a, x] kn (fun v k => ∃ b, v = .bl b ∧ Q (.bl b) k n) (fun _ _ _ => False)) : W c (rEqU K C (liftX B) x (.ref a)) kn n Q :=
  fun H g Q' q => .inr ⟨a, dx, fs, rfl, g.ex _ _ ha, backV_ext g.ex bv, sp_call (EA := fun _ _ _ _ => False) (Q := fun v k n => ∃ b, v = .bl b ∧ Q (.bl b) k n) hm err_no h H g _ fun v kn1 n1 H1 ⟨b, e, hq⟩ g1 => ⟨b, e, q _ _ _ _ hq g1⟩⟩
theorem r_reprB {b : Bool} (q : Q (.str (if b then "True" else "False")) kn n) : W c (rReprB [.bl b]) kn n Q := fun H g _ k => ⟨b, rfl, k _ kn n H q g⟩
theorem r_notN {x : V} (q : Q (.bl (!decide (x = V.non))) kn n) : W c (rNotN x .non) kn n Q := fun H g _ k => ⟨rfl, k _ kn n H q g⟩
theorem r_max2 {i j : Int} (q : Q (.int (if j > i then j else i)) kn n) : W c (rMax2 [.int i, .int j]) kn n Q := fun H g _ k => ⟨i, j, rfl, k _ kn n H q g⟩
theorem r_min2 {i j : Int} (q : Q (.int (if j < i then j else i)) kn n) : W c (rMin2 [.int i, .int j]) kn n Q := fun H g _ k => ⟨i, j, rfl, k _ kn n H q g⟩
theorem w_prop {ta : TE} (hm : MonoX B) (h : W c (ta σ) kn n fun x kn1 n1 => ∃ a dx fs, x = .ref a ∧ kn1 a = some (.ins C dx fs) ∧ B [.ref a] kn1 (fun v k => Q v k n1) (fun _ _ _ => False)) : W c (tProp C (liftX B) [] E ta σ) kn n Q :=
  fun H g Q' q => h H g _ fun x kn1 n1 H1 ⟨a, dx, fs, e, ha, hb⟩ g1 => ⟨a, dx, fs, e, g1.ex _ _ ha, sp_call (EA := fun _ _ _ _ => False) hm err_no hb H1 g1 Q' q⟩
end
end AW

namespace NN
open PySem PySem.Spec PyProof.Rows L2 LamX AW ClX
def codeTab : Obj → Option Addr
  | ⟨.type "code", _, .fields vs, _⟩ => match (vs[11]? : Option Value) with | some (.ref P) => some P | _ => none
  | _ => none
def codeB (o : Obj) (c P : Addr) : Bool := PySem.W.codeHdIn [(c, o)] c P
theorem codeB_in {K : PySem.W.Frag} {o : Obj} {c P : Addr} (h : K.lookup c = some o) (e : codeB o c P = true) : PySem.W.codeHdIn K c P = true := by
  have q : ([(c, o)] : PySem.W.Frag).lookup c = some o := by simp [List.lookup]
  unfold codeB PySem.W.codeHdIn at e
  rw [q] at e
  unfold PySem.W.codeHdIn
  rw [h]
  exact e
theorem mem_look {β : Type} : ∀ {l : List (Addr × β)} {a : Addr} {b : β}, l.lookup a = some b → (a, b) ∈ l
  | [], _, _, e => by cases e
  | (c, x) :: r, a, b, e => by
    rw [List.lookup_cons] at e
    cases hb : a == c with
    | true => rw [hb] at e; cases e; rw [eq_of_beq hb]; exact .head _
    | false => rw [hb] at e; exact .tail _ (mem_look e)
theorem none_of {K : Params → PySem.W.Frag} {as : List Addr} {e : ∀ P, as = (K P).map (·.1)} {ts : List Addr} {w : World} {h : Heap} (_ : (PySem.W.kmHook K as e ts).says w h) {a : Addr} (ha : decide (a ∈ as) = false) : (K w.params).lookup a = none := by
  cases q : (K w.params).lookup a with
  | none => rfl
  | some o =>
    have m : a ∈ as := by rw [e w.params]; exact List.mem_map.mpr ⟨(a, o), mem_look q, rfl⟩
    exact absurd m (of_decide_eq_false ha)
def top (i : Nat) : Stmt := PySem.Challenge.pw_nodeadnight_k33_stretches_made_and_parte.main.body.getD i (.Pass ⟨0, 0, 0, 0⟩)
abbrev s_is_whole : Stmt := top 4
theorem sc_is_whole : FnScope ["value"] ["value"] (defScope s_is_whole) :=
  ⟨rfl, rfl, rfl, by decide +kernel, rfl, by decide +kernel, by decide +kernel⟩
abbrev s_is_from : Stmt := top 5
theorem sc_is_from : FnScope ["value", "least", "most"] ["value", "least", "most"] (defScope s_is_from) :=
  ⟨rfl, rfl, rfl, by decide +kernel, rfl, by decide +kernel, by decide +kernel⟩
abbrev s_is_day : Stmt := top 6
theorem sc_is_day : FnScope ["value"] ["value"] (defScope s_is_day) :=
  ⟨rfl, rfl, rfl, by decide +kernel, rfl, by decide +kernel, by decide +kernel⟩
abbrev s_BadStay___init__ : Stmt := inClass (top 12) 0
theorem sc_BadStay___init__ : FnScope ["self", "part"] ["self", "part"] (defScope s_BadStay___init__) :=
  ⟨rfl, rfl, rfl, by decide +kernel, rfl, by decide +kernel, by decide +kernel⟩
abbrev s_BadStretch___init__ : Stmt := inClass (top 13) 0
theorem sc_BadStretch___init__ : FnScope ["self", "part"] ["self", "part"] (defScope s_BadStretch___init__) :=
  ⟨rfl, rfl, rfl, by decide +kernel, rfl, by decide +kernel, by decide +kernel⟩
abbrev s_Outside___init__ : Stmt := inClass (top 15) 0
theorem sc_Outside___init__ : FnScope ["self", "stay"] ["self", "stay"] (defScope s_Outside___init__) :=
  ⟨rfl, rfl, rfl, by decide +kernel, rfl, by decide +kernel, by decide +kernel⟩
abbrev s_Stay___init__ : Stmt := inClass (top 17) 1
theorem sc_Stay___init__ : FnScope ["self", "first", "after"] ["self", "first", "after"] (defScope s_Stay___init__) :=
  ⟨rfl, rfl, rfl, by decide +kernel, rfl, by decide +kernel, by decide +kernel⟩
abbrev s_Stay___str__ : Stmt := inClass (top 17) 11
theorem sc_Stay___str__ : FnScope ["self"] ["self"] (defScope s_Stay___str__) :=
  ⟨rfl, rfl, rfl, by decide +kernel, rfl, by decide +kernel, by decide +kernel⟩
abbrev s_Stretch___init__ : Stmt := inClass (top 20) 0
theorem sc_Stretch___init__ : FnScope ["self", "day", "nights"] ["self", "day", "nights"] (defScope s_Stretch___init__) :=
  ⟨rfl, rfl, rfl, by decide +kernel, rfl, by decide +kernel, by decide +kernel⟩
abbrev s_Stretch_is_endless : Stmt := inClass (top 20) 1
theorem sc_Stretch_is_endless : FnScope ["self"] ["self"] (defScope s_Stretch_is_endless) :=
  ⟨rfl, rfl, rfl, by decide +kernel, rfl, by decide +kernel, by decide +kernel⟩
abbrev s_Stretch_has_stay : Stmt := inClass (top 20) 2
theorem sc_Stretch_has_stay : FnScope ["self", "stay"] ["self", "stay"] (defScope s_Stretch_has_stay) :=
  ⟨rfl, rfl, rfl, by decide +kernel, rfl, by decide +kernel, by decide +kernel⟩
abbrev s_Stretch___sub__ : Stmt := inClass (top 20) 3
theorem sc_Stretch___sub__ : FnScope ["self", "other", "left"] ["self", "other"] (defScope s_Stretch___sub__) :=
  ⟨rfl, rfl, rfl, by decide +kernel, rfl, by decide +kernel, by decide +kernel⟩
abbrev s_Stretch___eq__ : Stmt := inClass (top 20) 4
theorem sc_Stretch___eq__ : FnScope ["self", "other"] ["self", "other"] (defScope s_Stretch___eq__) :=
  ⟨rfl, rfl, rfl, by decide +kernel, rfl, by decide +kernel, by decide +kernel⟩
abbrev s_Stretch___str__ : Stmt := inClass (top 20) 5
theorem sc_Stretch___str__ : FnScope ["self"] ["self"] (defScope s_Stretch___str__) :=
  ⟨rfl, rfl, rfl, by decide +kernel, rfl, by decide +kernel, by decide +kernel⟩
abbrev s__law_pen : Stmt := top 22
theorem sc__law_pen : FnScope ["script"] ["script"] (defScope s__law_pen) :=
  ⟨rfl, rfl, rfl, by decide +kernel, rfl, by decide +kernel, by decide +kernel⟩
abbrev s__law_draw : Stmt := top 23
theorem sc__law_draw : FnScope ["pen", "many", "digit", "at", "cell", "great", "mix"] ["pen", "many"] (defScope s__law_draw) :=
  ⟨rfl, rfl, rfl, by decide +kernel, rfl, by decide +kernel, by decide +kernel⟩
abbrev s__law_pick : Stmt := top 24
theorem sc__law_pick : FnScope ["pen", "some"] ["pen", "some"] (defScope s__law_pick) :=
  ⟨rfl, rfl, rfl, by decide +kernel, rfl, by decide +kernel, by decide +kernel⟩
abbrev s__law_heard : Stmt := top 25
theorem sc__law_heard : FnScope ["ask", "caught", "found", "error"] ["ask"] (defScope s__law_heard) :=
  ⟨rfl, rfl, rfl, by decide +kernel, rfl, by decide +kernel, by decide +kernel⟩
abbrev s__law_day : Stmt := top 26
theorem sc__law_day : FnScope ["pen"] ["pen"] (defScope s__law_day) :=
  ⟨rfl, rfl, rfl, by decide +kernel, rfl, by decide +kernel, by decide +kernel⟩
abbrev s__law_is : Stmt := top 27
theorem sc__law_is : FnScope ["found", "day", "nights", "told"] ["found", "day", "nights"] (defScope s__law_is) :=
  ⟨rfl, rfl, rfl, by decide +kernel, rfl, by decide +kernel, by decide +kernel⟩
abbrev s__law_unlike_right : Stmt := top 28
theorem sc__law_unlike_right : FnScope ["pen", "day", "nights", "found", "near", "thing"] ["pen", "day", "nights"] (defScope s__law_unlike_right) :=
  ⟨rfl, rfl, rfl, by decide +kernel, rfl, by decide +kernel, by decide +kernel⟩
abbrev s__law_parts_right : Stmt := top 29
theorem sc__law_parts_right : FnScope ["pen", "day", "nights", "found", "first", "long", "stay", "is_in_so", "heard", "left", "right", "behind"] ["pen", "day", "nights"] (defScope s__law_parts_right) :=
  ⟨rfl, rfl, rfl, by decide +kernel, rfl, by decide +kernel, by decide +kernel⟩
abbrev s__law_refused_right : Stmt := top 30
theorem sc__law_refused_right : FnScope ["pen", "odd", "strange", "heard"] ["pen"] (defScope s__law_refused_right) :=
  ⟨rfl, rfl, rfl, by decide +kernel, rfl, by decide +kernel, by decide +kernel⟩
abbrev s_law : Stmt := top 31
theorem sc_law : FnScope ["script", "pen", "turn", "day", "nights", "ends"] ["script"] (defScope s_law) :=
  ⟨rfl, rfl, rfl, by decide +kernel, rfl, by decide +kernel, by decide +kernel⟩
structure Tx (K : PySem.W.Frag) (mg : Str → Option Value) where
  f_is_whole : Addr
  d_is_whole : FuncData
  f_is_from : Addr
  d_is_from : FuncData
  f_is_day : Addr
  d_is_day : FuncData
  c_StayError : Addr
  c_BadStay : Addr
  f_BadStay___init__ : Addr
  d_BadStay___init__ : FuncData
  c_BadStretch : Addr
  f_BadStretch___init__ : Addr
  d_BadStretch___init__ : FuncData
  c_Outside : Addr
  f_Outside___init__ : Addr
  d_Outside___init__ : FuncData
  c_Stay : Addr
  f_Stay___init__ : Addr
  d_Stay___init__ : FuncData
  f_Stay___str__ : Addr
  d_Stay___str__ : FuncData
  c_Stretch : Addr
  f_Stretch___init__ : Addr
  d_Stretch___init__ : FuncData
  f_Stretch_has_stay : Addr
  d_Stretch_has_stay : FuncData
  f_Stretch___sub__ : Addr
  d_Stretch___sub__ : FuncData
  f_Stretch___eq__ : Addr
  d_Stretch___eq__ : FuncData
  f_Stretch___str__ : Addr
  d_Stretch___str__ : FuncData
  f_Stretch_is_endless : Addr
  p_Stretch_is_endless : Addr
  d_Stretch_is_endless : FuncData
  f__law_pen : Addr
  d__law_pen : FuncData
  f__law_draw : Addr
  d__law_draw : FuncData
  f__law_pick : Addr
  d__law_pick : FuncData
  f__law_heard : Addr
  d__law_heard : FuncData
  f__law_day : Addr
  d__law_day : FuncData
  f__law_is : Addr
  d__law_is : FuncData
  f__law_unlike_right : Addr
  d__law_unlike_right : FuncData
  f__law_parts_right : Addr
  d__law_parts_right : FuncData
  f__law_refused_right : Addr
  d__law_refused_right : FuncData
  f_law : Addr
  d_law : FuncData
  cc__law_parts_right : Addr
  tp__law_parts_right : Addr
  cc__law_refused_right : Addr
  tp__law_refused_right : Addr
  g_is_whole : mg "is_whole" = some (.ref f_is_whole)
  F_is_whole : Fun K "is_whole" "is_whole" s_is_whole f_is_whole d_is_whole
  bd_is_whole : Binds K d_is_whole ["value"] []
  g_is_from : mg "is_from" = some (.ref f_is_from)
  F_is_from : Fun K "is_from" "is_from" s_is_from f_is_from d_is_from
  bd_is_from : Binds K d_is_from ["value", "least", "most"] []
  g_is_day : mg "is_day" = some (.ref f_is_day)
  F_is_day : Fun K "is_day" "is_day" s_is_day f_is_day d_is_day
  bd_is_day : Binds K d_is_day ["value"] []
  g_StayError : mg "StayError" = some (.ref c_StayError)
  g_BadStay : mg "BadStay" = some (.ref c_BadStay)
  x_BadStay : OexC K c_BadStay
  xf_BadStay : XfC K c_BadStay
  xc_BadStay : ExcC K c_BadStay
  nx_BadStay_part : PySem.W.findIn K (.ref c_BadStay) "part" = some none
  fi_BadStay___init__ : PySem.W.findIn K (.ref c_BadStay) "__init__" = some (some (.ref f_BadStay___init__))
  isf_BadStay___init__ : PySem.W.isFn K (.ref f_BadStay___init__) = true
  F_BadStay___init__ : Fun K "__init__" "BadStay.__init__" s_BadStay___init__ f_BadStay___init__ d_BadStay___init__
  bd_BadStay___init__ : Binds K d_BadStay___init__ ["self", "part"] []
  ti_BadStay : PySem.W.typeIn K (.ref f_BadStay___init__) = some (.type "function")
  g_BadStretch : mg "BadStretch" = some (.ref c_BadStretch)
  x_BadStretch : OexC K c_BadStretch
  xf_BadStretch : XfC K c_BadStretch
  xc_BadStretch : ExcC K c_BadStretch
  nx_BadStretch_part : PySem.W.findIn K (.ref c_BadStretch) "part" = some none
  fi_BadStretch___init__ : PySem.W.findIn K (.ref c_BadStretch) "__init__" = some (some (.ref f_BadStretch___init__))
  isf_BadStretch___init__ : PySem.W.isFn K (.ref f_BadStretch___init__) = true
  F_BadStretch___init__ : Fun K "__init__" "BadStretch.__init__" s_BadStretch___init__ f_BadStretch___init__ d_BadStretch___init__
  bd_BadStretch___init__ : Binds K d_BadStretch___init__ ["self", "part"] []
  ti_BadStretch : PySem.W.typeIn K (.ref f_BadStretch___init__) = some (.type "function")
  g_Outside : mg "Outside" = some (.ref c_Outside)
  x_Outside : OexC K c_Outside
  xf_Outside : XfC K c_Outside
  xc_Outside : ExcC K c_Outside
  nx_Outside_stay : PySem.W.findIn K (.ref c_Outside) "stay" = some none
  fi_Outside___init__ : PySem.W.findIn K (.ref c_Outside) "__init__" = some (some (.ref f_Outside___init__))
  isf_Outside___init__ : PySem.W.isFn K (.ref f_Outside___init__) = true
  F_Outside___init__ : Fun K "__init__" "Outside.__init__" s_Outside___init__ f_Outside___init__ d_Outside___init__
  bd_Outside___init__ : Binds K d_Outside___init__ ["self", "stay"] []
  ti_Outside : PySem.W.typeIn K (.ref f_Outside___init__) = some (.type "function")
  g_Stay : mg "Stay" = some (.ref c_Stay)
  cl_Stay : Cls K c_Stay
  own_Stay : OwnC K c_Stay
  na_Stay_first : NoAttr K c_Stay "first"
  na_Stay_after : NoAttr K c_Stay "after"
  na_Stay__nights : NoAttr K c_Stay "_nights"
  fi_Stay___init__ : PySem.W.findIn K (.ref c_Stay) "__init__" = some (some (.ref f_Stay___init__))
  isf_Stay___init__ : PySem.W.isFn K (.ref f_Stay___init__) = true
  F_Stay___init__ : Fun K "__init__" "Stay.__init__" s_Stay___init__ f_Stay___init__ d_Stay___init__
  bd_Stay___init__ : Binds K d_Stay___init__ ["self", "first", "after"] []
  fi_Stay___str__ : PySem.W.findIn K (.ref c_Stay) "__str__" = some (some (.ref f_Stay___str__))
  isf_Stay___str__ : PySem.W.isFn K (.ref f_Stay___str__) = true
  F_Stay___str__ : Fun K "__str__" "Stay.__str__" s_Stay___str__ f_Stay___str__ d_Stay___str__
  bd_Stay___str__ : Binds K d_Stay___str__ ["self"] []
  g_Stretch : mg "Stretch" = some (.ref c_Stretch)
  cl_Stretch : Cls K c_Stretch
  own_Stretch : OwnC K c_Stretch
  na_Stretch_day : NoAttr K c_Stretch "day"
  na_Stretch_nights : NoAttr K c_Stretch "nights"
  fi_Stretch___init__ : PySem.W.findIn K (.ref c_Stretch) "__init__" = some (some (.ref f_Stretch___init__))
  isf_Stretch___init__ : PySem.W.isFn K (.ref f_Stretch___init__) = true
  F_Stretch___init__ : Fun K "__init__" "Stretch.__init__" s_Stretch___init__ f_Stretch___init__ d_Stretch___init__
  bd_Stretch___init__ : Binds K d_Stretch___init__ ["self", "day", "nights"] []
  fi_Stretch_has_stay : PySem.W.findIn K (.ref c_Stretch) "has_stay" = some (some (.ref f_Stretch_has_stay))
  isf_Stretch_has_stay : PySem.W.isFn K (.ref f_Stretch_has_stay) = true
  F_Stretch_has_stay : Fun K "has_stay" "Stretch.has_stay" s_Stretch_has_stay f_Stretch_has_stay d_Stretch_has_stay
  bd_Stretch_has_stay : Binds K d_Stretch_has_stay ["self", "stay"] []
  fi_Stretch___sub__ : PySem.W.findIn K (.ref c_Stretch) "__sub__" = some (some (.ref f_Stretch___sub__))
  isf_Stretch___sub__ : PySem.W.isFn K (.ref f_Stretch___sub__) = true
  F_Stretch___sub__ : Fun K "__sub__" "Stretch.__sub__" s_Stretch___sub__ f_Stretch___sub__ d_Stretch___sub__
  bd_Stretch___sub__ : Binds K d_Stretch___sub__ ["self", "other"] []
  fi_Stretch___eq__ : PySem.W.findIn K (.ref c_Stretch) "__eq__" = some (some (.ref f_Stretch___eq__))
  isf_Stretch___eq__ : PySem.W.isFn K (.ref f_Stretch___eq__) = true
  F_Stretch___eq__ : Fun K "__eq__" "Stretch.__eq__" s_Stretch___eq__ f_Stretch___eq__ d_Stretch___eq__
  bd_Stretch___eq__ : Binds K d_Stretch___eq__ ["self", "other"] []
  fi_Stretch___str__ : PySem.W.findIn K (.ref c_Stretch) "__str__" = some (some (.ref f_Stretch___str__))
  isf_Stretch___str__ : PySem.W.isFn K (.ref f_Stretch___str__) = true
  F_Stretch___str__ : Fun K "__str__" "Stretch.__str__" s_Stretch___str__ f_Stretch___str__ d_Stretch___str__
  bd_Stretch___str__ : Binds K d_Stretch___str__ ["self"] []
  F_Stretch_is_endless : Fun K "is_endless" "Stretch.is_endless" s_Stretch_is_endless f_Stretch_is_endless d_Stretch_is_endless
  bd_Stretch_is_endless : Binds K d_Stretch_is_endless ["self"] []
  pp_Stretch_is_endless : PropOf K c_Stretch "is_endless" p_Stretch_is_endless f_Stretch_is_endless
  exm_Outside : PySem.W.exmOne K (.ref c_Outside) (.ref c_StayError) = some true
  kit_Outside_Outside : PySem.W.kitOne K (.ref c_Outside) (.ref c_Outside) = some true
  kit_Outside_BadStretch : PySem.W.kitOne K (.ref c_Outside) (.ref c_BadStretch) = some false
  exm_BadStretch : PySem.W.exmOne K (.ref c_BadStretch) (.ref c_StayError) = some true
  kit_BadStretch_Outside : PySem.W.kitOne K (.ref c_BadStretch) (.ref c_Outside) = some false
  kit_BadStretch_BadStretch : PySem.W.kitOne K (.ref c_BadStretch) (.ref c_BadStretch) = some true
  kit_Stretch : PySem.W.kitOne K (.ref c_Stretch) (.ref c_Stretch) = some true
  sb_Stretch_NoneType : PySem.W.subIn K (.ref c_Stretch) (.type "NoneType") = some false
  kit_NoneType_Stretch : PySem.W.kitOne K (.type "NoneType") (.ref c_Stretch) = some false
  sb_Stretch_int : PySem.W.subIn K (.ref c_Stretch) (.type "int") = some false
  kit_int_Stretch : PySem.W.kitOne K (.type "int") (.ref c_Stretch) = some false
  sb_Stretch_str : PySem.W.subIn K (.ref c_Stretch) (.type "str") = some false
  kit_str_Stretch : PySem.W.kitOne K (.type "str") (.ref c_Stretch) = some false
  sb_Stretch_tuple : PySem.W.subIn K (.ref c_Stretch) (.type "tuple") = some false
  kit_tuple_Stretch : PySem.W.kitOne K (.type "tuple") (.ref c_Stretch) = some false
  g__law_pen : mg "_law_pen" = some (.ref f__law_pen)
  F__law_pen : Fun K "_law_pen" "_law_pen" s__law_pen f__law_pen d__law_pen
  bd__law_pen : Binds K d__law_pen ["script"] []
  g__law_draw : mg "_law_draw" = some (.ref f__law_draw)
  F__law_draw : Fun K "_law_draw" "_law_draw" s__law_draw f__law_draw d__law_draw
  bd__law_draw : Binds K d__law_draw ["pen", "many"] []
  g__law_pick : mg "_law_pick" = some (.ref f__law_pick)
  F__law_pick : Fun K "_law_pick" "_law_pick" s__law_pick f__law_pick d__law_pick
  bd__law_pick : Binds K d__law_pick ["pen", "some"] []
  g__law_heard : mg "_law_heard" = some (.ref f__law_heard)
  F__law_heard : Fun K "_law_heard" "_law_heard" s__law_heard f__law_heard d__law_heard
  bd__law_heard : Binds K d__law_heard ["ask"] []
  g__law_day : mg "_law_day" = some (.ref f__law_day)
  F__law_day : Fun K "_law_day" "_law_day" s__law_day f__law_day d__law_day
  bd__law_day : Binds K d__law_day ["pen"] []
  g__law_is : mg "_law_is" = some (.ref f__law_is)
  F__law_is : Fun K "_law_is" "_law_is" s__law_is f__law_is d__law_is
  bd__law_is : Binds K d__law_is ["found", "day", "nights"] []
  g__law_unlike_right : mg "_law_unlike_right" = some (.ref f__law_unlike_right)
  F__law_unlike_right : Fun K "_law_unlike_right" "_law_unlike_right" s__law_unlike_right f__law_unlike_right d__law_unlike_right
  bd__law_unlike_right : Binds K d__law_unlike_right ["pen", "day", "nights"] []
  g__law_parts_right : mg "_law_parts_right" = some (.ref f__law_parts_right)
  F__law_parts_right : Fun K "_law_parts_right" "_law_parts_right" s__law_parts_right f__law_parts_right d__law_parts_right
  bd__law_parts_right : Binds K d__law_parts_right ["pen", "day", "nights"] []
  g__law_refused_right : mg "_law_refused_right" = some (.ref f__law_refused_right)
  F__law_refused_right : Fun K "_law_refused_right" "_law_refused_right" s__law_refused_right f__law_refused_right d__law_refused_right
  bd__law_refused_right : Binds K d__law_refused_right ["pen"] []
  g_law : mg "law" = some (.ref f_law)
  F_law : Fun K "law" "law" s_law f_law d_law
  bd_law : Binds K d_law ["script"] []
  b_isinstance : mg "isinstance" = none
  b_int : mg "int" = none
  b_bool : mg "bool" = none
  b_len : mg "len" = none
  b_tuple : mg "tuple" = none
  b_range : mg "range" = none
  b_list : mg "list" = none
  b_abs : mg "abs" = none
  b_str : mg "str" = none
  b_repr : mg "repr" = none
  b_min : mg "min" = none
  b_max : mg "max" = none
  g_LAST_DAY : ∃ t, mg "LAST_DAY" = some (.int 999999999999 t)
  g_MOST_NIGHTS : ∃ t, mg "MOST_NIGHTS" = some (.int 400 t)
  cr_Stay : CRead K c_Stay (.type "type")
  cv_Stay_MOST : ∃ u, CVal K c_Stay (.type "type") "MOST" (.int 400) u
  code__law_parts_right : d__law_parts_right.code = .ref cc__law_parts_right
  code__law_refused_right : d__law_refused_right.code = .ref cc__law_refused_right
  tp_ne : tp__law_parts_right ≠ tp__law_refused_right
  mk_Stay : Mk K c_Stay f_Stay___init__
  sm_Stay___str__ : SpM K c_Stay f_Stay___str__ "__str__"
  mk_Stretch : Mk K c_Stretch f_Stretch___init__
  me_Stretch_has_stay : Meth K c_Stretch "has_stay" f_Stretch_has_stay
  eq_Stretch : EqM K c_Stretch f_Stretch___eq__
  sm_Stretch___str__ : SpM K c_Stretch f_Stretch___str__ "__str__"
  op_Stretch_sub : OpM K .Sub c_Stretch f_Stretch___sub__
  nn_Stay_sub : NoNum K .Sub c_Stay
end NN

open AW L2
-- what is known at an address
local macro_rules | `(tactic| walk_at "kn") => `(tactic| first
  | assumption
  | exact upd_same
  | ((with_reducible refine' keep2 ?h1 ?h2); (case h1 => first | assumption | (exact Ne.symm (by assumption))); (case h2 => walk_at "kn"))
  | ((with_reducible refine' know ?h1 ?h2); (case h1 => assumption); (case h2 => walk_at "kn"))
  | ((with_reducible refine' Ext.know ?h1 ?h2); (case h1 => assumption); (case h2 => walk_at "kn")))
-- one step
local macro_rules | `(tactic| walk_at "w1") => `(tactic| first
  | ((with_reducible refine' w_var ?hv ?_); (case hv => rfl))
  | with_reducible refine' w_c ?_
  | with_reducible refine' w_op ?_
  | with_reducible refine' r_I0 ?_
  | with_reducible refine' w_nil ?_
  | with_reducible refine' w_cons ?_
  | with_reducible refine' w_cb ?_
  | with_reducible refine' r_int1 ?_
  | with_reducible refine' r_int1b ?_
  | with_reducible refine' r_abs ?_
  | ((with_reducible refine' r_lenL ?h1 ?_); (case h1 => walk_at "kn"))
  | ((with_reducible refine' r_lenT ?h1 ?_); (case h1 => walk_at "kn"))
  | ((with_reducible refine' r_neV ?h1 ?_); (case h1 => rfl))
  | ((with_reducible refine' r_eqV ?h1 ?_); (case h1 => rfl))
  | ((with_reducible refine' r_eq ?h1 ?_); (case h1 => rfl))
  | ((with_reducible refine' r_ne ?h1 ?_); (case h1 => rfl))
  | ((with_reducible refine' r_ixL ?h1 ?h2 ?_); (case h1 => walk_at "kn"); (case h2 => rfl))
  | ((with_reducible refine' r_ixT ?h1 ?h2 ?_); (case h1 => walk_at "kn"); (case h2 => rfl))
  | with_reducible refine' w_test ?_
  | with_reducible refine' w_B ?_
  | with_reducible refine' w_un ?_
  | with_reducible refine' r_U ?_
  | with_reducible refine' w_and ?_
  | with_reducible refine' w_or ?_
  | with_reducible refine' w_not ?_
  | with_reducible refine' w_andV ?_
  | with_reducible refine' w_orV ?_
  | with_reducible refine' w_notV ?_
  | with_reducible refine' w_ifE ?_
  | with_reducible refine' r_isNt ?_
  | with_reducible refine' r_isNr ?_
  | with_reducible refine' w_chain ?_
  | with_reducible refine' w_tupRg ?_
  | with_reducible refine' w_joined ?_
  | with_reducible refine' w_js0 ?_
  | with_reducible refine' w_js ?_
  | with_reducible refine' w_cval ?_
  | with_reducible refine' s_fld ?_
  | with_reducible refine' w_tup ?_
  | with_reducible refine' w_lst ?_
  | with_reducible refine' w_sl ?_
  | with_reducible refine' w_part ?_
  | with_reducible refine' w_noPart ?_
  | with_reducible refine' s_seq ?_
  | with_reducible refine' s_next ?_
  | with_reducible refine' s_ret ?_
  | with_reducible refine' s_retN ?_
  | with_reducible refine' s_drop ?_
  | with_reducible refine' s_brk ?_
  | with_reducible refine' s_cont ?_
  | with_reducible refine' s_set ?_
  | with_reducible refine' s_asg ?_
  | with_reducible refine' s_par ?_
  | ((with_reducible refine' s_aug ?h1 ?_); (case h1 => rfl))
  | with_reducible refine' g_name ?_
  | with_reducible refine' g_cons ?_
  | with_reducible refine' g_nil ?_
  | with_reducible refine' g_set ?_
  | with_reducible refine' both_t ?_
  | with_reducible refine' both_f ?_
  | with_reducible refine' both_nt ?_
  | with_reducible refine' both_nf ?_
  | with_reducible refine' bor_t ?_
  | with_reducible refine' bor_f ?_
  | with_reducible refine' bor_nt ?_
  | with_reducible refine' bor_nf ?_
  | with_reducible refine' ⟨_, rfl, ?_⟩)
local macro_rules | `(tactic| walk_at "w") => `(tactic| repeat (first | walk_at "w1" | dsimp only))
local macro_rules | `(tactic| walk_at "if") => `(tactic| ((with_reducible refine' s_if ?_); walk_at "w"; refine ⟨fun hb => ?_, fun hb => ?_⟩))
local macro_rules | `(tactic| walk_at "wi") => `(tactic| repeat (first | walk_at "w1" | with_reducible refine' s_if ?_ | dsimp only))

namespace NN
open PySem PySem.Spec PyProof.Rows L2 LamX AW ClX
/-! ### promises -/
/-- a value that is no whole number -/
def Odd (K : PySem.W.Frag) (kn : Hp) (x : V) : Prop := ∃ t bi, TyX K kn x t ∧ PySem.W.kitOne K t (.type "int") = some bi ∧ (bi = true → PySem.W.kitOne K t (.type "bool") = some true)
def bWhole (K : PySem.W.Frag) : List V → Hp → AK → AXK → Prop := fun vs kn Q _ => ∃ x, vs = [x] ∧ ((∃ i, x = .int i ∧ Q (.bl true) kn) ∨ (Odd K kn x ∧ Q (.bl false) kn))
def bFrom (K : PySem.W.Frag) : List V → Hp → AK → AXK → Prop := fun vs kn Q _ => ∃ x lo hi, vs = [x, .int lo, .int hi] ∧ ((∃ i, x = .int i ∧ Q (.bl (decide (lo ≤ i) && decide (i ≤ hi))) kn) ∨ (Odd K kn x ∧ Q (.bl false) kn))
abbrev lastDay : Int := 999999999999
def bDay (K : PySem.W.Frag) : List V → Hp → AK → AXK → Prop := fun vs kn Q _ => ∃ x, vs = [x] ∧ ((∃ i, x = .int i ∧ Q (.bl (decide (-lastDay ≤ i) && decide (i ≤ lastDay))) kn) ∨ (Odd K kn x ∧ Q (.bl false) kn))
section
variable {K : PySem.W.Frag}
theorem mo_whole : MonoX (bWhole K) := by
  rintro vs kn Q R E F h1 h2 ⟨x, e, ⟨i, e2, h⟩ | ⟨o, h⟩⟩
  · exact ⟨x, e, .inl ⟨i, e2, h1 _ _ h⟩⟩
  · exact ⟨x, e, .inr ⟨o, h1 _ _ h⟩⟩
theorem mo_from : MonoX (bFrom K) := by
  rintro vs kn Q R E F h1 h2 ⟨x, lo, hi, e, ⟨i, e2, h⟩ | ⟨o, h⟩⟩
  · exact ⟨x, lo, hi, e, .inl ⟨i, e2, h1 _ _ h⟩⟩
  · exact ⟨x, lo, hi, e, .inr ⟨o, h1 _ _ h⟩⟩
theorem mo_day : MonoX (bDay K) := by
  rintro vs kn Q R E F h1 h2 ⟨x, e, ⟨i, e2, h⟩ | ⟨o, h⟩⟩
  · exact ⟨x, e, .inl ⟨i, e2, h1 _ _ h⟩⟩
  · exact ⟨x, e, .inr ⟨o, h1 _ _ h⟩⟩
theorem odd_ext {kn kn' : Hp} {x : V} (e : Ext kn kn') (h : Odd K kn x) : Odd K kn' x := by
  obtain ⟨t, bi, a, b, d⟩ := h
  exact ⟨t, bi, tyx_ext e a, b, d⟩
end
section
variable {P : Program} {w : World} {K : PySem.W.Frag} {mg : Str → Option Value} {base : Heap}
theorem ok_is_whole (T : Tx K mg) : FnOk P w K mg base CX0 1 T.f_is_whole T.d_is_whole ["value"] (liftX (bWhole K)) := by
  refine T.F_is_whole.ok sc_is_whole (fun vs H Q E h => ?_) (fun cdv A outer s H vs Q E hr h => ?_)
  · obtain ⟨kn, _, _, x, rfl, _⟩ := h
    rfl
  · obtain ⟨kn, e, nt, x, rfl, h⟩ := h
    refine ⟨_, (pss_one (ps_ret (pe_and (pe_callB call_isi (by rfl) T.b_isinstance (by decide +kernel) (pa_cons (pv 0) (pa_cons (pe_bltn (v := .ty "int") (u := .type "int") (by rfl) T.b_int (by decide +kernel) rfl) pa_nil))) (pe_one (pe_not (pe_callB call_isi (by rfl) T.b_isinstance (by decide +kernel) (pa_cons (pv 0) (pa_cons (pe_bltn (v := .ty "bool") (u := .type "bool") (by rfl) T.b_bool (by decide +kernel) rfl) pa_nil)))))))), ?_⟩
    refine body_of (pure_start e nt) ?_
    walk_at "wi"
    rcases h with ⟨i, rfl, h⟩ | ⟨⟨t, bi, ty, e1, e2⟩, h⟩
    · refine r_isi (.ty _) (.base (.int i)) (kit_ty rfl) ?_
      walk_at "wi"
      refine r_isi (.ty _) (.base (.int i)) (kit_ty rfl) ?_
      walk_at "wi"
      exact h 0
    · refine r_isi (.ty _) ty e1 ?_
      walk_at "wi"
      refine ⟨fun hb => ?_, fun hb => h 0⟩
      walk_at "wi"
      refine r_isi (.ty _) ty (e2 hb) ?_
      walk_at "wi"
      exact h 0
theorem ok_is_from (T : Tx K mg) : FnOk P w K mg base CX0 2 T.f_is_from T.d_is_from ["value", "least", "most"] (liftX (bFrom K)) := by
  refine T.F_is_from.ok sc_is_from (fun vs H Q E h => ?_) (fun cdv A outer s H vs Q E hr h => ?_)
  · obtain ⟨kn, _, _, x, lo, hi, rfl, _⟩ := h
    rfl
  · obtain ⟨kn, e, nt, x, lo, hi, rfl, h⟩ := h
    refine ⟨_, (pss_one (ps_ret (pe_and (pe_call (ok_is_whole T) (hr.mono (by decide)) (by rfl) T.g_is_whole T.F_is_whole.kp T.bd_is_whole .nil pass0 (pa_cons (pv 0) pa_nil)) (pe_one (pe_chain op_le op_le (pv 1) (pv 0) (pv 2)))))), ?_⟩
    refine body_of (pure_start e nt) ?_
    walk_at "wi"
    refine w_call mo_whole err_no ?_
    walk_at "wi"
    refine ⟨_, rfl, ?_⟩
    rcases h with ⟨i, rfl, h⟩ | ⟨o, h⟩
    · refine .inl ⟨i, rfl, ?_⟩
      walk_at "wi"
      refine ⟨fun hb => ?_, fun hb => ?_⟩
      · walk_at "wi"
        rw [hb] at h
        exact h 0
      · rw [hb] at h
        exact h 0
    · refine .inr ⟨o, ?_⟩
      walk_at "wi"
      exact h 0
theorem ok_is_day (T : Tx K mg) : FnOk P w K mg base CX0 3 T.f_is_day T.d_is_day ["value"] (liftX (bDay K)) := by
  refine T.F_is_day.ok sc_is_day (fun vs H Q E h => ?_) (fun cdv A outer s H vs Q E hr h => ?_)
  · obtain ⟨kn, _, _, x, rfl, _⟩ := h
    rfl
  · obtain ⟨kn, e, nt, x, rfl, h⟩ := h
    refine ⟨_, (pss_one (ps_ret (pe_call (ok_is_from T) (hr.mono (by decide)) (by rfl) T.g_is_from T.F_is_from.kp T.bd_is_from .nil pass0 (pa_cons (pv 0) (pa_cons (pe_un un_neg (pe_glob (v := .int 999999999999) (by rfl) (Classical.choose_spec T.g_LAST_DAY) ⟨_, rfl⟩)) (pa_cons (pe_glob (v := .int 999999999999) (by rfl) (Classical.choose_spec T.g_LAST_DAY) ⟨_, rfl⟩) pa_nil)))))), ?_⟩
    refine body_of (pure_start e nt) ?_
    walk_at "wi"
    refine w_call mo_from err_no ?_
    walk_at "wi"
    refine ⟨_, _, _, rfl, ?_⟩
    rcases h with ⟨i, rfl, h⟩ | ⟨o, h⟩
    · exact .inl ⟨i, rfl, h 0⟩
    · exact .inr ⟨o, h 0⟩
end

end NN

namespace NN
open PySem PySem.Spec PyProof.Rows L2 LamX AW ClX
/-! ### the stay -/
def isDay (i : Int) : Prop := -lastDay ≤ i ∧ i ≤ lastDay
def NotDay (K : PySem.W.Frag) (kn : Hp) (x : V) : Prop := (∃ i, x = .int i ∧ ¬ isDay i) ∨ Odd K kn x
abbrev stayF (f e : Int) (q : Addr) : List (Str × V) := [("first", .int f), ("after", .int e), ("_nights", .ref q)]
structure StayAt (C : Addr) (kn : Hp) (s : Addr) (f e : Int) : Prop where
  at_ : ∃ dx q, kn s = some (.ins C dx (stayF f e q)) ∧ kn q = some (.tup (rgV f e))
  d1 : isDay f
  d2 : isDay e
  lt : f < e
  most : e ≤ f + 400
abbrev xdPart (kn : Hp) (d : Addr) (p : Str) : Hp := upd kn d (.xd [("part", .str p)])
def bInit (K : PySem.W.Frag) (C B : Addr) : List V → Hp → AK → AXK → Prop := fun vs kn Q E => ∃ a dx x y, vs = [.ref a, x, y] ∧ kn a = some (.ins C dx []) ∧
  ((∃ f e, x = .int f ∧ y = .int e ∧ isDay f ∧ isDay e ∧ f < e ∧ e ≤ f + 400 ∧ ∀ q, kn q = none → Q .non (upd (upd kn q (.tup (rgV f e))) a (.ins C dx (stayF f e q)))) ∨
   (NotDay K kn x ∧ ∀ d, kn d = none → E (.ref B) (some d) (xdPart kn d "first")) ∨
   (∃ f, x = .int f ∧ isDay f ∧ (NotDay K kn y ∨ ∃ e, y = .int e ∧ isDay e ∧ ¬(f < e ∧ e ≤ f + 400)) ∧ ∀ d, kn d = none → E (.ref B) (some d) (xdPart kn d "after")))
section
variable {K : PySem.W.Frag} {C B : Addr}
theorem rg_day {f e : Int} (df : isDay f) (de : isDay e) (l : e ≤ f + 400) : RgOk f e := by
  have h1 : -999999999999 ≤ f ∧ f ≤ 999999999999 := df
  have h2 : -999999999999 ≤ e ∧ e ≤ 999999999999 := de
  exact ⟨by omega, by omega, by omega, by omega, by omega⟩
theorem mo_init : MonoX (bInit K C B) := by
  rintro vs kn Q R E F h1 h2 ⟨a, dx, x, y, e, ha, ⟨f, e', b1, b2, b3, b4, b5, b6, h⟩ | ⟨b, h⟩ | ⟨f, b1, b2, b3, h⟩⟩
  · exact ⟨a, dx, x, y, e, ha, .inl ⟨f, e', b1, b2, b3, b4, b5, b6, fun q hq => h1 _ _ (h q hq)⟩⟩
  · exact ⟨a, dx, x, y, e, ha, .inr (.inl ⟨b, fun d hd => h2 _ _ _ (h d hd)⟩)⟩
  · exact ⟨a, dx, x, y, e, ha, .inr (.inr ⟨f, b1, b2, b3, fun d hd => h2 _ _ _ (h d hd)⟩)⟩
theorem upd3 {kn : Hp} {a q : Addr} {o1 o2 o3 o4 : HO} : upd (upd (upd (upd kn a o1) a o2) q o3) a o4 = upd (upd kn q o3) a o4 := by
  funext x
  by_cases h1 : x = a
  · rw [h1, upd_same, upd_same]
  · rw [upd_ne h1, upd_ne h1]
    by_cases h2 : x = q
    · rw [h2, upd_same, upd_same]
    · rw [upd_ne h2, upd_ne h1, upd_ne h1, upd_ne h2]
end
section
variable {P : Program} {w : World} {K : PySem.W.Frag} {mg : Str → Option Value} {base : Heap}
theorem ok_BadStay___init__ (T : Tx K mg) : FnOk P w K mg base CX0 1 T.f_BadStay___init__ T.d_BadStay___init__ ["self", "part"] (spX1 K "part") := by
  refine T.F_BadStay___init__.ok sc_BadStay___init__ (fun vs H Q E h => ?_) (fun cdv A outer s H vs Q E hr h => ?_)
  · obtain ⟨a, C, y, rfl, _⟩ := h
    rfl
  · obtain ⟨a, C, y, rfl, oc, hf, ha, h⟩ := h
    refine ⟨_, (pss_one (ps_ost (pv 0) (pv 1))), ?_⟩
    refine ⟨_, rfl, _, rfl, a, C, rfl, oc, hf, .inl ⟨ha, h⟩⟩
theorem w_day {kn : Hp} {x : V} {Q : AK} {E : AXK} (h : (∃ i, x = .int i ∧ isDay i ∧ Q (.bl true) kn) ∨ (NotDay K kn x ∧ Q (.bl false) kn)) : bDay K [x] kn Q E := by
  rcases h with ⟨i, e, d, q⟩ | ⟨⟨i, e, d⟩ | o, q⟩
  · refine ⟨x, rfl, .inl ⟨i, e, ?_⟩⟩
    rw [decide_eq_true d.1, decide_eq_true d.2]
    exact q
  · refine ⟨x, rfl, .inl ⟨i, e, ?_⟩⟩
    have z : (decide (-lastDay ≤ i) && decide (i ≤ lastDay)) = false := by
      cases y : (decide (-lastDay ≤ i) && decide (i ≤ lastDay)) with
      | false => rfl
      | true =>
        rw [Bool.and_eq_true] at y
        exact absurd ⟨of_decide_eq_true y.1, of_decide_eq_true y.2⟩ d
    rw [z]
    exact q
  · exact ⟨x, rfl, .inr ⟨o, q⟩⟩
theorem ok_Stay___init__ (T : Tx K mg) : FnOk P w K mg base (L2.CX P w) 4 T.f_Stay___init__ T.d_Stay___init__ ["self", "first", "after"] (liftX (bInit K T.c_Stay T.c_BadStay)) := by
  refine T.F_Stay___init__.okX sc_Stay___init__ (fun vs H Q E h => ?_) (fun cdv A outer s H vs Q E hr h => ?_)
  · obtain ⟨kn, _, _, a, dx, x, y, rfl, _⟩ := h
    rfl
  · obtain ⟨kn, ex, nt, a, dx, x, y, rfl, ha, h⟩ := h
    refine ⟨_, (pss_cons (ps_if (pt_not (pt_val (pe_call (ok_is_day T) (hr.mono (by decide)) (by rfl) T.g_is_day T.F_is_day.kp T.bd_is_day .nil pass0 (pa_cons (pv 1) pa_nil))))
       (pss_one (ps_raise rfl (takes_of rfl rfl rfl rfl) (pmk_oex T.x_BadStay T.fi_BadStay___init__ T.ti_BadStay (ok_BadStay___init__ T) (hr.mono (by decide)) T.bd_BadStay___init__ .nil pass0 (by rfl) T.g_BadStay (pa_cons pe_str pa_nil))))
       pss_nil)
       (pss_cons (ps_if (PW.pt (pw_or (pt_not (pt_val (pe_call (ok_is_day T) (hr.mono (by decide)) (by rfl) T.g_is_day T.F_is_day.kp T.bd_is_day .nil pass0 (pa_cons (pv 2) pa_nil)))) (pw_or1 (pt_not (pt_chain op_lt op_le (pv 1) (pv 2) (pe_op op_add (pv 1) (pe_cval (pe_glob (v := .ref T.c_Stay) (by rfl) T.g_Stay rfl))))))))
       (pss_one (ps_raise rfl (takes_of rfl rfl rfl rfl) (pmk_oex T.x_BadStay T.fi_BadStay___init__ T.ti_BadStay (ok_BadStay___init__ T) (hr.mono (by decide)) T.bd_BadStay___init__ .nil pass0 (by rfl) T.g_BadStay (pa_cons pe_str pa_nil))))
       pss_nil)
       (pss_cons (ps_fld (pv 0) (pv 1) rfl)
       (pss_cons (ps_fld (pv 0) (pv 2) rfl)
       (pss_one (ps_fld (pv 0) (pe_tupRg rfl (by rfl) T.b_tuple (prg_2 (by rfl) T.b_range (pv 1) (pv 2))) rfl)))))), ?_⟩
    refine body_of (pure_start ex nt) ?_
    walk_at "wi"
    refine w_call mo_day err_no ?_
    walk_at "wi"
    refine w_day ?_
    obtain ⟨mu, hmu⟩ := T.cv_Stay_MOST
    rcases h with ⟨f, e, rfl, rfl, df, de, l1, l2, h⟩ | ⟨nd, h⟩ | ⟨f, rfl, df, nd, h⟩
    · refine .inl ⟨f, rfl, df, ?_⟩
      walk_at "wi"
      refine w_call mo_day err_no ?_
      walk_at "wi"
      refine w_day (.inl ⟨e, rfl, de, ?_⟩)
      walk_at "wi"
      refine ⟨fun hb => ?_, fun hb => absurd (decide_eq_true l1) (by rw [hb]; exact Bool.false_ne_true)⟩
      walk_at "wi"
      refine ⟨_, _, _, _, rfl, T.cr_Stay, hmu, ?_⟩
      walk_at "wi"
      rw [decide_eq_true l2]
      walk_at "wi"
      refine ⟨_, _, _, _, rfl, ha, T.cl_Stay, T.na_Stay_first, by decide, ?_⟩
      walk_at "wi"
      refine ⟨_, _, _, _, rfl, upd_same, T.cl_Stay, T.na_Stay_after, (show 1 < 1000 by decide), ?_⟩
      walk_at "wi"
      refine ⟨_, _, rfl, rfl, (rg_day df de l2), fun q hq => ?_⟩
      walk_at "wi"
      refine ⟨_, _, _, _, rfl, keep2 (ne_of_none upd_same hq) upd_same, T.cl_Stay, T.na_Stay__nights, (show 2 < 1000 by decide), ?_⟩
      have hq2 : kn q = none := by
        by_cases z : q = a
        · rw [z, upd_same] at hq; cases hq
        · rw [upd_ne z, upd_ne z] at hq; exact hq
      rw [upd3]
      exact h q hq2 0
    · refine .inr ⟨nd, ?_⟩
      walk_at "wi"
      refine s_raise1 T.x_BadStay T.nx_BadStay_part err_body ?_
      walk_at "wi"
      exact fun d hd => h d hd 0
    · refine .inl ⟨f, rfl, df, ?_⟩
      walk_at "wi"
      refine w_call mo_day err_no ?_
      walk_at "wi"
      refine w_day ?_
      rcases nd with nd | ⟨e, rfl, de, ne⟩
      · refine .inr ⟨nd, ?_⟩
        walk_at "wi"
        refine s_raise1 T.x_BadStay T.nx_BadStay_part err_body ?_
        walk_at "wi"
        exact fun d hd => h d hd 0
      · refine .inl ⟨e, rfl, de, ?_⟩
        walk_at "wi"
        refine ⟨fun hb => ?_, fun hb => ?_⟩
        · walk_at "wi"
          refine ⟨_, _, _, _, rfl, T.cr_Stay, hmu, ?_⟩
          walk_at "wi"
          rw [decide_eq_false (fun z => ne ⟨of_decide_eq_true hb, z⟩)]
          walk_at "wi"
          refine s_raise1 T.x_BadStay T.nx_BadStay_part err_body ?_
          walk_at "wi"
          exact fun d hd => h d hd 0
        · walk_at "wi"
          refine s_raise1 T.x_BadStay T.nx_BadStay_part err_body ?_
          walk_at "wi"
          exact fun d hd => h d hd 0
end

end NN

namespace NN
open PySem PySem.Spec PyProof.Rows L2 LamX AW ClX
/-! ### the stay's methods -/
theorem int_eq {i j : Int} : decide (V.int i = V.int j) = decide (i = j) := decide_eq_decide.mpr ⟨V.int.inj, congrArg _⟩
theorem free_ext {kn kn' : Hp} {q : Addr} (x : Ext kn kn') (h : kn' q = none) : kn q = none := by
  cases z : kn q with
  | none => rfl
  | some o => rw [x _ _ z] at h; cases h
theorem log_small {i : Int} (h1 : -(10 ^ 13) < i) (h2 : i < 10 ^ 13) : i.natAbs.log2 < 1920 := by
  by_cases z : i.natAbs = 0
  · rw [z]; decide
  · have a : i.natAbs < 2 ^ 44 := by omega
    exact Nat.lt_trans ((Nat.log2_lt z).mpr a) (by decide)
theorem len_small {i : Int} (h1 : -(10 ^ 13) < i) (h2 : i < 10 ^ 13) : (Str.ofString (toString i)).length ≤ 14 := by
  rw [PySem.ofString_length]
  exact int_text_length_le10 (k := 13) (by decide) (by omega)
abbrev NewS (C : Addr) (kn : Hp) (f e : Int) (Q : AK) : Prop := ∀ x kn', Ext kn kn' → kn x = none → StayAt C kn' x f e → Q (.ref x) kn'
abbrev BadS (B : Addr) (kn : Hp) (p : Str) (E : AXK) : Prop := ∀ d kn', Ext kn kn' → kn d = none → kn' d = some (.xd [("part", .str p)]) → E (.ref B) (some d) kn'
def MakeOr (C B : Addr) (kn : Hp) (f e : Int) (Q : AK) (E : AXK) : Prop :=
  (isDay f ∧ isDay e ∧ f < e ∧ e ≤ f + 400 ∧ NewS C kn f e Q) ∨ (¬ isDay f ∧ BadS B kn "first" E) ∨ (isDay f ∧ (¬ isDay e ∨ (isDay e ∧ ¬(f < e ∧ e ≤ f + 400))) ∧ BadS B kn "after" E)
theorem mo_make {C B : Addr} {kn : Hp} {f e : Int} {Q R : AK} {E F : AXK} (h1 : ∀ v k, Q v k → R v k) (h2 : ∀ cls d k, E cls d k → F cls d k) (h : MakeOr C B kn f e Q E) : MakeOr C B kn f e R F := by
  rcases h with ⟨a, b, c, d, h⟩ | ⟨a, h⟩ | ⟨a, b, h⟩
  · exact .inl ⟨a, b, c, d, fun x k z1 z2 z3 => h1 _ _ (h x k z1 z2 z3)⟩
  · exact .inr (.inl ⟨a, fun x k z1 z2 z3 => h2 _ _ _ (h x k z1 z2 z3)⟩)
  · exact .inr (.inr ⟨a, b, fun x k z1 z2 z3 => h2 _ _ _ (h x k z1 z2 z3)⟩)
theorem StayAt.ext {C : Addr} {kn kn' : Hp} {s : Addr} {f e : Int} (x : Ext kn kn') (h : StayAt C kn s f e) : StayAt C kn' s f e := by
  obtain ⟨⟨dx, q, a, b⟩, c1, c2, c3, c4⟩ := h
  exact ⟨⟨dx, q, x _ _ a, x _ _ b⟩, c1, c2, c3, c4⟩
theorem ext_new {kn : Hp} {q : Addr} {o : HO} (h : kn q = none) : Ext kn (upd kn q o) := fun x u e => know h e
theorem ext_tr {a b c : Hp} (h : Ext a b) (k : Ext b c) : Ext a c := fun x o e => k x o (h x o e)
/-- Stay(f, e) -/
theorem w_stay {K : PySem.W.Frag} {c : Cw} {kn : Hp} {n : Nat} {σ : L2.St} {Q : V → Hp → Nat → Prop} {E : XK} {EA : EAK} {C B : Addr} {t : TA} (hE : ErrOk c EA E)
    (h : W c (t σ) kn n fun vs kn1 n1 => ∃ f e, vs = [.int f, .int e] ∧ MakeOr C B kn1 f e (fun v k => Q v k n1) (fun cls d k => EA cls d k n1)) : W c (tMake C (liftX (bInit K C B)) [] E t σ) kn n Q := by
  refine w_make mo_init hE (h.mono fun vs kn1 n1 hv => ?_)
  obtain ⟨f, e, rfl, hv⟩ := hv
  intro x dx hx hdx hne
  have hx2 : upd kn1 dx (.own x) x = none := by rw [upd_ne (Ne.symm hne)]; exact hx
  have ex : Ext kn1 (upd (upd kn1 dx (.own x)) x (.ins C dx [])) := ext_tr (ext_new hdx) (ext_new hx2)
  refine ⟨x, dx, _, _, rfl, upd_same, ?_⟩
  rcases hv with ⟨a, b, l, m, h⟩ | ⟨a, h⟩ | ⟨a, b, h⟩
  · refine .inl ⟨f, e, rfl, rfl, a, b, l, m, fun q hq => ⟨rfl, h x _ ?_ hx ⟨⟨dx, q, upd_same, ?_⟩, a, b, l, m⟩⟩⟩
    · intro y o hy
      have y1 : y ≠ x := fun z => by rw [z, hx] at hy; cases hy
      have y2 : y ≠ dx := fun z => by rw [z, hdx] at hy; cases hy
      have y3 : y ≠ q := fun z => by rw [← z, upd_ne y1, upd_ne y2, hy] at hq; cases hq
      rw [upd_ne y1, upd_ne y3, upd_ne y1, upd_ne y2]
      exact hy
    · have y1 : q ≠ x := fun z => by rw [z, upd_same] at hq; cases hq
      rw [upd_ne y1, upd_same]
  · refine .inr (.inl ⟨.inl ⟨f, rfl, a⟩, fun d hd => h d _ (ext_tr ex (ext_new hd)) ?_ upd_same⟩)
    cases z : kn1 d with
    | none => rfl
    | some o => rw [ex _ _ z] at hd; cases hd
  · refine .inr (.inr ⟨f, rfl, a, ?_, fun d hd => h d _ (ext_tr ex (ext_new hd)) ?_ upd_same⟩)
    · rcases b with b | b
      · exact .inl (.inl ⟨e, rfl, b⟩)
      · exact .inr ⟨e, rfl, b⟩
    · cases z : kn1 d with
      | none => rfl
      | some o => rw [ex _ _ z] at hd; cases hd
/-- self.first, self.after, self._nights -/
theorem w_first {K : PySem.W.Frag} {c : Cw} {kn : Hp} {n i : Nat} {σ : L2.St} {Q : V → Hp → Nat → Prop} {C s : Addr} {f e : Int} (cl : Cls K C) (na : NoAttr K C "first") (hv : σ[i]? = some (some (.ref s))) (h : StayAt C kn s f e) (q : Q (.int f) kn n) : W c (tFld K (tVar i) "first" σ) kn n Q := by
  obtain ⟨⟨dx, p, a, b⟩, _⟩ := h
  exact w_fld (w_var hv ⟨_, _, _, _, _, rfl, a, cl, na, rfl, q⟩)
theorem w_after {K : PySem.W.Frag} {c : Cw} {kn : Hp} {n i : Nat} {σ : L2.St} {Q : V → Hp → Nat → Prop} {C s : Addr} {f e : Int} (cl : Cls K C) (na : NoAttr K C "after") (hv : σ[i]? = some (some (.ref s))) (h : StayAt C kn s f e) (q : Q (.int e) kn n) : W c (tFld K (tVar i) "after" σ) kn n Q := by
  obtain ⟨⟨dx, p, a, b⟩, _⟩ := h
  exact w_fld (w_var hv ⟨_, _, _, _, _, rfl, a, cl, na, rfl, q⟩)
theorem w_nights {K : PySem.W.Frag} {c : Cw} {kn : Hp} {n i : Nat} {σ : L2.St} {Q : V → Hp → Nat → Prop} {C s : Addr} {f e : Int} (cl : Cls K C) (na : NoAttr K C "_nights") (hv : σ[i]? = some (some (.ref s))) (h : StayAt C kn s f e) (q : ∀ p, kn p = some (.tup (rgV f e)) → Q (.ref p) kn n) : W c (tFld K (tVar i) "_nights" σ) kn n Q := by
  obtain ⟨⟨dx, p, a, b⟩, _⟩ := h
  exact w_fld (w_var hv ⟨_, _, _, _, _, rfl, a, cl, na, rfl, q p b⟩)
-- a stay that is known
local macro_rules | `(tactic| walk_at "st") => `(tactic| first
  | assumption
  | ((with_reducible refine' StayAt.ext ?h1 ?h2); (case h1 => assumption); (case h2 => walk_at "st"))
  | ((with_reducible refine' StayAt.ext ?h1 ?h2); (case h1 => exact ext_new (by assumption)); (case h2 => walk_at "st")))
local macro_rules | `(tactic| walk_at "w2") => `(tactic| first
  | ((with_reducible refine' w_first ?h1 ?h2 ?h3 ?h4 ?_); (case h3 => rfl); (case h4 => walk_at "st"); (case h1 => assumption); (case h2 => assumption))
  | ((with_reducible refine' w_after ?h1 ?h2 ?h3 ?h4 ?_); (case h3 => rfl); (case h4 => walk_at "st"); (case h1 => assumption); (case h2 => assumption))
  | ((with_reducible refine' w_nights ?h1 ?h2 ?h3 ?h4 ?_); (case h3 => rfl); (case h4 => walk_at "st"); (case h1 => assumption); (case h2 => assumption)))
local macro_rules | `(tactic| walk_at "w") => `(tactic| repeat (first | walk_at "w1" | walk_at "w2" | dsimp only))
local macro_rules | `(tactic| walk_at "wi") => `(tactic| repeat (first | walk_at "w1" | walk_at "w2" | with_reducible refine' s_if ?_ | dsimp only))

/-- the text -/
def stayT (f e : Int) : Str := ((Str.empty ++ (toString f : String)) ++ "+") ++ (toString (e - f) : String)
def bStr (C : Addr) : List V → Hp → AK → AXK → Prop := fun vs kn Q _ => ∃ s f e, vs = [.ref s] ∧ StayAt C kn s f e ∧ Q (.str (stayT f e)) kn
theorem mo_str {C : Addr} : MonoX (bStr C) := by
  rintro vs kn Q R E F h1 h2 ⟨s, f, e, a, b, h⟩
  exact ⟨s, f, e, a, b, h1 _ _ h⟩
section
variable {P : Program} {w : World} {K : PySem.W.Frag} {mg : Str → Option Value} {base : Heap}
theorem ok_Stay___str__ (T : Tx K mg) : FnOk P w K mg base CX0 1 T.f_Stay___str__ T.d_Stay___str__ ["self"] (liftX (bStr T.c_Stay)) := by
  refine T.F_Stay___str__.ok sc_Stay___str__ (fun vs H Q E h => ?_) (fun cdv A outer s H vs Q E hr h => ?_)
  · obtain ⟨kn, _, _, a, f, e, rfl, _⟩ := h
    rfl
  · obtain ⟨kn, ex, nt, a, f, e, rfl, st, h⟩ := h
    have cS := T.cl_Stay; have nF := T.na_Stay_first; have nA := T.na_Stay_after; have nN := T.na_Stay__nights
    refine ⟨_, (pss_one (ps_ret (pe_joined (.cons (pe_fmt (pe_fld (pv 0) rfl)) (.cons pe_str (.cons (pe_fmt (pe_callB c_len (by rfl) T.b_len PySem.boot_len (pa_cons (pe_fld (pv 0) rfl) pa_nil))) .nil)))))), ?_⟩
    refine body_of (pure_start ex nt) ?_
    walk_at "wi"
    have h1 : -999999999999 ≤ f ∧ f ≤ 999999999999 := st.d1
    have h2 := st.lt
    have h3 := st.most
    refine w_fmtI ?_
    walk_at "wi"
    refine ⟨log_small (by omega) (by omega), ?_⟩
    walk_at "wi"
    have l0 : (Str.empty ++ (toString f : String) : Str).length ≤ 14 := by rw [PySem.Str.length_append]; have := len_small (i := f) (by omega) (by omega); show 0 + _ ≤ _; omega
    refine ⟨Nat.le_trans l0 (by rw [sizeLine_eq]; decide), ?_⟩
    walk_at "wi"
    have l1 : ((Str.empty ++ (toString f : String) : Str) ++ "+").length ≤ 15 := by rw [PySem.Str.length_append]; show _ + 1 ≤ _; omega
    refine ⟨Nat.le_trans l1 (by rw [sizeLine_eq]; decide), ?_⟩
    walk_at "wi"
    refine w_fmtI ?_
    walk_at "wi"
    intro p hp
    walk_at "wi"
    rw [show (((rgV f e).length : Nat) : Int) = e - f by rw [rgV_length]; omega]
    refine ⟨log_small (by omega) (by omega), ?_⟩
    walk_at "wi"
    have l2 : (((Str.empty ++ (toString f : String) : Str) ++ "+") ++ (toString (e - f) : String)).length ≤ 30 := by rw [PySem.Str.length_append]; have := len_small (i := e - f) (by omega) (by omega); omega
    refine ⟨Nat.le_trans l2 (by rw [sizeLine_eq]; decide), ?_⟩
    walk_at "wi"
    exact h 0
end

end NN

namespace NN
open PySem PySem.Spec PyProof.Rows L2 LamX AW ClX
section
variable {P : Program} {w : World} {K : PySem.W.Frag} {mg : Str → Option Value} {base : Heap}
theorem ok__law_draw (T : Tx K mg) : FnOk P w K mg base CX0 1 T.f__law_draw T.d__law_draw ["pen", "many"] spDraw := by
  refine T.F__law_draw.ok sc__law_draw (fun vs H Q E h => ?_) (fun cdv A outer s H vs Q E hr h => ?_)
  · obtain ⟨p, a, ns, n, many, rfl, _⟩ := h
    rfl
  · obtain ⟨p, a, ns, n, many, rfl, hp, hn, h0, h1, k⟩ := h
    obtain ⟨⟨i, g, hP, hi0, hin, hg0⟩, hA, hpa⟩ := hp
    refine ⟨_, (pss_cons (ps_if (pt_cmpR op_gt (pe_ix ix_list (pv 0) pe_int (fun _ _ => rfl)) pe_int (nomark _))
       (pss_cons (ps_set (i := 2) sc__law_draw.nd rfl (by first | exact Or.inl rfl | exact Or.inr rfl) (pe_op op_mod (pe_callTy c_int (by rfl) T.b_int boot_int (pa_cons (pe_ix ix_list (pv 0) pe_int (fun _ _ => rfl)) pa_nil)) (pv 1)))
       (pss_cons (ps_asg (pe_op op_fdivW (pe_callTy c_int (by rfl) T.b_int boot_int (pa_cons (pe_ix ix_list (pv 0) pe_int (fun _ _ => rfl)) pa_nil)) (pv 1)) (pg_sub (pv 0) pe_int set_list))
       (pss_one (ps_ret (pv 2)))))
       pss_nil)
       (pss_cons (ps_set (i := 3) sc__law_draw.nd rfl (by first | exact Or.inl rfl | exact Or.inr rfl) (pe_ix ix_list (pv 0) pe_int (fun _ _ => rfl)))
       (pss_cons (ps_asg (pe_op op_add (pv 3) pe_int) (pg_sub (pv 0) pe_int set_list))
       (pss_cons (ps_set (i := 4) sc__law_draw.nd rfl (by first | exact Or.inl rfl | exact Or.inr rfl) (pe_op op_add (pe_op op_mul pe_int (pv 3)) pe_int))
       (pss_cons (ps_if (pt_cmpR (op_neD hr.units) (pe_ix ix_list (pv 0) pe_int (fun _ _ => rfl)) (pe_lst pa_nil) (nomark _))
       (pss_one (ps_set (i := 4) sc__law_draw.nd rfl (by first | exact Or.inl rfl | exact Or.inr rfl) (pe_ix ix_list (pe_ix ix_list (pv 0) pe_int (fun _ _ => rfl)) (pe_op op_mod (pe_callTy c_int (by rfl) T.b_int boot_int (pa_cons (pv 3) pa_nil)) (pe_callB c_len (by rfl) T.b_len PySem.boot_len (pa_cons (pe_ix ix_list (pv 0) pe_int (fun _ _ => rfl)) pa_nil))) (fun _ _ => rfl))))
       pss_nil)
       (pss_cons (ps_if (PW.pt (pw_and (pt_cmpR op_lt (pv 3) (pe_callB c_len (by rfl) T.b_len PySem.boot_len (pa_cons (pe_ix ix_list (pv 0) pe_int (fun _ _ => rfl)) pa_nil)) (nomark _)) (pw_and1 (pt_cmpR op_ge (pe_callB c_abs (by rfl) T.b_abs (by decide +kernel) (pa_cons (pv 4) pa_nil)) (pe_op op_pow pe_int pe_int) (nomark _)))))
       (pss_cons (ps_set (i := 5) sc__law_draw.nd rfl (by first | exact Or.inl rfl | exact Or.inr rfl) (pe_op op_add (pe_op op_mul pe_int (pe_op op_sub (pe_callB c_abs (by rfl) T.b_abs (by decide +kernel) (pa_cons (pv 4) pa_nil)) (pe_op op_pow pe_int pe_int))) (pe_callTy c_int (by rfl) T.b_int boot_int (pa_cons (pe_cmpR op_lt (pv 4) pe_int (nomark _)) pa_nil))))
       (pss_cons (ps_asg (pe_op op_fdivW (pe_callTy c_int (by rfl) T.b_int boot_int (pa_cons (pv 5) pa_nil)) (pv 1)) (pg_sub (pv 0) pe_int set_list))
       (pss_one (ps_ret (pe_op op_mod (pe_callTy c_int (by rfl) T.b_int boot_int (pa_cons (pv 5) pa_nil)) (pv 1))))))
       pss_nil)
       (pss_cons (ps_set (i := 6) sc__law_draw.nd rfl (by first | exact Or.inl rfl | exact Or.inr rfl) (pe_op op_mod (pe_callTy c_int (by rfl) T.b_int boot_int (pa_cons (pe_op op_pow (pe_op op_add (pe_op op_add (pe_op op_mod (pe_callTy c_int (by rfl) T.b_int boot_int (pa_cons (pv 4) pa_nil)) pe_int) (pe_op op_mul pe_int (pv 3))) pe_int) pe_int) pa_nil)) pe_int))
       (pss_cons (ps_set (i := 6) sc__law_draw.nd rfl (by first | exact Or.inl rfl | exact Or.inr rfl) (pe_op op_mod (pe_callTy c_int (by rfl) T.b_int boot_int (pa_cons (pe_op op_pow (pe_op op_add (pe_op op_add (pe_op op_mul (pv 6) (pe_op op_add (pe_op op_mul pe_int (pv 3)) pe_int)) (pe_op op_mul (pe_op op_mul pe_int (pv 3)) (pv 3))) pe_int) pe_int) pa_nil)) pe_int))
       (pss_one (ps_ret (pe_op op_mod (pe_callTy c_int (by rfl) T.b_int boot_int (pa_cons (pe_op op_fdivW (pv 6) pe_int) pa_nil)) (pv 1)))))))))))), ?_⟩
    have e : Ext (penKn H p a) H := fun x o h => by
      unfold penKn at h
      split at h
      · exact h
      · cases h
    have kP : penKn H p a p = some (.lst [.ref a, .int i, .int g]) := (if_pos (.inl rfl)).trans hP
    have kA : penKn H p a a = some (.lst (ns.map V.int)) := (if_pos (.inr rfl)).trans hA
    have done : ∀ (k' : Int) (kn' : Hp) (n' : Nat) (i' g' : Int), 0 ≤ k' → k' < many → kn' p = some (.lst [.ref a, .int i', .int g']) → kn' a = some (.lst (ns.map V.int)) → 0 ≤ i' → i' ≤ (n + 1 : Nat) → 0 ≤ g' → ∀ H', Good (pureC (penKn H p a) H) kn' n' H' → Q (.int k') H' := fun k' kn' n' i' g' b1 b2 e1 e2 b3 b4 b5 H' G => by
      refine k k' H' b1 b2 ⟨⟨i', g', G.ex _ _ e1, b3, b4, b5⟩, G.ex _ _ e2, hpa⟩ fun x o hx hH => ?_
      by_cases hxa : x = a
      · rw [hxa, hA] at hH
        cases hH
        rw [hxa]
        exact G.ex _ _ e2
      · exact G.inv x o hH (.inl (if_neg (by simp [hx, hxa])))
    have hlog : many.natAbs.log2 < 9000 := Nat.lt_trans ((Nat.log2_lt (by omega)).mpr (show many.natAbs < 2 ^ 70 by omega)) (by decide)
    refine body_of (pure_start e (fun x o h => by
      unfold penKn at h
      split at h
      · rename_i hh
        rcases hh with rfl | rfl
        · rw [hP] at h; cases h; rfl
        · rw [hA] at h; cases h; rfl
      · cases h)) ?_
    walk_at "w"
    refine s_if ?_
    walk_at "w"
    refine ⟨fun hg => ?_, fun hg => ?_⟩
    · have hg' : 0 < g := of_decide_eq_true hg
      walk_at "w"
      refine r_I h0 ?_
      walk_at "w"
      refine r_I ⟨h0, hlog⟩ ?_
      walk_at "w"
      refine ⟨_, _, _, 2, rfl, rfl, kP, rfl, ?_⟩
      walk_at "w"
      have kA' : ∀ o, upd (penKn H p a) p o a = some (.lst (ns.map V.int)) := fun o => by rw [upd_ne hpa.symm]; exact kA
      exact done _ _ _ i (g / many) (Int.emod_nonneg _ (by omega)) (Int.emod_lt_of_pos _ h0) upd_same (kA' _) hi0 (by omega) (Int.ediv_nonneg hg0 (by omega))
    · walk_at "w"
      refine ⟨_, _, _, 1, rfl, rfl, kP, rfl, ?_⟩
      have kA1 : ∀ o, upd (penKn H p a) p o a = some (.lst (ns.map V.int)) := fun o => by rw [upd_ne hpa.symm]; exact kA
      have kP1 : ∀ o, upd (penKn H p a) p o p = some o := fun o => upd_same
      walk_at "w"
      refine r_I (.inl ⟨by decide, by decide⟩) ?_
      walk_at "w"
      -- if pen[0] != []
      refine s_join (fun σ' kn' n' => ∃ cell : Int, σ' = [some (.ref p), some (.int many), none, some (.int i), some (.int cell), none, none] ∧ kn' p = some (.lst [.ref a, .int (i + 1), .int g]) ∧ kn' a = some (.lst (ns.map V.int))) ?_ ?_
      · have kP1 := kP1 (.lst [.ref a, .int (i + 1), .int g])
        have kA1 := kA1 (.lst [.ref a, .int (i + 1), .int g])
        refine s_if ?_
        walk_at "w"
        refine ⟨by decide, fun l hl => ?_⟩
        refine r_ne_d (.lst (sql (know hl kA1)) (dp_ints ns)) (.lst (sql upd_same) .nil) (shaped_ints ns) rfl ?_
        walk_at "w"
        rw [nil_eqv]
        refine ⟨fun hb => ?_, fun hb => ?_⟩
        · have hne : ns ≠ [] := by
            intro z
            rw [z] at hb
            cases hb
          have hl0 : 0 < ns.length := by
            cases ns with
            | nil => exact absurd rfl hne
            | cons => exact Nat.succ_pos _
          have kA3 := know (o := .lst []) hl kA1
          have kP3 := know (o := .lst []) hl kP1
          walk_at "w"
          refine r_I (by rw [List.length_map]; omega) ?_
          obtain ⟨z, hz⟩ := at_mod ns i hl0
          refine r_ixL kA3 hz ?_
          walk_at "w"
          exact ⟨kP3, kA3⟩
        · walk_at "w"
          exact ⟨know hl kP1, know hl kA1⟩
      · rintro σ' kn' n' ⟨cell, rfl, kP2, kA2⟩
        have mod1 : ∀ x : Int, 0 ≤ x % many ∧ x % many < many := fun x => ⟨Int.emod_nonneg _ (by omega), Int.emod_lt_of_pos _ h0⟩
        walk_at "w"
        refine s_join (fun σ2 kn2 n2 => σ2 = [some (.ref p), some (.int many), none, some (.int i), some (.int cell), none, none] ∧ kn2 p = some (.lst [.ref a, .int (i + 1), .int g]) ∧ kn2 a = some (.lst (ns.map V.int))) ?_ ?_
        · refine s_if ?_
          walk_at "w"
          refine ⟨fun hb => ?_, fun hb => ?_⟩
          · walk_at "w"
            refine r_I ⟨by decide, by decide, by decide⟩ ?_
            walk_at "w"
            refine ⟨fun hb2 => ?_, fun hb2 => ?_⟩
            · have hc : (10 : Int) ^ (18 : Int).toNat ≤ if cell < 0 then -cell else cell := of_decide_eq_true hb2
              walk_at "w"
              refine r_I ⟨by decide, by decide, by decide⟩ ?_
              walk_at "w"
              refine r_I (.inl ⟨by decide, by decide⟩) ?_
              walk_at "w"
              refine r_I ⟨h0, hlog⟩ ?_
              walk_at "w"
              refine ⟨_, _, _, 2, rfl, rfl, kP2, rfl, ?_⟩
              walk_at "w"
              refine r_I h0 ?_
              refine done _ _ _ (i + 1) _ (mod1 _).1 (mod1 _).2 upd_same (by rw [upd_ne hpa.symm]; exact kA2) (by omega) (by omega) (Int.ediv_nonneg ?_ (by omega))
              split <;> omega
            · walk_at "w"
              exact ⟨rfl, kP2, kA2⟩
          · walk_at "w"
            exact ⟨rfl, kP2, kA2⟩
        · rintro σ2 kn2 n2 ⟨rfl, kP3, kA3⟩
          walk_at "w"
          refine r_I (by decide) ?_
          obtain ⟨x, hx⟩ : ∃ x : Int, x = cell % 2147483579 := ⟨_, rfl⟩
          have x0 : 0 ≤ x := hx ▸ Int.emod_nonneg _ (by decide)
          have x1 : x < 2147483579 := hx ▸ Int.emod_lt_of_pos _ (by decide)
          rw [← hx]
          walk_at "w"
          refine r_I (.inl ⟨by decide, by decide⟩) ?_
          walk_at "w"
          refine r_I ⟨by decide, by decide, by omega⟩ ?_
          walk_at "w"
          refine r_I (by decide) ?_
          generalize ((x + 92947 * i + 4727) ^ (5 : Int).toNat) = y
          obtain ⟨z, hz⟩ : ∃ z : Int, z = y % 2147483647 := ⟨_, rfl⟩
          have z0 : 0 ≤ z := hz ▸ Int.emod_nonneg _ (by decide)
          have z1 : z < 2147483647 := hz ▸ Int.emod_lt_of_pos _ (by decide)
          rw [← hz]
          walk_at "w"
          refine r_I (.inl ⟨by decide, by decide⟩) ?_
          walk_at "w"
          refine r_I (.inl ⟨by omega, by omega⟩) ?_
          walk_at "w"
          refine r_I (.inl ⟨by decide, by decide⟩) ?_
          walk_at "w"
          refine r_I (.inl ⟨by omega, by omega⟩) ?_
          walk_at "w"
          obtain ⟨m1, m2⟩ := mul_bd z0 (show z ≤ 2147483647 by omega) (show 0 ≤ 2 * i + 377 by omega) (show 2 * i + 377 ≤ 2000377 by omega)
          obtain ⟨m3, m4⟩ := mul_bd (show 0 ≤ 69409 * i by omega) (show 69409 * i ≤ 69409000000 by omega) hi0 (show i ≤ 1000000 by omega)
          refine r_I ⟨by decide, by decide, by omega⟩ ?_
          walk_at "w"
          refine r_I (by decide) ?_
          walk_at "w"
          refine r_I ⟨by decide, by decide⟩ ?_
          walk_at "w"
          refine r_I h0 ?_
          exact done _ _ _ (i + 1) g (mod1 _).1 (mod1 _).2 kP3 kA3 (by omega) (by omega) hg0

/-- _law_pick -/
def bPick : List V → Hp → AK → AXK → Prop := fun vs kn Q _ => ∃ l xs, vs = [.ref l] ∧ kn l = some (.lst xs) ∧ 0 < xs.length ∧ xs.length ≤ 1000 ∧ ∀ v ∈ xs, Q v kn
theorem mo_pick : MonoX bPick := by
  rintro vs kn Q R E F h1 h2 ⟨l, xs, a, b, c, d, h⟩
  exact ⟨l, xs, a, b, c, d, fun v hv => h1 _ _ (h v hv)⟩
theorem ok__law_pick (T : Tx K mg) (TT : List (Addr × Str)) : FnOk P w K mg base CX0 2 T.f__law_pick T.d__law_pick ["pen", "some"] (liftP TT 1 bPick) := by
  refine T.F__law_pick.ok sc__law_pick (fun vs H Q E h => ?_) (fun cdv A outer s H vs Q E hr h => ?_)
  · obtain ⟨p, a, ns, n, kn, ws, rfl, _, _, l, xs, rfl, _⟩ := h
    rfl
  · obtain ⟨p, a, ns, n, kn, ws, rfl, g, hn, l, xs, rfl, hl, l1, l2, h⟩ := h
    refine ⟨_, (pss_one (ps_ret (pe_ix ix_list (pv 1) (pe_call (ok__law_draw T) (hr.mono (by decide)) (by rfl) T.g__law_draw T.F__law_draw.kp T.bd__law_draw .nil pass0 (pa_cons (pv 0) (pa_cons (pe_callB c_len (by rfl) T.b_len PySem.boot_len (pa_cons (pv 1) pa_nil)) pa_nil))) (fun _ _ => rfl)))), ?_⟩
    refine body_of g ?_
    walk_at "w"
    refine w_draw ?_
    walk_at "w"
    refine ⟨by omega, by omega, by omega, fun k k0 k1 => ?_⟩
    obtain ⟨j, hj⟩ : ∃ j : Nat, k = j := ⟨k.toNat, by omega⟩
    subst hj
    have hj : j < xs.length := by omega
    refine r_ixL hl (atI_nat (List.getElem?_eq_getElem hj)) ?_
    exact h _ (List.getElem_mem hj)
/-- _law_pen -/
def spPen (K : PySem.W.Frag) : Sp := fun vs H Q _ => ∃ (s : Addr) (ns : List Int), vs = [.ref s] ∧ SqL K H s (ns.map V.int) ∧
  ∀ (p a : Addr) (ns' : List Int) (H' : Hp), p ≠ a → H p = none → H a = none → H' p = some (.lst [.ref a, .int 0, .int 0]) → H' a = some (.lst (ns'.map V.int)) → Ext H H' → Q (.ref p) H'
theorem cut_map (ns : List Int) (lo hi : Option Int) : ∃ ns' : List Int, cutV (ns.map V.int) lo hi = ns'.map V.int := by
  unfold cutV
  exact ⟨(ns.drop _).take _, by rw [List.map_take, List.map_drop]⟩
theorem ok__law_pen (T : Tx K mg) : FnOk P w K mg base CX0 1 T.f__law_pen T.d__law_pen ["script"] (spPen K) := by
  refine T.F__law_pen.ok sc__law_pen (fun vs H Q E h => ?_) (fun cdv A outer s H vs Q E hr h => ?_)
  · obtain ⟨s, ns, rfl, _⟩ := h
    rfl
  · obtain ⟨sc, ns, rfl, hs, h⟩ := h
    refine ⟨_, (pss_one (ps_ret (pe_lst (pa_cons (pe_callTy c_list (by rfl) T.b_list (by decide +kernel) (pa_cons (pe_slice sl_list (pv 0) po_none (po_some pe_int)) pa_nil)) (pa_cons pe_int (pa_cons pe_int pa_nil)))))), ?_⟩
    obtain ⟨ns', e⟩ := cut_map ns none (some 63)
    refine ⟨_, rfl, _, rfl, sc, _, rfl, hs, fun l hl => ⟨l, _, rfl, .inl (sql upd_same), fun a ha => ⟨(by rw [sizeLine_eq]; exact (show 3 ≤ 16777216 by decide)), fun p hp => ?_⟩⟩⟩
    have la : l ≠ a := fun z => by rw [z, upd_same] at ha; cases ha
    have ha0 : H a = none := by rw [upd_ne (Ne.symm la)] at ha; exact ha
    have pa : p ≠ a := fun z => by rw [z, upd_same] at hp; cases hp
    have pl : p ≠ l := fun z => by rw [z, upd_ne la, upd_same] at hp; cases hp
    have hp0 : H p = none := by rw [upd_ne pa, upd_ne pl] at hp; exact hp
    refine h p a ns' _ pa hp0 ha0 upd_same ?_ ?_
    · rw [upd_ne (Ne.symm pa), upd_same, e]
    · exact fun x o hx => by rw [upd_ne (ne_of_none hx hp0), upd_ne (ne_of_none hx ha0), upd_ne (ne_of_none hx hl)]; exact hx
end

end NN

namespace NN
open PySem PySem.Spec PyProof.Rows L2 LamX AW ClX
/-! ### stretches -/
-- a stay that is known
local macro_rules | `(tactic| walk_at "st") => `(tactic| first
  | assumption
  | ((with_reducible refine' StayAt.ext ?h1 ?h2); (case h1 => assumption); (case h2 => walk_at "st"))
  | ((with_reducible refine' StayAt.ext ?h1 ?h2); (case h1 => exact ext_new (by assumption)); (case h2 => walk_at "st")))
local macro_rules | `(tactic| walk_at "w2") => `(tactic| first
  | ((with_reducible refine' w_first ?h1 ?h2 ?h3 ?h4 ?_); (case h3 => rfl); (case h4 => walk_at "st"); (case h1 => assumption); (case h2 => assumption))
  | ((with_reducible refine' w_after ?h1 ?h2 ?h3 ?h4 ?_); (case h3 => rfl); (case h4 => walk_at "st"); (case h1 => assumption); (case h2 => assumption))
  | ((with_reducible refine' w_nights ?h1 ?h2 ?h3 ?h4 ?_); (case h3 => rfl); (case h4 => walk_at "st"); (case h1 => assumption); (case h2 => assumption)))
local macro_rules | `(tactic| walk_at "w") => `(tactic| repeat (first | walk_at "w1" | walk_at "w2" | dsimp only))
local macro_rules | `(tactic| walk_at "wi") => `(tactic| repeat (first | walk_at "w1" | walk_at "w2" | with_reducible refine' s_if ?_ | dsimp only))

def rAddS : R2 := fun x y H Q => ∃ i j : Str, x = .str i ∧ y = .str j ∧ i.length + j.length ≤ sizeLine ∧ Q (.str (i ++ j)) H
theorem c_addS {X : Cx} : OpR X (binaryOp .Add) rAddS := op_add_str
theorem r_addS {c : Cw} {kn : Hp} {n : Nat} {Q : V → Hp → Nat → Prop} {x y : Str} (h : x.length + y.length ≤ 100000) (q : Q (.str (x ++ y)) kn n) : W c (rAddS (.str x) (.str y)) kn n Q :=
  fun H g _ k => ⟨x, y, rfl, rfl, Nat.le_trans h (by rw [sizeLine_eq]; decide), k _ kn n H q g⟩
theorem day_of {i : Int} (h : -999999999999 ≤ i ∧ i ≤ 999999999999) : isDay i := h
theorem day_is {i : Int} (h : isDay i) : -999999999999 ≤ i ∧ i ≤ 999999999999 := h
theorem notday_ext {K : PySem.W.Frag} {kn kn' : Hp} {x : V} (e : Ext kn kn') (h : NotDay K kn x) : NotDay K kn' x := by
  rcases h with h | h
  · exact .inl h
  · exact .inr (odd_ext e h)
abbrev nV : Option Int → V
  | none => .non
  | some n => .int n
abbrev strF (d : Int) (o : Option Int) : List (Str × V) := [("day", .int d), ("nights", nV o)]
def okN (o : Option Int) : Prop := ∀ n, o = some n → 0 ≤ n ∧ n ≤ 400
structure StrAt (C : Addr) (kn : Hp) (s : Addr) (d : Int) (o : Option Int) : Prop where
  at_ : ∃ dx, kn s = some (.ins C dx (strF d o))
  d1 : isDay d
  n1 : okN o
theorem StrAt.ext {C : Addr} {kn kn' : Hp} {s : Addr} {d : Int} {o : Option Int} (x : Ext kn kn') (h : StrAt C kn s d o) : StrAt C kn' s d o := by
  obtain ⟨⟨dx, a⟩, c1, c2⟩ := h
  exact ⟨⟨dx, x _ _ a⟩, c1, c2⟩
theorem nV_non (o : Option Int) : decide (nV o = V.non) = o.isNone := by cases o <;> rfl
theorem nV_eq (o o' : Option Int) : decide (nV o = nV o') = decide (o = o') := by
  cases o <;> cases o' <;> first | rfl | (refine decide_eq_decide.mpr ⟨fun z => ?_, fun z => ?_⟩ <;> cases z <;> rfl)
theorem okn_some {n : Int} (h : 0 ≤ n ∧ n ≤ 400) : okN (some n) := fun m e => by cases e; exact h
theorem okn_none : okN none := fun m e => nomatch e
/-- no number of nights -/
def NotN (K : PySem.W.Frag) (kn : Hp) (y : V) : Prop := (∃ i, y = .int i ∧ ¬(0 ≤ i ∧ i ≤ 400)) ∨ (y ≠ .non ∧ Odd K kn y)
theorem notn_ext {K : PySem.W.Frag} {kn kn' : Hp} {x : V} (e : Ext kn kn') (h : NotN K kn x) : NotN K kn' x := by
  rcases h with h | ⟨z, h⟩
  · exact .inl h
  · exact .inr ⟨z, odd_ext e h⟩
def bSInit (K : PySem.W.Frag) (C B : Addr) : List V → Hp → AK → AXK → Prop := fun vs kn Q E => ∃ a dx x y, vs = [.ref a, x, y] ∧ kn a = some (.ins C dx []) ∧
  ((∃ d o, x = .int d ∧ y = nV o ∧ isDay d ∧ okN o ∧ Q .non (upd kn a (.ins C dx (strF d o)))) ∨
   (NotDay K kn x ∧ ∀ e, kn e = none → E (.ref B) (some e) (xdPart kn e "day")) ∨
   (∃ d, x = .int d ∧ isDay d ∧ NotN K kn y ∧ ∀ e, kn e = none → E (.ref B) (some e) (xdPart kn e "nights")))
theorem mo_sinit {K : PySem.W.Frag} {C B : Addr} : MonoX (bSInit K C B) := by
  rintro vs kn Q R E F h1 h2 ⟨a, dx, x, y, e, ha, ⟨d, o, b1, b2, b3, b4, h⟩ | ⟨b, h⟩ | ⟨d, b1, b2, b3, h⟩⟩
  · exact ⟨a, dx, x, y, e, ha, .inl ⟨d, o, b1, b2, b3, b4, h1 _ _ h⟩⟩
  · exact ⟨a, dx, x, y, e, ha, .inr (.inl ⟨b, fun d hd => h2 _ _ _ (h d hd)⟩)⟩
  · exact ⟨a, dx, x, y, e, ha, .inr (.inr ⟨d, b1, b2, b3, fun d hd => h2 _ _ _ (h d hd)⟩)⟩
theorem upd2 {kn : Hp} {a : Addr} {o1 o2 : HO} : upd (upd kn a o1) a o2 = upd kn a o2 := by
  funext x
  by_cases h1 : x = a
  · rw [h1, upd_same, upd_same]
  · rw [upd_ne h1, upd_ne h1, upd_ne h1]
section
variable {K : PySem.W.Frag} {c : Cw} {kn : Hp} {n i : Nat} {σ : L2.St} {Q : V → Hp → Nat → Prop} {C s : Addr} {d : Int} {o : Option Int}
theorem w_sday (cl : Cls K C) (na : NoAttr K C "day") (hv : σ[i]? = some (some (.ref s))) (h : StrAt C kn s d o) (q : Q (.int d) kn n) : W c (tFld K (tVar i) "day" σ) kn n Q := by
  obtain ⟨⟨dx, a⟩, _⟩ := h
  exact w_fld (w_var hv ⟨_, _, _, _, _, rfl, a, cl, na, rfl, q⟩)
theorem w_snights (cl : Cls K C) (na : NoAttr K C "nights") (hv : σ[i]? = some (some (.ref s))) (h : StrAt C kn s d o) (q : Q (nV o) kn n) : W c (tFld K (tVar i) "nights" σ) kn n Q := by
  obtain ⟨⟨dx, a⟩, _⟩ := h
  exact w_fld (w_var hv ⟨_, _, _, _, _, rfl, a, cl, na, rfl, q⟩)
end
local macro_rules | `(tactic| walk_at "sr") => `(tactic| first
  | assumption
  | ((with_reducible refine' StrAt.ext ?h1 ?h2); (case h1 => assumption); (case h2 => walk_at "sr"))
  | ((with_reducible refine' StrAt.ext ?h1 ?h2); (case h1 => exact ext_new (by assumption)); (case h2 => walk_at "sr")))
local macro_rules | `(tactic| walk_at "w3") => `(tactic| first
  | ((with_reducible refine' w_sday ?h1 ?h2 ?h3 ?h4 ?_); (case h3 => rfl); (case h4 => walk_at "sr"); (case h1 => assumption); (case h2 => assumption))
  | ((with_reducible refine' w_snights ?h1 ?h2 ?h3 ?h4 ?_); (case h3 => rfl); (case h4 => walk_at "sr"); (case h1 => assumption); (case h2 => assumption))
  | with_reducible refine' r_isN ?_
  | with_reducible refine' r_notN ?_)
local macro_rules | `(tactic| walk_at "w") => `(tactic| repeat (first | walk_at "w1" | walk_at "w2" | walk_at "w3" | dsimp only))
local macro_rules | `(tactic| walk_at "wi") => `(tactic| repeat (first | walk_at "w1" | walk_at "w2" | walk_at "w3" | with_reducible refine' s_if ?_ | dsimp only))

/-- Stretch(d, o) -/
theorem w_makeS {K : PySem.W.Frag} {c : Cw} {kn : Hp} {n : Nat} {σ : L2.St} {Q : V → Hp → Nat → Prop} {E : XK} {EA : EAK} {C B : Addr} {t : TA} (hE : ErrOk c EA E)
    (h : W c (t σ) kn n fun vs kn1 n1 => ∃ d o, vs = [.int d, nV o] ∧ isDay d ∧ okN o ∧ ∀ x kn', Ext kn1 kn' → kn1 x = none → StrAt C kn' x d o → Q (.ref x) kn' n1) : W c (tMake C (liftX (bSInit K C B)) [] E t σ) kn n Q := by
  refine w_make mo_sinit hE (h.mono fun vs kn1 n1 hv => ?_)
  obtain ⟨d, o, rfl, dd, no, hv⟩ := hv
  intro x dx hx hdx hne
  refine ⟨x, dx, _, _, rfl, upd_same, .inl ⟨d, o, rfl, rfl, dd, no, rfl, hv x _ ?_ hx ⟨⟨dx, upd_same⟩, dd, no⟩⟩⟩
  intro y v hy
  have y1 : y ≠ x := fun z => by rw [z, hx] at hy; cases hy
  have y2 : y ≠ dx := fun z => by rw [z, hdx] at hy; cases hy
  rw [upd_ne y1, upd_ne y1, upd_ne y2]
  exact hy
/-- what is refused -/
def Wrong (K : PySem.W.Frag) (kn : Hp) (x y : V) (part : Str) : Prop := (part = "day" ∧ NotDay K kn x) ∨ (part = "nights" ∧ ∃ d, x = .int d ∧ isDay d ∧ NotN K kn y)
theorem wrong_ext {K : PySem.W.Frag} {kn kn' : Hp} {x y : V} {part : Str} (e : Ext kn kn') (h : Wrong K kn x y part) : Wrong K kn' x y part := by
  rcases h with ⟨z, nd⟩ | ⟨z, f, z1, z2, z3⟩
  · exact .inl ⟨z, notday_ext e nd⟩
  · exact .inr ⟨z, f, z1, z2, notn_ext e z3⟩
theorem w_makeBad {K : PySem.W.Frag} {c : Cw} {kn : Hp} {n : Nat} {σ : L2.St} {Q : V → Hp → Nat → Prop} {E : XK} {EA : EAK} {C B : Addr} {t : TA} (hE : ErrOk c EA E)
    (h : W c (t σ) kn n fun vs kn1 n1 => ∃ x y part, vs = [x, y] ∧ Wrong K kn1 x y part ∧ BadS B kn1 part (fun cls d k => EA cls d k n1)) : W c (tMake C (liftX (bSInit K C B)) [] E t σ) kn n Q := by
  refine w_make mo_sinit hE (h.mono fun vs kn1 n1 hv => ?_)
  obtain ⟨x, y, part, rfl, hw, hB⟩ := hv
  intro a dx ha hdx hne
  have hx2 : upd kn1 dx (.own a) a = none := by rw [upd_ne (Ne.symm hne)]; exact ha
  have ex : Ext kn1 (upd (upd kn1 dx (.own a)) a (.ins C dx [])) := ext_tr (ext_new hdx) (ext_new hx2)
  refine ⟨a, dx, _, _, rfl, upd_same, ?_⟩
  rcases hw with ⟨rfl, nd⟩ | ⟨rfl, d, rfl, df, nd⟩
  · exact .inr (.inl ⟨notday_ext ex nd, fun d hd => hB d _ (ext_tr ex (ext_new hd)) (free_ext ex hd) upd_same⟩)
  · exact .inr (.inr ⟨d, rfl, df, notn_ext ex nd, fun d hd => hB d _ (ext_tr ex (ext_new hd)) (free_ext ex hd) upd_same⟩)
def inS (d : Int) (o : Option Int) (f e : Int) : Bool := (decide (0 ≤ f - d) && decide (f - d ≤ 400)) && (match o with | none => true | some n => decide (e ≤ d + n))
def bEnd (C : Addr) : List V → Hp → AK → AXK → Prop := fun vs kn Q _ => ∃ s d o, vs = [.ref s] ∧ StrAt C kn s d o ∧ Q (.bl o.isNone) kn
def bIn (C D : Addr) : List V → Hp → AK → AXK → Prop := fun vs kn Q _ => ∃ s d o t f e, vs = [.ref s, .ref t] ∧ StrAt C kn s d o ∧ StayAt D kn t f e ∧ Q (.bl (inS d o f e)) kn
def bSub (C D B : Addr) : List V → Hp → AK → AXK → Prop := fun vs kn Q E => ∃ s d o t f e, vs = [.ref s, .ref t] ∧ StrAt C kn s d o ∧ StayAt D kn t f e ∧
  ((inS d o f e = true ∧ ∀ q x z kn', Ext kn kn' → kn q = none → kn' q = some (.tup [.ref x, .ref z]) → StrAt C kn' x d (some (f - d)) → StrAt C kn' z e (o.map fun n => d + n - e) → Q (.ref q) kn') ∨
   (inS d o f e = false ∧ ∀ x kn', Ext kn kn' → kn x = none → kn' x = some (.xd [("stay", .ref t)]) → E (.ref B) (some x) kn'))
def bEqS (K : PySem.W.Frag) (C : Addr) : List V → Hp → AK → AXK → Prop := fun vs kn Q _ => ∃ s d o y, vs = [.ref s, y] ∧ StrAt C kn s d o ∧
  ((∃ s' d' o', y = .ref s' ∧ StrAt C kn s' d' o' ∧ Q (.bl (decide (d = d') && decide (o = o'))) kn) ∨ (∃ t, TyX K kn y t ∧ PySem.W.kitOne K t (.ref C) = some false ∧ Q (.bl false) kn))
def strT (d : Int) : Option Int → Str
  | none => (Str.empty ++ (toString d : String)) ++ "+"
  | some n => ((Str.empty ++ (toString d : String)) ++ "+") ++ (toString n : String)
def bStrS (C : Addr) : List V → Hp → AK → AXK → Prop := fun vs kn Q _ => ∃ s d o, vs = [.ref s] ∧ StrAt C kn s d o ∧ Q (.str (strT d o)) kn
theorem mo_end {C : Addr} : MonoX (bEnd C) := by
  rintro vs kn Q R E F h1 h2 ⟨s, d, o, a, b, h⟩
  exact ⟨s, d, o, a, b, h1 _ _ h⟩
theorem mo_in {C D : Addr} : MonoX (bIn C D) := by
  rintro vs kn Q R E F h1 h2 ⟨s, d, o, t, f, e, a, b, b2, h⟩
  exact ⟨s, d, o, t, f, e, a, b, b2, h1 _ _ h⟩
theorem mo_sub {C D B : Addr} : MonoX (bSub C D B) := by
  rintro vs kn Q R E F h1 h2 ⟨s, d, o, t, f, e, a, b, b2, ⟨i, h⟩ | ⟨i, h⟩⟩
  · exact ⟨s, d, o, t, f, e, a, b, b2, .inl ⟨i, fun q x z k z1 z2 z3 z4 z5 => h1 _ _ (h q x z k z1 z2 z3 z4 z5)⟩⟩
  · exact ⟨s, d, o, t, f, e, a, b, b2, .inr ⟨i, fun x k z1 z2 z3 => h2 _ _ _ (h x k z1 z2 z3)⟩⟩
theorem mo_eqS {K : PySem.W.Frag} {C : Addr} : MonoX (bEqS K C) := by
  rintro vs kn Q R E F h1 h2 ⟨s, f, e, y, a, b, ⟨s', f', e', c, d, h⟩ | ⟨t, c, d, h⟩⟩
  · exact ⟨s, f, e, y, a, b, .inl ⟨s', f', e', c, d, h1 _ _ h⟩⟩
  · exact ⟨s, f, e, y, a, b, .inr ⟨t, c, d, h1 _ _ h⟩⟩
theorem mo_strS {C : Addr} : MonoX (bStrS C) := by
  rintro vs kn Q R E F h1 h2 ⟨s, d, o, a, b, h⟩
  exact ⟨s, d, o, a, b, h1 _ _ h⟩
section
variable {P : Program} {w : World} {K : PySem.W.Frag} {mg : Str → Option Value} {base : Heap}
theorem ok_BadStretch___init__ (T : Tx K mg) : FnOk P w K mg base CX0 1 T.f_BadStretch___init__ T.d_BadStretch___init__ ["self", "part"] (spX1 K "part") := by
  refine T.F_BadStretch___init__.ok sc_BadStretch___init__ (fun vs H Q E h => ?_) (fun cdv A outer s H vs Q E hr h => ?_)
  · obtain ⟨a, C, y, rfl, _⟩ := h
    rfl
  · obtain ⟨a, C, y, rfl, oc, hf, ha, h⟩ := h
    refine ⟨_, (pss_one (ps_ost (pv 0) (pv 1))), ?_⟩
    refine ⟨_, rfl, _, rfl, a, C, rfl, oc, hf, .inl ⟨ha, h⟩⟩
theorem ok_Outside___init__ (T : Tx K mg) : FnOk P w K mg base CX0 1 T.f_Outside___init__ T.d_Outside___init__ ["self", "stay"] (spX1 K "stay") := by
  refine T.F_Outside___init__.ok sc_Outside___init__ (fun vs H Q E h => ?_) (fun cdv A outer s H vs Q E hr h => ?_)
  · obtain ⟨a, C, y, rfl, _⟩ := h
    rfl
  · obtain ⟨a, C, y, rfl, oc, hf, ha, h⟩ := h
    refine ⟨_, (pss_one (ps_ost (pv 0) (pv 1))), ?_⟩
    refine ⟨_, rfl, _, rfl, a, C, rfl, oc, hf, .inl ⟨ha, h⟩⟩
theorem ok_Stretch___init__ (T : Tx K mg) : FnOk P w K mg base (L2.CX P w) 4 T.f_Stretch___init__ T.d_Stretch___init__ ["self", "day", "nights"] (liftX (bSInit K T.c_Stretch T.c_BadStretch)) := by
  refine T.F_Stretch___init__.okX sc_Stretch___init__ (fun vs H Q E h => ?_) (fun cdv A outer s H vs Q E hr h => ?_)
  · obtain ⟨kn, _, _, a, dx, x, y, rfl, _⟩ := h
    rfl
  · obtain ⟨kn, ex, nt, a, dx, x, y, rfl, ha, h⟩ := h
    refine ⟨_, (pss_cons (ps_if (pt_not (pt_val (pe_call (ok_is_day T) (hr.mono (by decide)) (by rfl) T.g_is_day T.F_is_day.kp T.bd_is_day .nil pass0 (pa_cons (pv 1) pa_nil))))
       (pss_one (ps_raise rfl (takes_of rfl rfl rfl rfl) (pmk_oex T.x_BadStretch T.fi_BadStretch___init__ T.ti_BadStretch (ok_BadStretch___init__ T) (hr.mono (by decide)) T.bd_BadStretch___init__ .nil pass0 (by rfl) T.g_BadStretch (pa_cons pe_str pa_nil))))
       pss_nil)
       (pss_cons (ps_if (PW.pt (pw_and (pt_cmpR c_notN (pv 2) pe_non (nomark _)) (pw_and1 (pt_not (pt_val (pe_call (ok_is_from T) (hr.mono (by decide)) (by rfl) T.g_is_from T.F_is_from.kp T.bd_is_from .nil pass0 (pa_cons (pv 2) (pa_cons pe_int (pa_cons (pe_glob (v := .int 400) (by rfl) (Classical.choose_spec T.g_MOST_NIGHTS) ⟨_, rfl⟩) pa_nil)))))))))
       (pss_one (ps_raise rfl (takes_of rfl rfl rfl rfl) (pmk_oex T.x_BadStretch T.fi_BadStretch___init__ T.ti_BadStretch (ok_BadStretch___init__ T) (hr.mono (by decide)) T.bd_BadStretch___init__ .nil pass0 (by rfl) T.g_BadStretch (pa_cons pe_str pa_nil))))
       pss_nil)
       (pss_cons (ps_fld (pv 0) (pv 1) rfl)
       (pss_one (ps_fld (pv 0) (pv 2) rfl))))), ?_⟩
    refine body_of (pure_start ex nt) ?_
    walk_at "wi"
    refine w_call mo_day err_no ?_
    walk_at "wi"
    refine w_day ?_
    rcases h with ⟨d, o, rfl, rfl, dd, no, h⟩ | ⟨nd, h⟩ | ⟨d, rfl, dd, nn, h⟩
    · refine .inl ⟨d, rfl, dd, ?_⟩
      have fin : ∀ {c : Cw} {n : Nat} {D : AE} {σ : L2.St}, σ = [some (.ref a), some (.int d), some (nV o)] → D.nx σ (upd kn a (.ins T.c_Stretch dx (strF d o))) n → WS c (tSeq (sFld K (tVar 0) (tVar 1) "day") (tSeq (sFld K (tVar 0) (tVar 2) "nights") tNext)) D σ kn n := fun {c n D σ} e q => by
        subst e
        walk_at "w"
        refine ⟨_, _, _, _, rfl, ha, T.cl_Stretch, T.na_Stretch_day, by decide, ?_⟩
        walk_at "w"
        refine ⟨_, _, _, _, rfl, upd_same, T.cl_Stretch, T.na_Stretch_nights, (show 1 < 1000 by decide), ?_⟩
        walk_at "w"
        rw [upd2]
        exact q
      walk_at "wi"
      cases o with
      | none =>
        rw [show (!decide (nV none = V.non)) = false from rfl]
        walk_at "wi"
        refine ⟨_, _, _, _, rfl, ha, T.cl_Stretch, T.na_Stretch_day, by decide, ?_⟩
        walk_at "w"
        refine ⟨_, _, _, _, rfl, upd_same, T.cl_Stretch, T.na_Stretch_nights, (show 1 < 1000 by decide), ?_⟩
        walk_at "w"
        rw [upd2]
        exact h 0
      | some m =>
        rw [show (!decide (nV (some m) = V.non)) = true from rfl]
        walk_at "wi"
        refine w_call mo_from err_no ?_
        walk_at "wi"
        refine ⟨_, _, _, rfl, .inl ⟨m, rfl, ?_⟩⟩
        rw [decide_eq_true (no m rfl).1, decide_eq_true (no m rfl).2, Bool.true_and]
        walk_at "wi"
        refine ⟨_, _, _, _, rfl, ha, T.cl_Stretch, T.na_Stretch_day, by decide, ?_⟩
        walk_at "w"
        refine ⟨_, _, _, _, rfl, upd_same, T.cl_Stretch, T.na_Stretch_nights, (show 1 < 1000 by decide), ?_⟩
        walk_at "w"
        rw [upd2]
        exact h 0
    · refine .inr ⟨nd, ?_⟩
      walk_at "wi"
      refine s_raise1 T.x_BadStretch T.nx_BadStretch_part err_body ?_
      walk_at "wi"
      exact fun d hd => h d hd 0
    · refine .inl ⟨d, rfl, dd, ?_⟩
      walk_at "wi"
      have nn0 : y ≠ .non := by
        rcases nn with ⟨i, rfl, _⟩ | ⟨z, _⟩
        · exact fun z => nomatch z
        · exact z
      rw [decide_eq_false nn0]
      walk_at "wi"
      refine w_call mo_from err_no ?_
      walk_at "wi"
      refine ⟨_, _, _, rfl, ?_⟩
      rcases nn with ⟨i, rfl, hi⟩ | ⟨_, o⟩
      · refine .inl ⟨i, rfl, ?_⟩
        have z : (decide (0 ≤ i) && decide (i ≤ 400)) = false := by
          cases y : (decide (0 ≤ i) && decide (i ≤ 400)) with
          | false => rfl
          | true => rw [Bool.and_eq_true] at y; exact absurd ⟨of_decide_eq_true y.1, of_decide_eq_true y.2⟩ hi
        rw [z]
        walk_at "wi"
        refine s_raise1 T.x_BadStretch T.nx_BadStretch_part err_body ?_
        walk_at "wi"
        exact fun d hd => h d hd 0
      · refine .inr ⟨o, ?_⟩
        walk_at "wi"
        refine s_raise1 T.x_BadStretch T.nx_BadStretch_part err_body ?_
        walk_at "wi"
        exact fun d hd => h d hd 0
theorem ok_Stretch_is_endless (T : Tx K mg) : FnOk P w K mg base CX0 1 T.f_Stretch_is_endless T.d_Stretch_is_endless ["self"] (liftX (bEnd T.c_Stretch)) := by
  refine T.F_Stretch_is_endless.ok sc_Stretch_is_endless (fun vs H Q E h => ?_) (fun cdv A outer s H vs Q E hr h => ?_)
  · obtain ⟨kn, _, _, a, d, o, rfl, _⟩ := h
    rfl
  · obtain ⟨kn, ex, nt, a, d, o, rfl, st, h⟩ := h
    have cR := T.cl_Stretch; have nD := T.na_Stretch_day; have nM := T.na_Stretch_nights
    refine ⟨_, (pss_one (ps_ret (pe_cmpR c_isN (pe_fld (pv 0) rfl) pe_non (nomark _)))), ?_⟩
    refine body_of (pure_start ex nt) ?_
    walk_at "wi"
    rw [nV_non]
    exact h 0
theorem ok_Stretch_has_stay (T : Tx K mg) : FnOk P w K mg base CX0 1 T.f_Stretch_has_stay T.d_Stretch_has_stay ["self", "stay"] (liftX (bIn T.c_Stretch T.c_Stay)) := by
  refine T.F_Stretch_has_stay.ok sc_Stretch_has_stay (fun vs H Q E h => ?_) (fun cdv A outer s H vs Q E hr h => ?_)
  · obtain ⟨kn, _, _, a, d, o, t, f, e, rfl, _⟩ := h
    rfl
  · obtain ⟨kn, ex, nt, a, d, o, t, f, e, rfl, sr, st, h⟩ := h
    have cS := T.cl_Stay; have nF := T.na_Stay_first; have nA := T.na_Stay_after; have nN := T.na_Stay__nights
    have cR := T.cl_Stretch; have nD := T.na_Stretch_day; have nM := T.na_Stretch_nights
    refine ⟨_, (pss_cons (ps_if (pt_not (pt_chain op_le op_le pe_int (pe_op op_sub (pe_fld (pv 1) rfl) (pe_fld (pv 0) rfl)) (pe_glob (v := .int 400) (by rfl) (Classical.choose_spec T.g_MOST_NIGHTS) ⟨_, rfl⟩)))
       (pss_one (ps_ret pe_bl))
       pss_nil)
       (pss_one (ps_ret (pe_or (pe_cmpR c_isN (pe_fld (pv 0) rfl) pe_non (nomark _)) (pe_one (pe_cmpR op_le (pe_fld (pv 1) rfl) (pe_op op_add (pe_fld (pv 0) rfl) (pe_fld (pv 0) rfl)) (nomark _))))))), ?_⟩
    refine body_of (pure_start ex nt) ?_
    unfold inS at h
    walk_at "wi"
    refine ⟨fun hb => ?_, fun hb => ?_⟩
    · rw [hb] at h
      walk_at "wi"
      by_cases h2 : f - d ≤ 400
      · rw [decide_eq_true h2] at h
        rw [decide_eq_true h2]
        walk_at "wi"
        cases o with
        | none =>
          rw [show decide (nV none = V.non) = true from rfl]
          walk_at "wi"
          exact h 0
        | some m =>
          rw [show decide (nV (some m) = V.non) = false from rfl]
          walk_at "wi"
          exact h 0
      · rw [decide_eq_false h2] at h
        rw [decide_eq_false h2]
        walk_at "wi"
        exact h 0
    · rw [hb] at h
      walk_at "wi"
      exact h 0
theorem ok_Stretch___sub__ (T : Tx K mg) : FnOk P w K mg base (L2.CX P w) 7 T.f_Stretch___sub__ T.d_Stretch___sub__ ["self", "other"] (liftX (bSub T.c_Stretch T.c_Stay T.c_Outside)) := by
  refine T.F_Stretch___sub__.okX sc_Stretch___sub__ (fun vs H Q E h => ?_) (fun cdv A outer s H vs Q E hr h => ?_)
  · obtain ⟨kn, _, _, a, d, o, t, f, e, rfl, _⟩ := h
    rfl
  · obtain ⟨kn, ex, nt, a, d, o, t, f, e, rfl, sr, st, h⟩ := h
    have cS := T.cl_Stay; have nF := T.na_Stay_first; have nA := T.na_Stay_after; have nN := T.na_Stay__nights
    have cR := T.cl_Stretch; have nD := T.na_Stretch_day; have nM := T.na_Stretch_nights
    refine ⟨_, (pss_cons (ps_if (pt_not (pt_val (pe_meth (pv 0) T.cl_Stretch T.me_Stretch_has_stay (ok_Stretch_has_stay T) (hr.mono (by decide)) T.bd_Stretch_has_stay .nil pass0 (pa_cons (pv 1) pa_nil))))
       (pss_one (ps_raise rfl (takes_of rfl rfl rfl rfl) (pmk_oex T.x_Outside T.fi_Outside___init__ T.ti_Outside (ok_Outside___init__ T) (hr.mono (by decide)) T.bd_Outside___init__ .nil pass0 (by rfl) T.g_Outside (pa_cons (pv 1) pa_nil))))
       pss_nil)
       (pss_cons (ps_set (i := 2) sc_Stretch___sub__.nd rfl (by first | exact Or.inl rfl | exact Or.inr rfl) (pe_ifExp (pt_cmpR c_isN (pe_fld (pv 0) rfl) pe_non (nomark _)) pe_non (pe_op op_sub (pe_op op_add (pe_fld (pv 0) rfl) (pe_fld (pv 0) rfl)) (pe_fld (pv 1) rfl))))
       (pss_one (ps_ret (pe_tup (pa_cons (pe_make T.mk_Stretch (ok_Stretch___init__ T) (hr.mono (by decide)) (by rfl) T.g_Stretch T.bd_Stretch___init__ .nil (passes_call (takes_of rfl rfl rfl rfl) (fun _ _ _ _ h => h)) (pa_cons (pe_fld (pv 0) rfl) (pa_cons (pe_op op_sub (pe_fld (pv 1) rfl) (pe_fld (pv 0) rfl)) pa_nil))) (pa_cons (pe_make T.mk_Stretch (ok_Stretch___init__ T) (hr.mono (by decide)) (by rfl) T.g_Stretch T.bd_Stretch___init__ .nil (passes_call (takes_of rfl rfl rfl rfl) (fun _ _ _ _ h => h)) (pa_cons (pe_fld (pv 1) rfl) (pa_cons (pv 2) pa_nil))) pa_nil))))))), ?_⟩
    refine body_of (pure_start ex nt) ?_
    walk_at "wi"
    obtain ⟨dx, a1⟩ := sr.at_
    refine w_meth mo_in err_no ?_
    walk_at "wi"
    refine ⟨a, _, _, rfl, a1, rfl, ?_⟩
    walk_at "wi"
    refine ⟨a, d, o, t, f, e, rfl, sr, st, _, rfl, ?_⟩
    rcases h with ⟨hi, h⟩ | ⟨hi, h⟩
    · rw [hi]
      walk_at "wi"
      have d1 := day_is sr.d1
      have e1 := day_is st.d2
      have lt := st.lt
      unfold inS at hi
      rw [Bool.and_eq_true, Bool.and_eq_true] at hi
      obtain ⟨⟨i1, i2⟩, i3⟩ := hi
      have i1 := of_decide_eq_true i1
      have i2 := of_decide_eq_true i2
      have go : ∀ {σ : L2.St} (left : Option Int), left = (o.map fun n => d + n - e) → okN left → σ = [some (.ref a), some (.ref t), some (nV left)] → True := fun _ _ _ _ => trivial
      cases o with
      | none =>
        rw [show decide (nV none = V.non) = true from rfl]
        walk_at "wi"
        refine w_makeS err_body ?_
        walk_at "wi"
        refine ⟨d, some (f - d), rfl, sr.d1, okn_some ⟨i1, i2⟩, fun x kn1 x1 nx sx => ?_⟩
        have sr1 := StrAt.ext x1 sr
        have st1 := StayAt.ext x1 st
        walk_at "wi"
        refine w_makeS err_body ?_
        walk_at "wi"
        refine ⟨e, none, rfl, st.d2, okn_none, fun z kn2 x2 nz sz => ?_⟩
        walk_at "wi"
        refine ⟨show 2 ≤ 1000 by decide, fun q hq => ?_⟩
        exact h q x z _ (ext_tr x1 (ext_tr x2 (ext_new hq))) (free_ext x1 (free_ext x2 hq)) upd_same (StrAt.ext (ext_tr x2 (ext_new hq)) sx) (StrAt.ext (ext_new hq) sz) 0
      | some m =>
        have i3 : e ≤ d + m := of_decide_eq_true i3
        have m1 := sr.n1 m rfl
        rw [show decide (nV (some m) = V.non) = false from rfl]
        walk_at "wi"
        refine w_makeS err_body ?_
        walk_at "wi"
        refine ⟨d, some (f - d), rfl, sr.d1, okn_some ⟨i1, i2⟩, fun x kn1 x1 nx sx => ?_⟩
        have sr1 := StrAt.ext x1 sr
        have st1 := StayAt.ext x1 st
        walk_at "wi"
        refine w_makeS err_body ?_
        walk_at "wi"
        refine ⟨e, some (d + m - e), rfl, st.d2, okn_some ⟨by omega, by omega⟩, fun z kn2 x2 nz sz => ?_⟩
        walk_at "wi"
        refine ⟨show 2 ≤ 1000 by decide, fun q hq => ?_⟩
        exact h q x z _ (ext_tr x1 (ext_tr x2 (ext_new hq))) (free_ext x1 (free_ext x2 hq)) upd_same (StrAt.ext (ext_tr x2 (ext_new hq)) sx) (StrAt.ext (ext_new hq) sz) 0
    · rw [hi]
      walk_at "wi"
      refine s_raise1 T.x_Outside T.nx_Outside_stay err_body ?_
      walk_at "wi"
      exact fun x hx => h x _ (ext_new hx) hx upd_same 0
theorem ok_Stretch___eq__ (T : Tx K mg) : FnOk P w K mg base CX0 1 T.f_Stretch___eq__ T.d_Stretch___eq__ ["self", "other"] (liftX (bEqS K T.c_Stretch)) := by
  refine T.F_Stretch___eq__.ok sc_Stretch___eq__ (fun vs H Q E h => ?_) (fun cdv A outer s H vs Q E hr h => ?_)
  · obtain ⟨kn, _, _, a, d, o, y, rfl, _⟩ := h
    rfl
  · obtain ⟨kn, ex, nt, a, d, o, y, rfl, sr, h⟩ := h
    have cR := T.cl_Stretch; have nD := T.na_Stretch_day; have nM := T.na_Stretch_nights
    refine ⟨_, (pss_one (ps_ret (pe_and (pe_callB call_isi (by rfl) T.b_isinstance (by decide +kernel) (pa_cons (pv 1) (pa_cons (pe_glob (v := .ref T.c_Stretch) (by rfl) T.g_Stretch rfl) pa_nil))) (pe_and (pe_cmpR op_eq (pe_fld (pv 0) rfl) (pe_fld (pv 1) rfl) (nomark _)) (pe_one (pe_cmpR op_eq (pe_fld (pv 0) rfl) (pe_fld (pv 1) rfl) (nomark _))))))), ?_⟩
    refine body_of (pure_start ex nt) ?_
    walk_at "wi"
    rcases h with ⟨s', d', o', rfl, sr', h⟩ | ⟨t, ty, kt, h⟩
    · obtain ⟨dx, a1⟩ := sr'.at_
      refine r_isi (.own _) (T.own_Stretch.ty a1) T.kit_Stretch ?_
      walk_at "wi"
      rw [int_eq]
      refine ⟨fun hb => ?_, fun hb => ?_⟩
      · walk_at "wi"
        refine r_eq (by cases o <;> cases o' <;> rfl) ?_
        rw [nV_eq]
        rw [hb] at h
        exact h 0
      · rw [hb] at h
        exact h 0
    · refine r_isi (.own _) ty kt ?_
      walk_at "wi"
      exact h 0
theorem ok_Stretch___str__ (T : Tx K mg) : FnOk P w K mg base CX0 1 T.f_Stretch___str__ T.d_Stretch___str__ ["self"] (liftX (bStrS T.c_Stretch)) := by
  refine T.F_Stretch___str__.ok sc_Stretch___str__ (fun vs H Q E h => ?_) (fun cdv A outer s H vs Q E hr h => ?_)
  · obtain ⟨kn, _, _, a, d, o, rfl, _⟩ := h
    rfl
  · obtain ⟨kn, ex, nt, a, d, o, rfl, sr, h⟩ := h
    have cR := T.cl_Stretch; have nD := T.na_Stretch_day; have nM := T.na_Stretch_nights
    refine ⟨_, (pss_cons (ps_if (pt_cmpR c_isN (pe_fld (pv 0) rfl) pe_non (nomark _))
       (pss_one (ps_ret (pe_joined (.cons (pe_fmt (pe_fld (pv 0) rfl)) (.cons pe_str .nil)))))
       pss_nil)
       (pss_one (ps_ret (pe_joined (.cons (pe_fmt (pe_fld (pv 0) rfl)) (.cons pe_str (.cons (pe_fmt (pe_fld (pv 0) rfl)) .nil))))))), ?_⟩
    refine body_of (pure_start ex nt) ?_
    have h1 := day_is sr.d1
    have l0 : (Str.empty ++ (toString d : String) : Str).length ≤ 14 := by rw [PySem.Str.length_append]; have := len_small (i := d) (by omega) (by omega); show 0 + _ ≤ _; omega
    have l1 : ((Str.empty ++ (toString d : String) : Str) ++ "+").length ≤ 15 := by rw [PySem.Str.length_append]; show _ + 1 ≤ _; omega
    walk_at "wi"
    cases o with
    | none =>
      rw [show decide (nV none = V.non) = true from rfl]
      walk_at "wi"
      refine w_fmtI ?_
      walk_at "wi"
      refine ⟨log_small (by omega) (by omega), ?_⟩
      walk_at "wi"
      refine ⟨Nat.le_trans l0 (by rw [sizeLine_eq]; decide), ?_⟩
      walk_at "wi"
      refine ⟨Nat.le_trans l1 (by rw [sizeLine_eq]; decide), ?_⟩
      walk_at "wi"
      exact h 0
    | some m =>
      have m1 := sr.n1 m rfl
      rw [show decide (nV (some m) = V.non) = false from rfl]
      walk_at "wi"
      refine w_fmtI ?_
      walk_at "wi"
      refine ⟨log_small (by omega) (by omega), ?_⟩
      walk_at "wi"
      refine ⟨Nat.le_trans l0 (by rw [sizeLine_eq]; decide), ?_⟩
      walk_at "wi"
      refine ⟨Nat.le_trans l1 (by rw [sizeLine_eq]; decide), ?_⟩
      walk_at "wi"
      refine w_fmtI ?_
      walk_at "wi"
      refine ⟨log_small (by omega) (by omega), ?_⟩
      walk_at "wi"
      have l2 : (((Str.empty ++ (toString d : String) : Str) ++ "+") ++ (toString m : String)).length ≤ 30 := by rw [PySem.Str.length_append]; have := len_small (i := m) (by omega) (by omega); omega
      refine ⟨Nat.le_trans l2 (by rw [sizeLine_eq]; decide), ?_⟩
      walk_at "wi"
      exact h 0
end

end NN

namespace NN
open PySem PySem.Spec PyProof.Rows L2 LamX AW ClX
/-! ### heard, day, is, unlike -/
-- a stay that is known
local macro_rules | `(tactic| walk_at "st") => `(tactic| first
  | assumption
  | ((with_reducible refine' StayAt.ext ?h1 ?h2); (case h1 => assumption); (case h2 => walk_at "st"))
  | ((with_reducible refine' StayAt.ext ?h1 ?h2); (case h1 => exact ext_new (by assumption)); (case h2 => walk_at "st")))
local macro_rules | `(tactic| walk_at "w2") => `(tactic| first
  | ((with_reducible refine' w_first ?h1 ?h2 ?h3 ?h4 ?_); (case h3 => rfl); (case h4 => walk_at "st"); (case h1 => assumption); (case h2 => assumption))
  | ((with_reducible refine' w_after ?h1 ?h2 ?h3 ?h4 ?_); (case h3 => rfl); (case h4 => walk_at "st"); (case h1 => assumption); (case h2 => assumption))
  | ((with_reducible refine' w_nights ?h1 ?h2 ?h3 ?h4 ?_); (case h3 => rfl); (case h4 => walk_at "st"); (case h1 => assumption); (case h2 => assumption)))
local macro_rules | `(tactic| walk_at "w") => `(tactic| repeat (first | walk_at "w1" | walk_at "w2" | dsimp only))
local macro_rules | `(tactic| walk_at "wi") => `(tactic| repeat (first | walk_at "w1" | walk_at "w2" | with_reducible refine' s_if ?_ | dsimp only))

local macro_rules | `(tactic| walk_at "sr") => `(tactic| first
  | assumption
  | ((with_reducible refine' StrAt.ext ?h1 ?h2); (case h1 => assumption); (case h2 => walk_at "sr"))
  | ((with_reducible refine' StrAt.ext ?h1 ?h2); (case h1 => exact ext_new (by assumption)); (case h2 => walk_at "sr")))
local macro_rules | `(tactic| walk_at "w3") => `(tactic| first
  | ((with_reducible refine' w_sday ?h1 ?h2 ?h3 ?h4 ?_); (case h3 => rfl); (case h4 => walk_at "sr"); (case h1 => assumption); (case h2 => assumption))
  | ((with_reducible refine' w_snights ?h1 ?h2 ?h3 ?h4 ?_); (case h3 => rfl); (case h4 => walk_at "sr"); (case h1 => assumption); (case h2 => assumption))
  | with_reducible refine' r_isN ?_
  | with_reducible refine' r_notN ?_)
local macro_rules | `(tactic| walk_at "w") => `(tactic| repeat (first | walk_at "w1" | walk_at "w2" | walk_at "w3" | dsimp only))
local macro_rules | `(tactic| walk_at "wi") => `(tactic| repeat (first | walk_at "w1" | walk_at "w2" | walk_at "w3" | with_reducible refine' s_if ?_ | dsimp only))

def tabsT {K : PySem.W.Frag} {mg : Str → Option Value} (T : Tx K mg) : List (Addr × Str) := [(T.tp__law_parts_right, "_law_parts_right.<locals>.<lambda>"), (T.tp__law_refused_right, "_law_refused_right.<locals>.<lambda>")]
theorem w_yes {c : Cw} {kn : Hp} {n : Nat} {σ : L2.St} {QB : Bool → Hp → Nat → Prop} (q : QB true kn n) : W c (tYes σ) kn n QB := fun H g Q' k => k _ kn n H q g
section
variable {K : PySem.W.Frag} {c : Cw} {kn : Hp} {n : Nat} {σ : L2.St} {Q : V → Hp → Nat → Prop} {E : XK} {EA : EAK} {C B : Addr}
/-- a comprehension of what changes nothing -/
theorem w_lcPure {wi : TI} {gt : TG} {tt : TT} {te : TE} {vs : List Nat}
    (h : WI c (wi σ) kn n fun J kn1 n1 => ∃ (xs : List V) (ka : Hp → Prop) (f : V → V) (p : V → Bool), Gives J xs ka ∧ xs.length ≤ 100000 ∧ (∀ k, Ext kn1 k → ka k) ∧
      (∀ x ∈ xs, ∀ k, Ext kn1 k → WG c gt x (wipe σ vs) k n1 fun σ2 k2 n2 => k2 = k ∧ n2 = n1 ∧ wipe σ2 vs = wipe σ vs ∧ W c (tt σ2) k n1 fun b k3 n3 => b = p x ∧ k3 = k ∧ n3 = n1 ∧ (p x = true → W c (te σ2) k n1 fun y k4 n4 => y = f x ∧ k4 = k ∧ n4 = n1)) ∧
      ∀ D, kn1 D = none → Q (.ref D) (upd kn1 D (.lst ((xs.filter p).map f))) n1) : W c (tLc wi gt tt te vs σ) kn n Q := by
  refine w_lc (fun H g R' q => h H g R' fun J kn1 n1 H1 hJ g1 => q J kn1 n1 H1 ?_ g1)
  obtain ⟨xs, ka, f, p, hG, hl, hk, hs, hd⟩ := hJ
  refine ⟨xs, ka, fun D i acc k m => m = n1 ∧ kn1 D = none ∧ acc = ((xs.take i).filter p).map f ∧ k = upd kn1 D (.lst acc), hG, hl, fun D hD => ⟨rfl, hD, by simp, rfl⟩, ?_, ?_, ?_⟩
  · rintro D i acc k m ⟨rfl, hD, rfl, rfl⟩
    refine ⟨hk _ (ext_new hD), upd_same, ?_⟩
    rw [List.length_map]
    exact Nat.le_trans (List.length_filter_le _ _) (by rw [List.length_take]; exact Nat.min_le_left _ _)
  · rintro D i acc x k m hx ⟨rfl, hD, rfl, rfl⟩
    have hm : x ∈ xs := List.mem_of_getElem? hx
    have ht : xs.take (i + 1) = xs.take i ++ [x] := by rw [List.take_add_one, hx]; rfl
    intro H g N' f'
    refine hs x hm _ (ext_new hD) H g N' fun σ2 k2 n2 H2 hq g2 => f' σ2 k2 n2 H2 ?_ g2
    obtain ⟨rfl, rfl, hw, hq⟩ := hq
    refine ⟨hw, hq.mono fun b k3 n3 hb => ?_⟩
    obtain ⟨rfl, rfl, rfl, he⟩ := hb
    refine ⟨fun hp => (he hp).mono fun y k4 n4 hy => ?_, fun hp => ⟨rfl, hD, ?_, rfl⟩⟩
    · obtain ⟨rfl, rfl, rfl⟩ := hy
      refine ⟨upd_same, rfl, hD, ?_, ?_⟩
      · rw [ht, List.filter_append, List.filter_cons_of_pos hp, List.map_append]; rfl
      · funext z
        by_cases hz : z = D
        · rw [hz, upd_same, upd_same]
        · rw [upd_ne hz, upd_ne hz, upd_ne hz]
    · rw [ht, List.filter_append, List.filter_cons_of_neg (by rw [hp]; exact Bool.false_ne_true)]
      simp
  · rintro D acc k m ⟨rfl, hD, rfl, rfl⟩
    rw [List.take_length]
    exact hd D hD
end
theorem dp_two {K : PySem.W.Frag} {H : Hp} (x y : Str) : DpAll K H [V.str x, V.str y] [PyData.str x, PyData.str y] := .cons (.str _) (.cons (.str _) .nil)
section
variable {K : PySem.W.Frag} {mg : Str → Option Value}
/-- the wish of errors where they are heard -/
def EAh2 (T : Tx K mg) (Q : V → Hp → Nat → Prop) : EAK := fun cls d kn n =>
  (cls = .ref T.c_Outside ∧ ∃ dd s f e, d = some dd ∧ kn dd = some (.xd [("stay", .ref s)]) ∧ StayAt T.c_Stay kn s f e ∧ ∀ q kn2, Ext kn kn2 → kn q = none → kn2 q = some (.tup [.str "outside", .str (stayT f e)]) → Q (.ref q) kn2 n) ∨
  (cls = .ref T.c_BadStretch ∧ ∃ dd y, d = some dd ∧ kn dd = some (.xd [("part", .str y)]) ∧ ∀ q kn2, Ext kn kn2 → kn q = none → kn2 q = some (.tup [.str "stretch", .str y]) → Q (.ref q) kn2 n)
def TTh2 (T : Tx K mg) : (XK → Hp → VK → Prop) → Hp → VK → Prop := fun tl H Q => ∃ (c : Cw) (kn : Hp) (n : Nat) (QA : V → Hp → Nat → Prop), Good c kn n H ∧ (∀ v kn' n' H', QA v kn' n' → Good c kn' n' H' → Q v H') ∧
  ∀ E, ErrOk c (EAh2 T QA) E → W c (fun H' Q' => tl E H' Q') kn n fun v kn1 n1 => ∀ q, kn1 q = none → QA (.ref q) (upd kn1 q (.lst [v])) n1
theorem w_lam2 (T : Tx K mg) {p a : Addr} {ns : List Int} {TT : List (Addr × Str)} {kn : Hp} {n : Nat} {σ : L2.St} {Q : V → Hp → Nat → Prop} {tt : XK → TE}
    (h : ∀ E, ErrOk (penC p a ns TT) (EAh2 T Q) E → W (penC p a ns TT) (tt E σ) kn n fun v kn1 n1 => ∀ q, kn1 q = none → Q (.ref q) (upd kn1 q (.lst [v])) n1) : W (penC p a ns TT) (tLam TT (TTh2 T) tt σ) kn n Q :=
  fun H g Q' q => ⟨g.inv.2, fun H1 e hT => ⟨penC p a ns TT, kn, n, Q, good_lam g e hT, q, h⟩⟩
theorem w_lamBad (T : Tx K mg) {p a : Addr} {ns : List Int} {TT : List (Addr × Str)} {kn : Hp} {n : Nat} {σ : L2.St} {Q : V → Hp → Nat → Prop} {tt : XK → TE} (part : Str)
    (h : ∀ (E : XK) (EA : EAK) (Q' : V → Hp → Nat → Prop), ErrOk (penC p a ns TT) EA E → (BadS T.c_BadStretch kn part fun cls d k => EA cls d k n) → W (penC p a ns TT) (tt E σ) kn n Q')
    (hq : ∀ q kn', Ext kn kn' → kn q = none → kn' q = some (.tup [.str "stretch", .str part]) → Q (.ref q) kn' n) : W (penC p a ns TT) (tLam TT (TTh2 T) tt σ) kn n Q :=
  w_lam2 T fun E hE => h E _ _ hE fun d kn1 e1 nd hd => .inr ⟨rfl, d, part, rfl, hd, fun q kn2 e2 nq q1 => hq q kn2 (ext_tr e1 e2) (free_ext e1 nq) q1⟩
theorem r_strSt {c : Cw} {kn : Hp} {n : Nat} {Q : V → Hp → Nat → Prop} {C s : Addr} {f e : Int} (st : StayAt C kn s f e) (q : Q (.str (stayT f e)) kn n) : W c (rStrO C (liftX (bStr C)) [.ref s]) kn n Q := by
  obtain ⟨dx, p, a1, b1⟩ := st.at_
  exact r_strO mo_str a1 ⟨s, f, e, rfl, st, _, rfl, q⟩
theorem r_strSr {c : Cw} {kn : Hp} {n : Nat} {Q : V → Hp → Nat → Prop} {C s : Addr} {d : Int} {o : Option Int} (sr : StrAt C kn s d o) (q : Q (.str (strT d o)) kn n) : W c (rStrO C (liftX (bStrS C)) [.ref s]) kn n Q := by
  obtain ⟨dx, a1⟩ := sr.at_
  exact r_strO mo_strS a1 ⟨s, d, o, rfl, sr, _, rfl, q⟩
end
section
variable {P : Program} {w : World} {K : PySem.W.Frag} {mg : Str → Option Value} {base : Heap}
/-- _law_heard -/
theorem gives_heard (T : Tx K mg) {X : Cx} {q : Str} {cdg : Value} (hP : X.prog = P) (hw : X.w = w) (hK : X.K = K) (hmg : X.mg = mg) (hrX : Room 8 X.A) : GivesTo X ["ask", "caught", "found", "error"] "_law_heard" (defScope s__law_heard) T.f__law_heard cdg (defBody s__law_heard) "ask" q (TTh2 T) := by
  subst hP hw hK hmg
  intro f c' s H Q tl hask hc hTT
  obtain ⟨c, kn, n, QA, g, hQ, hb⟩ := hTT
  have hr := hrX.deeper (envOfC "_law_heard" (defScope s__law_heard) s.heap.objs.size T.f__law_heard cdg)
  refine ⟨_, (pss_cons (ps_asg (pe_tup (pa_cons pe_non (pa_cons pe_non pa_nil))) (pg_tup (by rfl) (pgs_cons (pg_name (i := 1) sc__law_heard.nd rfl (by first | exact Or.inl rfl | exact Or.inr rfl)) (pgs_cons (pg_name (i := 2) sc__law_heard.nd rfl (by first | exact Or.inl rfl | exact Or.inr rfl)) pgs_nil))))
       (pss_cons (ps_try_keep (i := 3) rfl rfl rfl sc__law_heard.nd rfl rfl ⟨(by rfl), (by decide), .inl T.g_StayError⟩ (fun W pn xe tk po =>
       (pss_one (ps_set (i := 2) sc__law_heard.nd rfl (by first | exact Or.inl rfl | exact Or.inr rfl) (hask (fun cls d σ H => σ.length = 4 → W cls d σ H) _ _ (fun cls d H' => ∀ σ', σ'.length = 4 → W cls d σ' H') _ _ (takes_len tk) (fun _ _ σ' _ h hl => h σ' hl))))) (fun aX oX clsX dX pnX zX vX =>
       (pss_one (ps_set (i := 1) sc__law_heard.nd rfl (by first | exact Or.inl rfl | exact Or.inr rfl) (pv 3)))))
       (pss_cons (ps_if (pt_cmpR c_isN (pv 1) pe_non (nomark _))
       (pss_one (ps_ret (pe_lst (pa_cons (pv 2) pa_nil))))
       pss_nil)
       (pss_cons (ps_if (pt_val (pe_callB call_isK (by rfl) T.b_isinstance (by decide +kernel) (pa_cons (pv 1) (pa_cons (pe_glob (v := .ref T.c_Outside) (by rfl) T.g_Outside rfl) pa_nil))))
       (pss_one (ps_ret (pe_tup (pa_cons pe_str (pa_cons (pe_callTy (c_strO T.sm_Stay___str__ (ok_Stay___str__ T) (hr.mono (by decide)) T.bd_Stay___str__ pass0) (by rfl) T.b_str (by decide +kernel) (pa_cons (pe_xk (pv 1)) pa_nil)) pa_nil)))))
       pss_nil)
       (pss_one (ps_ret (pe_ifExp (pt_val (pe_callB call_isK (by rfl) T.b_isinstance (by decide +kernel) (pa_cons (pv 1) (pa_cons (pe_glob (v := .ref T.c_BadStretch) (by rfl) T.g_BadStretch rfl) pa_nil)))) (pe_tup (pa_cons pe_str (pa_cons (pe_xk (pv 1)) pa_nil))) (pe_tup (pa_cons pe_str pa_nil))))))))), ?_⟩
  refine ⟨by rw [sizeLine_eq]; exact (show 2 ≤ 16777216 by decide), fun q0 hq0 => ⟨q0, [.non, .non], rfl, sqt upd_same, rfl, .non, [.non], rfl, .non, [], rfl, rfl, rfl, ?_⟩⟩
  have g1 : Good c kn n (upd H q0 (.tup [.non, .non])) := g.ext (fun x o e => by rw [upd_ne (ne_of_none e hq0)]; exact e)
  have hc1 : (upd H q0 (.tup [.non, .non])) c' = some (CodeO c' q) := by rw [upd_ne (ne_of_none hc hq0)]; exact hc
  refine ⟨hc1, ?_⟩
  refine hb _ ?err _ g1 _ ?post
  case post =>
    intro v kn1 n1 H2 hq g2
    unfold gName
    dsimp only
    refine body_of (c := c) g2 ?_
    walk_at "wi"
    refine ⟨show 1 ≤ 1000 by decide, fun p hp => ?_⟩
    exact fun H' g' => hQ _ _ _ _ (hq p hp) g'
  case err =>
    rintro cls d kn1 n1 H2 (⟨rfl, dd, s1, f, e, rfl, hd, st, he⟩ | ⟨rfl, dd, y, rfl, hd, he⟩) g2
    · intro σ' hσ
      refine ⟨T.exm_Outside, fun a ha => ?_⟩
      have hσ' : ∃ x0 x1 x2 x3, σ' = [x0, x1, x2, x3] := by
        match σ', hσ with
        | [x0, x1, x2, x3], _ => exact ⟨x0, x1, x2, x3, rfl⟩
      obtain ⟨x0, x1, x2, x3, rfl⟩ := hσ'
      refine ⟨_, rfl, ?_⟩
      unfold gName
      dsimp only
      refine body_of (c := c) (g2.new (o := exh a (.ref T.c_Outside) (some dd)) ha) ?_
      walk_at "wi"
      have had : dd ≠ a := fun z => by have := g2.ex _ _ hd; rw [z, ha] at this; cases this
      have hd2 : (upd kn1 a (exh a (.ref T.c_Outside) (some dd))) dd = some (.xd [("stay", .ref s1)]) := by rw [upd_ne had]; exact hd
      have ex1 := ext_new (o := exh a (.ref T.c_Outside) (some dd)) (g2.free ha)
      refine r_isK (.own _) upd_same hd2 T.xc_Outside T.kit_Outside_Outside ?_
      walk_at "wi"
      refine w_xk ?_
      walk_at "wi"
      refine ⟨_, _, _, _, .ref s1, rfl, upd_same, hd2, T.xf_Outside, T.nx_Outside_stay, rfl, ?_⟩
      walk_at "wi"
      refine r_strSt (StayAt.ext ex1 st) ?_
      walk_at "wi"
      refine ⟨show 2 ≤ 1000 by decide, fun p hp => ?_⟩
      exact fun H' g' => hQ _ _ _ _ (he p _ (ext_tr ex1 (ext_new hp)) (free_ext ex1 hp) upd_same) g'
    · intro σ' hσ
      refine ⟨T.exm_BadStretch, fun a ha => ?_⟩
      have hσ' : ∃ x0 x1 x2 x3, σ' = [x0, x1, x2, x3] := by
        match σ', hσ with
        | [x0, x1, x2, x3], _ => exact ⟨x0, x1, x2, x3, rfl⟩
      obtain ⟨x0, x1, x2, x3, rfl⟩ := hσ'
      refine ⟨_, rfl, ?_⟩
      unfold gName
      dsimp only
      refine body_of (c := c) (g2.new (o := exh a (.ref T.c_BadStretch) (some dd)) ha) ?_
      walk_at "wi"
      have had : dd ≠ a := fun z => by have := g2.ex _ _ hd; rw [z, ha] at this; cases this
      have hd2 : (upd kn1 a (exh a (.ref T.c_BadStretch) (some dd))) dd = some (.xd [("part", .str y)]) := by rw [upd_ne had]; exact hd
      have ex1 := ext_new (o := exh a (.ref T.c_BadStretch) (some dd)) (g2.free ha)
      refine r_isK (.own _) upd_same hd2 T.xc_BadStretch T.kit_BadStretch_Outside ?_
      walk_at "wi"
      refine r_isK (.own _) upd_same hd2 T.xc_BadStretch T.kit_BadStretch_BadStretch ?_
      walk_at "wi"
      refine w_xk ?_
      walk_at "wi"
      refine ⟨_, _, _, _, .str y, rfl, upd_same, hd2, T.xf_BadStretch, T.nx_BadStretch_part, rfl, ?_⟩
      walk_at "wi"
      refine ⟨show 2 ≤ 1000 by decide, fun p hp => ?_⟩
      exact fun H' g' => hQ _ _ _ _ (he p _ (ext_tr ex1 (ext_new hp)) (free_ext ex1 hp) upd_same) g'
/-- _law_day -/
def bADay : List V → Hp → AK → AXK → Prop := fun vs kn Q _ => vs = [] ∧ ∀ d kn', -999999999999 ≤ d → d ≤ 999999999199 → Ext kn kn' → Q (.int d) kn'
theorem mo_aday : MonoX bADay := by
  rintro vs kn Q R E F h1 h2 ⟨e, h⟩
  exact ⟨e, fun d kn' z1 z2 z3 => h1 _ _ (h d kn' z1 z2 z3)⟩
theorem ok__law_day (T : Tx K mg) : FnOk P w K mg base CX0 12 T.f__law_day T.d__law_day ["pen"] (liftP (tabsT T) 2 bADay) := by
  refine T.F__law_day.ok sc__law_day (fun vs H Q E h => ?_) (fun cdv A outer s H vs Q E hr h => ?_)
  · obtain ⟨p, a, ns, n, kn, ws, rfl, _, _, rfl, _⟩ := h
    rfl
  · obtain ⟨p, a, ns, n, kn, ws, rfl, g, hn, rfl, h⟩ := h
    refine ⟨_, (pss_one (ps_ret (pe_call (ok__law_pick T (tabsT T)) (hr.mono (by decide)) (by rfl) T.g__law_pick T.F__law_pick.kp T.bd__law_pick .nil pass0 (pa_cons (pv 0) (pa_cons (pe_lst (pa_cons pe_int (pa_cons pe_int (pa_cons (pe_un un_neg pe_int) (pa_cons (pe_un un_neg pe_int) (pa_cons (pe_op op_sub (pe_op op_pow pe_int pe_int) pe_int) (pa_cons (pe_op op_sub pe_int (pe_op op_pow pe_int pe_int)) (pa_cons (pe_op op_sub (pe_call (ok__law_draw T) (hr.mono (by decide)) (by rfl) T.g__law_draw T.F__law_draw.kp T.bd__law_draw .nil pass0 (pa_cons (pv 0) (pa_cons pe_int pa_nil))) pe_int) pa_nil)))))))) pa_nil))))), ?_⟩
    refine body_of g ?_
    have p12 : (10 : Int) ^ (12 : Int).toNat = 1000000000000 := by decide +kernel
    walk_at "w"
    refine w_callP mo_pick err_no ?_
    walk_at "w"
    refine r_I ⟨by decide, by decide, by decide⟩ ?_
    walk_at "w"
    refine r_I ⟨by decide, by decide, by decide⟩ ?_
    walk_at "w"
    refine w_draw ?_
    walk_at "w"
    refine ⟨by omega, by decide, by decide, fun j j0 j1 => ?_⟩
    walk_at "w"
    refine ⟨show 7 ≤ 1000 by decide, fun l hl => ?_⟩
    walk_at "w"
    refine ⟨by omega, _, _, rfl, upd_same, show 0 < 7 by decide, show 7 ≤ 1000 by decide, fun v hv => ?_⟩
    obtain ⟨b, rfl, b1, b2⟩ : ∃ b : Int, v = .int b ∧ -999999999999 ≤ b ∧ b ≤ 999999999199 := by
      rw [p12] at hv
      simp only [List.mem_cons, List.mem_nil_iff, or_false] at hv
      rcases hv with rfl | rfl | rfl | rfl | rfl | rfl | rfl <;> exact ⟨_, rfl, by omega, by omega⟩
    exact h b _ b1 b2 (ext_new hl)
/-- _law_is -/
abbrev pN : Option Int → PyData
  | none => .none
  | some n => .int n
theorem r_reprS3 {K : PySem.W.Frag} {c : Cw} {kn : Hp} {n : Nat} {Q : V → Hp → Nat → Prop} {a : Addr} {d : Int} {o : Option Int} {b : Bool} (hd : d.natAbs < 10 ^ 12) (ho : okN o) (h : kn a = some (.lst [.int d, nV o, .bl b])) (q : Q (.str (PyData.shown (.list [.int d, pN o, .bool b]))) kn n) : W c (rRepr K [.ref a]) kn n Q := by
  have d0 : d.natAbs.log2 < 1920 := log_small (by omega) (by omega)
  have dp : Dp K kn (nV o) (pN o) := by cases o <;> constructor
  have wd := weigh_int hd
  refine r_repr (.lst (sql h) (.cons (.int d) (.cons dp (.cons (.bl b) .nil)))) ?_ ?_ ?_ ?_ q
  · cases o with
    | none => simp only [PyData.showable, PyData.showableAll, decide_eq_true d0, Bool.and_self, Bool.true_and]
    | some m =>
      have m1 := ho m rfl
      have m0 : m.natAbs.log2 < 1920 := log_small (by omega) (by omega)
      simp only [PyData.showable, PyData.showableAll, decide_eq_true d0, decide_eq_true m0, Bool.and_self, Bool.true_and]
  · cases o <;> simp only [PyData.hasDict, PyData.hasDictAll, Bool.or_self]
  · cases o <;> simp only [PyData.depth, PyData.depthAll] <;> decide
  · have lay : PyData.layable0 (.list [.int d, pN o, .bool b]) = true := by
      unfold PyData.layable0
      have w2 : PyData.weight (.list [.int d, pN o, .bool b]) ≤ 2 ^ 20 := by
        cases o with
        | none => simp only [PyData.weight, PyData.weightAll]; simp only [PyData.weight] at wd; omega
        | some m =>
          have m1 := ho m rfl
          have wm := weigh_int (i := m) (by omega)
          simp only [PyData.weight, PyData.weightAll]; simp only [PyData.weight] at wd wm; omega
      rw [decide_eq_true w2]
      cases o <;> simp [PyData.canLay0, PyData.canLayAll0, PyData.depth, PyData.depthAll]
    refine PyData.shown_fits_of_layable0 (B := 13) (by decide) (by decide) lay ?_
    have s1 := PyData.intsShortAll_ints [d] (fun x hx => by rw [List.mem_singleton.mp hx]; exact hd)
    cases o with
    | none =>
      simp only [PyData.intsShort, PyData.intsShortAll, List.map_cons, List.map_nil] at s1 ⊢
      simpa using s1
    | some m =>
      have m1 := ho m rfl
      have s2 := PyData.intsShortAll_ints [d, m] (fun x hx => by
        rcases List.mem_cons.mp hx with rfl | hx
        · exact hd
        · rw [List.mem_singleton.mp hx]; omega)
      simp only [PyData.intsShort, PyData.intsShortAll, List.map_cons, List.map_nil] at s2 ⊢
      simpa using s2
def bIs (C : Addr) : List V → Hp → AK → AXK → Prop := fun vs kn Q _ => ∃ s d o, vs = [.ref s, .int d, nV o] ∧ StrAt C kn s d o ∧ ∀ kn', Ext kn kn' → Q (.bl true) kn'
theorem mo_is {C : Addr} : MonoX (bIs C) := by
  rintro vs kn Q R E F h1 h2 ⟨s, d, o, a, b, h⟩
  exact ⟨s, d, o, a, b, fun kn' x => h1 _ _ (h kn' x)⟩
theorem nf_self {K : PySem.W.Frag} {C : Addr} : PySem.W.notFirst K C (.ref C) = true := by
  unfold PySem.W.notFirst
  simp
theorem r_eqR (T : Tx K mg) {c : Cw} {kn : Hp} {n : Nat} {Q : V → Hp → Nat → Prop} {neg : Bool} {s s' : Addr} {d d' : Int} {o o' : Option Int} (st : StrAt T.c_Stretch kn s d o) (st' : StrAt T.c_Stretch kn s' d' o') (q : Q (.bl (if neg then !(decide (d = d') && decide (o = o')) else (decide (d = d') && decide (o = o')))) kn n) : W c (rEqO K T.c_Stretch (liftX (bEqS K T.c_Stretch)) neg (.ref s) (.ref s')) kn n Q := by
  obtain ⟨dx, a1⟩ := st.at_
  obtain ⟨dx', a2⟩ := st'.at_
  exact r_eqO mo_eqS a1 (T.own_Stretch.ty a2) nf_self ⟨_, _, _, _, rfl, st, .inl ⟨_, _, _, rfl, st', _, rfl, q⟩⟩
theorem told_eq (d : Int) (o : Option Int) : ((toString d : String) : Str) ++ "+" ++ (match o with | none => ("" : Str) | some n => ((toString n : String) : Str)) = strT d o := by
  cases o with
  | none =>
    unfold strT
    rw [PySem.Str.empty_append]
    exact PySem.Str.append_empty _
  | some n =>
    unfold strT
    rw [PySem.Str.empty_append]
theorem ok__law_is (T : Tx K mg) : L2.FnG P w K mg base CX0 12 T.f__law_is T.d__law_is ["found", "day", "nights"] (liftX (bIs T.c_Stretch)) := by
  refine T.F__law_is.okG sc__law_is (fun vs H Q E h => ?_) (fun cdv A outer s H vs Q E hr hg h => ?_)
  · obtain ⟨kn, _, _, s, d, o, rfl, _⟩ := h
    rfl
  · obtain ⟨kn, ex, nt, s, d, o, rfl, sr, h⟩ := h
    have cR := T.cl_Stretch; have nD := T.na_Stretch_day; have nM := T.na_Stretch_nights
    refine ⟨_, (pss_cons (ps_if (pt_cmpR op_ne (pe_callB (c_repr hg (room_u128 hr)) (by rfl) T.b_repr (by decide +kernel) (pa_cons (pe_lst (pa_cons (pe_fld (pv 0) rfl) (pa_cons (pe_fld (pv 0) rfl) (pa_cons (pe_prop (pv 0) T.cl_Stretch T.pp_Stretch_is_endless (ok_Stretch_is_endless T) (hr.mono (by decide)) T.bd_Stretch_is_endless .nil pass0 (by rfl)) pa_nil)))) pa_nil)) (pe_callB (c_repr hg (room_u128 hr)) (by rfl) T.b_repr (by decide +kernel) (pa_cons (pe_lst (pa_cons (pv 1) (pa_cons (pv 2) (pa_cons (pe_cmpR c_isN (pv 2) pe_non (nomark _)) pa_nil)))) pa_nil)) (nomark _))
       (pss_one (ps_ret pe_bl))
       pss_nil)
       (pss_cons (ps_set (i := 3) sc__law_is.nd rfl (by first | exact Or.inl rfl | exact Or.inr rfl) (pe_op c_addS (pe_op c_addS (pe_callTy c_strI (by rfl) T.b_str (by decide +kernel) (pa_cons (pv 1) pa_nil)) pe_str) (pe_ifExp (pt_cmpR c_isN (pv 2) pe_non (nomark _)) pe_str (pe_callTy c_strI (by rfl) T.b_str (by decide +kernel) (pa_cons (pv 2) pa_nil)))))
       (pss_one (ps_ret (pe_and (pe_cmpR op_eq (pe_callTy (c_strO T.sm_Stretch___str__ (ok_Stretch___str__ T) (hr.mono (by decide)) T.bd_Stretch___str__ pass0) (by rfl) T.b_str (by decide +kernel) (pa_cons (pv 0) pa_nil)) (pv 3) (nomark _)) (pe_one (pe_cmpR (op_eqO T.eq_Stretch (ok_Stretch___eq__ T) (hr.mono (by decide)) T.bd_Stretch___eq__ pass0) (pv 0) (pe_make T.mk_Stretch (ok_Stretch___init__ T) (hr.mono (by decide)) (by rfl) T.g_Stretch T.bd_Stretch___init__ .nil passL (pa_cons (pv 1) (pa_cons (pv 2) pa_nil))) (nomark _)))))))), ?_⟩
    refine body_of (pure_start ex nt) ?_
    have d1 := day_is sr.d1
    obtain ⟨dx, a1⟩ := sr.at_
    walk_at "wi"
    refine w_prop mo_end ?_
    walk_at "wi"
    refine ⟨s, _, _, rfl, a1, s, d, o, rfl, sr, ?_⟩
    walk_at "wi"
    refine ⟨show 3 ≤ 1000 by decide, fun q1 hq1 => ?_⟩
    walk_at "w"
    refine r_reprS3 (by omega) sr.n1 upd_same ?_
    walk_at "w"
    rw [nV_non]
    refine ⟨show 3 ≤ 1000 by decide, fun q2 hq2 => ?_⟩
    walk_at "w"
    refine r_reprS3 (by omega) sr.n1 upd_same ?_
    have e2 := ext_tr (ext_new (o := .lst [.int d, nV o, .bl o.isNone]) hq1) (ext_new (o := .lst [.int d, nV o, .bl o.isNone]) hq2)
    generalize upd (upd kn q1 (.lst [.int d, nV o, .bl o.isNone])) q2 (.lst [.int d, nV o, .bl o.isNone]) = kn2 at e2 ⊢
    have sr2 := StrAt.ext e2 sr
    clear hq1 hq2
    walk_at "wi"
    have l0 := len_small (i := d) (by omega) (by omega)
    refine r_strI (log_small (by omega) (by omega)) ?_
    walk_at "wi"
    refine r_addS (by show _ + 1 ≤ _; omega) ?_
    walk_at "wi"
    have l1 : ((Str.ofString (toString d)) ++ Str.ofString "+").length ≤ 15 := by rw [PySem.Str.length_append]; show _ + 1 ≤ _; omega
    have rest : ∀ {c : Cw} {n : Nat} {σ : L2.St} {Q : V → Hp → Nat → Prop} {t : TT} {ta tb : TE}, True := trivial
    cases o with
    | none =>
      rw [show decide (nV none = V.non) = true from rfl]
      walk_at "wi"
      refine r_addS (by show _ + 0 ≤ _; omega) ?_
      have et := told_eq d none
      dsimp only at et
      rw [et]
      walk_at "wi"
      refine r_strSr sr2 ?_
      walk_at "wi"
      refine w_makeS (EA := fun _ _ _ _ => False) err_no ?_
      walk_at "wi"
      refine ⟨d, none, rfl, sr.d1, sr.n1, fun x kn3 x3 nx sx => ?_⟩
      refine r_eqR T (StrAt.ext x3 sr2) sx ?_
      rw [decide_eq_true (show d = d from rfl), decide_eq_true (show (none : Option Int) = none from rfl)]
      exact h _ (ext_tr e2 x3) 0
    | some m =>
      have m1 := sr.n1 m rfl
      rw [show decide (nV (some m) = V.non) = false from rfl]
      walk_at "wi"
      refine r_strI (log_small (by omega) (by omega)) ?_
      walk_at "wi"
      have l2 := len_small (i := m) (by omega) (by omega)
      refine r_addS (by omega) ?_
      have et := told_eq d (some m)
      dsimp only at et
      rw [et]
      walk_at "wi"
      refine r_strSr sr2 ?_
      walk_at "wi"
      refine w_makeS (EA := fun _ _ _ _ => False) err_no ?_
      walk_at "wi"
      refine ⟨d, some m, rfl, sr.d1, sr.n1, fun x kn3 x3 nx sx => ?_⟩
      refine r_eqR T (StrAt.ext x3 sr2) sx ?_
      rw [decide_eq_true (show d = d from rfl), decide_eq_true (show some m = some m from rfl)]
      exact h _ (ext_tr e2 x3) 0
end

end NN

namespace NN
open PySem PySem.Spec PyProof.Rows L2 LamX AW ClX
/-! ### unlike, parts -/
-- a stay that is known
local macro_rules | `(tactic| walk_at "st") => `(tactic| first
  | assumption
  | ((with_reducible refine' StayAt.ext ?h1 ?h2); (case h1 => assumption); (case h2 => walk_at "st"))
  | ((with_reducible refine' StayAt.ext ?h1 ?h2); (case h1 => exact ext_new (by assumption)); (case h2 => walk_at "st")))
local macro_rules | `(tactic| walk_at "w2") => `(tactic| first
  | ((with_reducible refine' w_first ?h1 ?h2 ?h3 ?h4 ?_); (case h3 => rfl); (case h4 => walk_at "st"); (case h1 => assumption); (case h2 => assumption))
  | ((with_reducible refine' w_after ?h1 ?h2 ?h3 ?h4 ?_); (case h3 => rfl); (case h4 => walk_at "st"); (case h1 => assumption); (case h2 => assumption))
  | ((with_reducible refine' w_nights ?h1 ?h2 ?h3 ?h4 ?_); (case h3 => rfl); (case h4 => walk_at "st"); (case h1 => assumption); (case h2 => assumption)))
local macro_rules | `(tactic| walk_at "w") => `(tactic| repeat (first | walk_at "w1" | walk_at "w2" | dsimp only))
local macro_rules | `(tactic| walk_at "wi") => `(tactic| repeat (first | walk_at "w1" | walk_at "w2" | with_reducible refine' s_if ?_ | dsimp only))

local macro_rules | `(tactic| walk_at "sr") => `(tactic| first
  | assumption
  | ((with_reducible refine' StrAt.ext ?h1 ?h2); (case h1 => assumption); (case h2 => walk_at "sr"))
  | ((with_reducible refine' StrAt.ext ?h1 ?h2); (case h1 => exact ext_new (by assumption)); (case h2 => walk_at "sr")))
local macro_rules | `(tactic| walk_at "w3") => `(tactic| first
  | ((with_reducible refine' w_sday ?h1 ?h2 ?h3 ?h4 ?_); (case h3 => rfl); (case h4 => walk_at "sr"); (case h1 => assumption); (case h2 => assumption))
  | ((with_reducible refine' w_snights ?h1 ?h2 ?h3 ?h4 ?_); (case h3 => rfl); (case h4 => walk_at "sr"); (case h1 => assumption); (case h2 => assumption))
  | with_reducible refine' r_isN ?_
  | with_reducible refine' r_notN ?_)
local macro_rules | `(tactic| walk_at "w") => `(tactic| repeat (first | walk_at "w1" | walk_at "w2" | walk_at "w3" | dsimp only))
local macro_rules | `(tactic| walk_at "wi") => `(tactic| repeat (first | walk_at "w1" | walk_at "w2" | walk_at "w3" | with_reducible refine' s_if ?_ | dsimp only))

theorem w_pure {c : Cw} {kn : Hp} {n : Nat} {σ : L2.St} {Q : V → Hp → Nat → Prop} {t : TE} (v0 : V) (h : W c (t σ) kn n fun v k m => v = v0 ∧ k = kn ∧ m = n) (q : Q v0 kn n) : W c (t σ) kn n Q :=
  h.mono fun v k m ⟨e1, e2, e3⟩ => by subst e1 e2 e3; exact q
def o2of (o : Option Int) : Option Int := if o = some 0 then none else some 0
def v3of (o : Option Int) : Int := match o with | none => 7 | some m => if 200 < m then 7 else m + 1
def bUnlike : List V → Hp → AK → AXK → Prop := fun vs kn Q _ => ∃ p d o, vs = [p, .int d, nV o] ∧ -999999999999 ≤ d ∧ d ≤ 999999999199 ∧ okN o ∧ ∀ kn', Ext kn kn' → Q (.bl true) kn'
theorem mo_unlike : MonoX bUnlike := by
  rintro vs kn Q R E F h1 h2 ⟨s, d, o, a, b, b2, b3, h⟩
  exact ⟨s, d, o, a, b, b2, b3, fun kn' x => h1 _ _ (h kn' x)⟩
section
variable {P : Program} {w : World} {K : PySem.W.Frag} {mg : Str → Option Value} {base : Heap}
theorem ok__law_unlike_right (T : Tx K mg) : FnOk P w K mg base CX0 12 T.f__law_unlike_right T.d__law_unlike_right ["pen", "day", "nights"] (liftX bUnlike) := by
  refine T.F__law_unlike_right.ok sc__law_unlike_right (fun vs H Q E h => ?_) (fun cdv A outer s H vs Q E hr h => ?_)
  · obtain ⟨kn, _, _, p, d, o, rfl, _⟩ := h
    rfl
  · obtain ⟨kn, ex, nt, p, d, o, rfl, d1, d2, no, h⟩ := h
    have cR := T.cl_Stretch; have nD := T.na_Stretch_day; have nM := T.na_Stretch_nights
    refine ⟨_, (pss_cons (ps_set (i := 3) sc__law_unlike_right.nd rfl (by first | exact Or.inl rfl | exact Or.inr rfl) (pe_make T.mk_Stretch (ok_Stretch___init__ T) (hr.mono (by decide)) (by rfl) T.g_Stretch T.bd_Stretch___init__ .nil passL (pa_cons (pv 1) (pa_cons (pv 2) pa_nil))))
       (pss_cons (ps_set (i := 4) sc__law_unlike_right.nd rfl (by first | exact Or.inl rfl | exact Or.inr rfl) (pe_lst (pa_cons (pe_make T.mk_Stretch (ok_Stretch___init__ T) (hr.mono (by decide)) (by rfl) T.g_Stretch T.bd_Stretch___init__ .nil passL (pa_cons (pe_op op_add (pv 1) pe_int) (pa_cons (pv 2) pa_nil))) (pa_cons (pe_make T.mk_Stretch (ok_Stretch___init__ T) (hr.mono (by decide)) (by rfl) T.g_Stretch T.bd_Stretch___init__ .nil passL (pa_cons (pv 1) (pa_cons (pe_ifExp (pt_cmpR op_eq (pv 2) pe_int (nomark _)) pe_non pe_int) pa_nil))) (pa_cons (pe_tup (pa_cons (pv 1) (pa_cons (pv 2) pa_nil))) (pa_cons (pe_callTy (c_strO T.sm_Stretch___str__ (ok_Stretch___str__ T) (hr.mono (by decide)) T.bd_Stretch___str__ pass0) (by rfl) T.b_str (by decide +kernel) (pa_cons (pv 3) pa_nil)) (pa_cons pe_non (pa_cons (pv 1) pa_nil))))))))
       (pss_cons (ps_expr (pe_bm PySem.F.plainAttrs_list PySem.F.slot_list_append PySem.F.type_list_append mt_append (pv 4) (pa_cons (pe_make T.mk_Stretch (ok_Stretch___init__ T) (hr.mono (by decide)) (by rfl) T.g_Stretch T.bd_Stretch___init__ .nil passL (pa_cons (pv 1) (pa_cons (pe_ifExp (PW.pt (pw_or (pt_cmpR c_isN (pv 2) pe_non (nomark _)) (pw_or1 (pt_cmpR op_gt (pv 2) pe_int (nomark _))))) pe_int (pe_op op_add (pv 2) pe_int)) pa_nil))) pa_nil)))
       (pss_one (ps_ret (pe_and (pe_cmpR (op_eqD hr.units) (pe_lc (own := [("thing", 5)]) (g := gName 5) (by rfl) sc__law_unlike_right.nd (pi_list (pv 4)) (blkOk_by (own := [("thing", 5)]) (N := ["pen", "day", "nights", "found", "near", "thing"]) (sc := defScope s__law_unlike_right) (by decide +kernel)) (fun _ _ _ _ _ => pg_name (i := 5) sc__law_unlike_right.nd rfl (Or.inl rfl)) (fun _ _ _ _ _ => (pts_one (pt_cmpR (show OpR _ (compareOp .Eq) (rEqU K T.c_Stretch (liftX (bEqS K T.c_Stretch))) from op_eqU T.eq_Stretch (ok_Stretch___eq__ T) (hr.mono (by decide)) T.bd_Stretch___eq__ pass0) (pv 5) (pv 3) (nomark _)))) (fun _ _ _ _ _ => (pv 5))) (pe_lst pa_nil) (nomark _)) (pe_one (pe_not (pe_cmpR (op_neO T.eq_Stretch (ok_Stretch___eq__ T) (hr.mono (by decide)) T.bd_Stretch___eq__ pass0) (pv 3) (pe_make T.mk_Stretch (ok_Stretch___init__ T) (hr.mono (by decide)) (by rfl) T.g_Stretch T.bd_Stretch___init__ .nil passL (pa_cons (pv 1) (pa_cons (pv 2) pa_nil))) (nomark _)))))))))), ?_⟩
    refine body_of (pure_start ex nt) ?_
    have dd : isDay d := day_of ⟨by omega, by omega⟩
    walk_at "w"
    refine w_makeS (EA := fun _ _ _ _ => False) err_no ?_
    walk_at "w"
    refine ⟨d, o, rfl, dd, no, fun s0 kn1 e1 n1 sr => ?_⟩
    walk_at "w"
    refine w_makeS (EA := fun _ _ _ _ => False) err_no ?_
    walk_at "w"
    refine ⟨d + 1, o, rfl, day_of ⟨by omega, by omega⟩, no, fun s1 kn2 e2 n2 sr1 => ?_⟩
    walk_at "w"
    refine w_makeS (EA := fun _ _ _ _ => False) err_no ?_
    refine w_cons (w_var rfl (w_cons ?_))
    refine w_pure (nV (o2of o)) ?_ ?_
    · walk_at "w"
      refine r_eq (by cases o <;> rfl) ?_
      rw [show decide (nV o = V.int 0) = decide (o = some 0) from nV_eq o (some 0)]
      walk_at "w"
      refine ⟨fun hb => ?_, fun hb => ?_⟩
      · rw [show o2of o = none from if_pos (of_decide_eq_true hb)]
        walk_at "w"
        all_goals first | exact ⟨rfl, rfl, rfl⟩ | exact ⟨rfl, rfl⟩ | rfl
      · rw [show o2of o = some 0 from if_neg (of_decide_eq_false hb)]
        walk_at "w"
        all_goals first | exact ⟨rfl, rfl, rfl⟩ | exact ⟨rfl, rfl⟩ | rfl
    walk_at "w"
    have o2 : o2of o ≠ o := by
      unfold o2of
      split
      · rename_i z; rw [z]; exact fun z => nomatch z
      · rename_i z; exact fun y => z y.symm
    have ok2 : okN (o2of o) := by
      unfold o2of
      split
      · exact okn_none
      · exact okn_some ⟨by omega, by omega⟩
    refine ⟨d, o2of o, rfl, dd, ok2, fun s2 kn3 e3 n3 sr2 => ?_⟩
    walk_at "w"
    refine ⟨show 2 ≤ 1000 by decide, fun t ht => ?_⟩
    walk_at "w"
    have f0 := StrAt.ext (ext_tr e2 (ext_tr e3 (ext_new (o := .tup [.int d, nV o]) ht))) sr
    have f1 := StrAt.ext (ext_tr e3 (ext_new (o := .tup [.int d, nV o]) ht)) sr1
    have f2 := StrAt.ext (ext_new (o := .tup [.int d, nV o]) ht) sr2
    have ft : (upd kn3 t (.tup [.int d, nV o])) t = some (.tup [.int d, nV o]) := upd_same
    have e4 := ext_tr e1 (ext_tr e2 (ext_tr e3 (ext_new (o := .tup [.int d, nV o]) ht)))
    generalize upd kn3 t (.tup [.int d, nV o]) = kn4 at f0 f1 f2 ft e4 ⊢
    clear sr sr1 sr2 ht e1 e2 e3
    refine r_strSr f0 ?_
    walk_at "w"
    refine ⟨show 6 ≤ 1000 by decide, fun l hl => ?_⟩
    have put : ∀ {k : Hp} {o : HO}, Ext kn4 k → Ext kn4 (upd k l o) := fun {k o} x y v hy => by
      rw [upd_ne (fun z => by rw [z, hl] at hy; cases hy)]
      exact x y v hy
    have x5 := ext_new (o := .lst [.ref s1, .ref s2, .ref t, .str (strT d o), .non, .int d]) hl
    have hl5 : (upd kn4 l (.lst [.ref s1, .ref s2, .ref t, .str (strT d o), .non, .int d])) l = some (.lst [.ref s1, .ref s2, .ref t, .str (strT d o), .non, .int d]) := upd_same
    generalize upd kn4 l (.lst [.ref s1, .ref s2, .ref t, .str (strT d o), .non, .int d]) = kn5 at x5 hl5 ⊢
    walk_at "w"
    refine w_append rfl hl5 ?_
    walk_at "w"
    refine w_makeS (EA := fun _ _ _ _ => False) err_no ?_
    refine w_cons (w_var rfl (w_cons ?_))
    refine w_pure (nV (some (v3of o))) ?_ ?_
    · walk_at "w"
      cases o with
      | none =>
        rw [show decide (nV none = V.non) = true from rfl]
        walk_at "w"
        all_goals first | exact ⟨rfl, rfl, rfl⟩ | exact ⟨rfl, rfl⟩ | rfl
      | some m =>
        rw [show decide (nV (some m) = V.non) = false from rfl]
        walk_at "w"
        refine ⟨fun hb => ?_, fun hb => ?_⟩
        · rw [show v3of (some m) = 7 from if_pos (of_decide_eq_true hb)]
          walk_at "w"
          all_goals first | exact ⟨rfl, rfl, rfl⟩ | exact ⟨rfl, rfl⟩ | rfl
        · rw [show v3of (some m) = m + 1 from if_neg (of_decide_eq_false hb)]
          walk_at "w"
          all_goals first | exact ⟨rfl, rfl, rfl⟩ | exact ⟨rfl, rfl⟩ | rfl
    walk_at "w"
    have o3 : some (v3of o) ≠ o ∧ 0 ≤ v3of o ∧ v3of o ≤ 400 := by
      unfold v3of
      cases o with
      | none => exact ⟨(fun z => nomatch z), by decide, by decide⟩
      | some m =>
        have m1 := no m rfl
        dsimp only
        split
        · exact ⟨fun z => (by cases z; omega), by omega, by omega⟩
        · exact ⟨fun z => (by have := Option.some.inj z; omega), by omega, by omega⟩
    obtain ⟨o3, v30, v31⟩ := o3
    generalize v3of o = v3 at o3 v30 v31 ⊢
    refine ⟨d, some v3, rfl, dd, okn_some ⟨v30, v31⟩, fun s3 kn6 e6 n6 sr3 => ?_⟩
    walk_at "w"
    refine ⟨_, [.ref s1, .ref s2, .ref t, .str (strT d o), .non, .int d], rfl, e6 _ _ hl5, show 6 ≤ 1000 by decide, ?_⟩
    have x7 := put (o := .lst ([.ref s1, .ref s2, .ref t, .str (strT d o), .non, .int d] ++ [.ref s3])) (ext_tr x5 e6)
    have hl7 : (upd kn6 l (.lst ([.ref s1, .ref s2, .ref t, .str (strT d o), .non, .int d] ++ [.ref s3]))) l = some (.lst [.ref s1, .ref s2, .ref t, .str (strT d o), .non, .int d, .ref s3]) := upd_same
    have sr3 : StrAt T.c_Stretch (upd kn6 l (.lst ([.ref s1, .ref s2, .ref t, .str (strT d o), .non, .int d] ++ [.ref s3]))) s3 d (some v3) := by
      obtain ⟨⟨dx, a⟩, c1, c2⟩ := sr3
      refine ⟨⟨dx, ?_⟩, c1, c2⟩
      rw [upd_ne (fun z => by rw [z, e6 _ _ hl5] at a; cases a)]
      exact a
    generalize upd kn6 l (.lst ([.ref s1, .ref s2, .ref t, .str (strT d o), .non, .int d] ++ [.ref s3])) = kn7 at x7 hl7 sr3 ⊢
    have g0 := StrAt.ext x7 f0
    have g1 := StrAt.ext x7 f1
    have g2 := StrAt.ext x7 f2
    have gt := x7 _ _ ft
    have e7 := ext_tr e4 x7
    clear hl5 e6 n6 x5
    have ne : ∀ {a b : Int} {x y : Option Int}, ¬(a = b ∧ x = y) → (decide (a = b) && decide (x = y)) = false := fun {a b x y} hn => by
      cases q : (decide (a = b) && decide (x = y)) with
      | false => rfl
      | true => rw [Bool.and_eq_true] at q; exact absurd ⟨of_decide_eq_true q.1, of_decide_eq_true q.2⟩ hn
    walk_at "w"
    obtain ⟨dx0, a0⟩ := g0.at_
    refine w_lcPure (i_list ?_)
    walk_at "w"
    refine ⟨l, _, rfl, hl7, [.ref s1, .ref s2, .ref t, .str (strT d o), .non, .int d, .ref s3], _, (fun v => v), (fun _ => false), gives_lst, (show 7 ≤ 100000 by decide), fun k x => x _ _ hl7, fun x hx k ek => ?_, fun D hD => ?_⟩
    · walk_at "w"
      refine ⟨rfl, ?_⟩
      walk_at "w"
      have b0 := ek _ _ a0
      have g0 := StrAt.ext ek g0
      have ans : ∀ {v : V} {t : Value} {R : V → Hp → Nat → Prop}, BackV K k T.c_Stretch v → TyX K k v t → PySem.W.kitOne K t (.ref T.c_Stretch) = some false → R (.bl false) k 0 → W (pureC kn H) (rEqU K T.c_Stretch (liftX (bEqS K T.c_Stretch)) v (.ref s0)) k 0 R := fun bv ty kt q => r_eqUb mo_eqS b0 bv ⟨_, _, _, _, rfl, g0, .inr ⟨_, ty, kt, _, rfl, q⟩⟩
      have own : ∀ {s' : Addr} {d' : Int} {o' : Option Int} {R : V → Hp → Nat → Prop}, StrAt T.c_Stretch k s' d' o' → ¬(d' = d ∧ o' = o) → R (.bl false) k 0 → W (pureC kn H) (rEqU K T.c_Stretch (liftX (bEqS K T.c_Stretch)) (.ref s') (.ref s0)) k 0 R := fun sr' hn q => r_eqUo (r_eqR T sr' g0 (by rw [if_neg Bool.false_ne_true, ne hn]; exact q))
      have fin : ∀ {A : Prop}, (fun (v : V) (k1 : Hp) (n1 : Nat) => ∃ b, v = V.bl b ∧ b = false ∧ k1 = k ∧ n1 = 0 ∧ (false = true → A)) (V.bl false) k 0 := fun {A} => ⟨false, rfl, rfl, rfl, rfl, fun z => Bool.noConfusion z⟩
      simp only [List.mem_cons, List.mem_nil_iff, or_false] at hx
      rcases hx with rfl | rfl | rfl | rfl | rfl | rfl | rfl
      · exact own (StrAt.ext ek g1) (fun z => by have := z.1; omega) fin
      · exact own (StrAt.ext ek g2) (fun z => o2 z.2) fin
      · exact ans (.tup (ek _ _ gt) T.sb_Stretch_tuple) (.base (.tup (ek _ _ gt))) T.kit_tuple_Stretch fin
      · exact ans (.str _ T.sb_Stretch_str) (.base (.str _)) T.kit_str_Stretch fin
      · exact ans (.non T.sb_Stretch_NoneType) (.base .non) T.kit_NoneType_Stretch fin
      · exact ans (.int _ T.sb_Stretch_int) (.base (.int _)) T.kit_int_Stretch fin
      · exact own (StrAt.ext ek sr3) (fun z => o3 z.2) fin
    · walk_at "w"
      refine ⟨show 0 ≤ 1000 by decide, fun z hz => ?_⟩
      rw [show List.map (fun v => v) (List.filter (fun _ => false) [V.ref s1, V.ref s2, V.ref t, V.str (strT d o), V.non, V.int d, V.ref s3]) = [] from rfl] at hz ⊢
      refine r_eq_d (d := .list []) (e := .list []) (.lst (sql (know hz upd_same)) .nil) (.lst (sql upd_same) .nil) rfl rfl ?_
      rw [show PyData.eqv (.list []) (.list []) = true by decide +kernel]
      have x9 := ext_tr (ext_new (o := .lst []) hD) (ext_new (o := .lst []) hz)
      generalize upd (upd kn7 D (.lst [])) z (.lst []) = kn9 at x9 ⊢
      have g9 := StrAt.ext x9 g0
      walk_at "w"
      refine w_makeS (EA := fun _ _ _ _ => False) err_no ?_
      walk_at "w"
      refine ⟨d, o, rfl, dd, no, fun s4 kn10 e10 n10 sr4 => ?_⟩
      refine r_eqR T (StrAt.ext e10 g9) sr4 ?_
      rw [decide_eq_true (show d = d from rfl), decide_eq_true (show o = o from rfl)]
      walk_at "w"
      exact h _ (ext_tr e7 (ext_tr x9 e10)) 0
end

end NN

namespace NN
open PySem PySem.Spec PyProof.Rows L2 LamX AW ClX
/-! ### parts -/
-- a stay that is known
local macro_rules | `(tactic| walk_at "st") => `(tactic| first
  | assumption
  | ((with_reducible refine' StayAt.ext ?h1 ?h2); (case h1 => assumption); (case h2 => walk_at "st"))
  | ((with_reducible refine' StayAt.ext ?h1 ?h2); (case h1 => exact ext_new (by assumption)); (case h2 => walk_at "st")))
local macro_rules | `(tactic| walk_at "w2") => `(tactic| first
  | ((with_reducible refine' w_first ?h1 ?h2 ?h3 ?h4 ?_); (case h3 => rfl); (case h4 => walk_at "st"); (case h1 => assumption); (case h2 => assumption))
  | ((with_reducible refine' w_after ?h1 ?h2 ?h3 ?h4 ?_); (case h3 => rfl); (case h4 => walk_at "st"); (case h1 => assumption); (case h2 => assumption))
  | ((with_reducible refine' w_nights ?h1 ?h2 ?h3 ?h4 ?_); (case h3 => rfl); (case h4 => walk_at "st"); (case h1 => assumption); (case h2 => assumption)))
local macro_rules | `(tactic| walk_at "w") => `(tactic| repeat (first | walk_at "w1" | walk_at "w2" | dsimp only))
local macro_rules | `(tactic| walk_at "wi") => `(tactic| repeat (first | walk_at "w1" | walk_at "w2" | with_reducible refine' s_if ?_ | dsimp only))

local macro_rules | `(tactic| walk_at "sr") => `(tactic| first
  | assumption
  | ((with_reducible refine' StrAt.ext ?h1 ?h2); (case h1 => assumption); (case h2 => walk_at "sr"))
  | ((with_reducible refine' StrAt.ext ?h1 ?h2); (case h1 => exact ext_new (by assumption)); (case h2 => walk_at "sr")))
local macro_rules | `(tactic| walk_at "w3") => `(tactic| first
  | ((with_reducible refine' w_sday ?h1 ?h2 ?h3 ?h4 ?_); (case h3 => rfl); (case h4 => walk_at "sr"); (case h1 => assumption); (case h2 => assumption))
  | ((with_reducible refine' w_snights ?h1 ?h2 ?h3 ?h4 ?_); (case h3 => rfl); (case h4 => walk_at "sr"); (case h1 => assumption); (case h2 => assumption))
  | with_reducible refine' r_isN ?_
  | with_reducible refine' r_notN ?_)
local macro_rules | `(tactic| walk_at "w") => `(tactic| repeat (first | walk_at "w1" | walk_at "w2" | walk_at "w3" | dsimp only))
local macro_rules | `(tactic| walk_at "wi") => `(tactic| repeat (first | walk_at "w1" | walk_at "w2" | walk_at "w3" | with_reducible refine' s_if ?_ | dsimp only))

theorem strOk_of (s : String) : PyData.strOk (Str.ofString s) = true := by
  unfold PyData.strOk
  rw [PySem.Str.ofString_eq_toList]
  simp only [List.all_toArray, List.all_map, List.all_eq_true]
  intro c _
  have := c.valid
  refine decide_eq_true ?_
  show c.val.toNat < 1114112
  rcases this with h | ⟨_, h⟩ <;> omega
theorem strOk_app {x y : Str} (h : PyData.strOk x = true) (k : PyData.strOk y = true) : PyData.strOk (x ++ y) = true := by
  unfold PyData.strOk at *
  rw [PySem.Str.cps_append, Array.all_append, h, k]
  rfl
theorem strOk_stay (f e : Int) : PyData.strOk (stayT f e) = true := by
  unfold stayT
  exact strOk_app (strOk_app (strOk_app (by decide +kernel) (strOk_of _)) (by decide +kernel)) (strOk_of _)
theorem lay2 {x y : Str} (h : PyData.strOk x = true) (k : PyData.strOk y = true) : PyData.canLay0 (.tuple [.str x, .str y]) = true := by simp [PyData.canLay0, PyData.canLayAll0, h, k]
theorem shp2 {x y : Str} (h : PyData.strOk x = true) (k : PyData.strOk y = true) : SeqAt.shaped (.tuple [.str x, .str y]) = true := by
  unfold SeqAt.shaped
  rw [lay2 h k, show PyData.depth (.tuple [.str x, .str y]) = 1 by simp [PyData.depth, PyData.depthAll]]
  rfl
def okEnd (d e : Int) : Option Int → Bool
  | none => true
  | some n => decide (e ≤ d + n)
def inS2 (d : Int) (o : Option Int) (f e : Int) : Bool := (decide (d ≤ f) && decide (f ≤ d + 400)) && okEnd d e o
theorem inS_eq (d : Int) (o : Option Int) (f e : Int) : inS d o f e = inS2 d o f e := by
  unfold inS inS2
  rw [show decide (0 ≤ f - d) = decide (d ≤ f) from decide_eq_decide.mpr ⟨fun _ => by omega, fun _ => by omega⟩, show decide (f - d ≤ 400) = decide (f ≤ d + 400) from decide_eq_decide.mpr ⟨fun _ => by omega, fun _ => by omega⟩]
  cases o <;> rfl
theorem r_has {C D : Addr} {c : Cw} {kn : Hp} {n : Nat} {σ : L2.St} {Q : V → Hp → Nat → Prop} {E : XK} {ta : TE} {t : TA} {s t' : Addr} {d : Int} {o : Option Int} {f e : Int}
    (h : W c (ta σ) kn n fun x kn1 n1 => x = .ref s ∧ StrAt C kn1 s d o ∧ W c (t σ) kn1 n1 fun vs kn2 n2 => vs = [.ref t'] ∧ StrAt C kn2 s d o ∧ StayAt D kn2 t' f e ∧ Q (.bl (inS d o f e)) kn2 n2) : W c (tMeth C "has_stay" (liftX (bIn C D)) [] E ta t σ) kn n Q := by
  refine w_meth (EA := fun _ _ _ _ => False) mo_in err_no (h.mono fun x kn1 n1 ⟨e1, st, h2⟩ => ?_)
  obtain ⟨dx, a1⟩ := st.at_
  refine ⟨s, dx, _, e1, a1, rfl, h2.mono fun vs kn2 n2 ⟨e2, s1, s2, q⟩ => ?_⟩
  subst e2
  exact ⟨_, _, _, _, _, _, rfl, s1, s2, q⟩
theorem tabs__law_parts_right {K : PySem.W.Frag} {mg : Str → Option Value} (T : Tx K mg) : ∀ p ∈ tabsT T, p.1 = T.tp__law_parts_right → p.2 = "_law_parts_right.<locals>.<lambda>" := by
  intro p hp e
  rcases List.mem_cons.mp hp with rfl | hp
  · rfl
  · rcases List.mem_cons.mp hp with rfl | hp
    · exact absurd e.symm T.tp_ne
    · cases hp
theorem tabs__law_refused_right {K : PySem.W.Frag} {mg : Str → Option Value} (T : Tx K mg) : ∀ p ∈ tabsT T, p.1 = T.tp__law_refused_right → p.2 = "_law_refused_right.<locals>.<lambda>" := by
  intro p hp e
  rcases List.mem_cons.mp hp with rfl | hp
  · exact absurd e T.tp_ne
  · rcases List.mem_cons.mp hp with rfl | hp
    · rfl
    · cases hp
def bParts : List V → Hp → AK → AXK → Prop := fun vs kn Q _ => ∃ d o, vs = [.int d, nV o] ∧ -999999999999 ≤ d ∧ d ≤ 999999999199 ∧ okN o ∧ ∀ kn', Ext kn kn' → Q (.bl true) kn'
theorem mo_parts : MonoX bParts := by
  rintro vs kn Q R E F h1 h2 ⟨d, o, a, b, b2, b3, h⟩
  exact ⟨d, o, a, b, b2, b3, fun kn' x => h1 _ _ (h kn' x)⟩
section
variable {P : Program} {w : World} {K : PySem.W.Frag} {mg : Str → Option Value} {base : Heap}
theorem ok__law_parts_right (T : Tx K mg) (TB : TabB base mg T.cc__law_parts_right T.tp__law_parts_right) : L2.FnG P w K mg base CX0 24 T.f__law_parts_right T.d__law_parts_right ["pen", "day", "nights"] (liftP (tabsT T) 6 bParts) := by
  obtain ⟨oc, od, kV, doc, pm, an, cdH, ct, osl, hfd, lkH, hcdH⟩ := T.F__law_heard.ex
  have bdH := T.bd__law_heard
  rw [hfd] at bdH lkH
  refine T.F__law_parts_right.okGC sc__law_parts_right (fun vs H Q E h => ?_) (fun A outer s H vs Q E hr hg h => ?_)
  · obtain ⟨p, a, ns, n, kn, ws, rfl, _, _, d, o, rfl, _⟩ := h
    rfl
  · obtain ⟨p, a, ns, n, kn, ws, rfl, g, hn, d, o, rfl, d1, d2, no, h⟩ := h
    have cS := T.cl_Stay; have nF := T.na_Stay_first; have nA := T.na_Stay_after; have nN := T.na_Stay__nights
    have cR := T.cl_Stretch; have nD := T.na_Stretch_day; have nM := T.na_Stretch_nights
    refine ⟨_, (pss_cons (ps_set (i := 3) sc__law_parts_right.nd rfl (by first | exact Or.inl rfl | exact Or.inr rfl) (pe_make T.mk_Stretch (ok_Stretch___init__ T) (hr.mono (by decide)) (by rfl) T.g_Stretch T.bd_Stretch___init__ .nil passL (pa_cons (pv 1) (pa_cons (pv 2) pa_nil))))
       (pss_cons (ps_set (i := 4) sc__law_parts_right.nd rfl (by first | exact Or.inl rfl | exact Or.inr rfl) (pe_op op_add (pv 1) (pe_call (ok__law_pick T (tabsT T)) (hr.mono (by decide)) (by rfl) T.g__law_pick T.F__law_pick.kp T.bd__law_pick .nil pass0 (pa_cons (pv 0) (pa_cons (pe_lst (pa_cons pe_int (pa_cons (pe_un un_neg pe_int) (pa_cons pe_int (pa_cons pe_int (pa_cons (pe_call (ok__law_draw T) (hr.mono (by decide)) (by rfl) T.g__law_draw T.F__law_draw.kp T.bd__law_draw .nil pass0 (pa_cons (pv 0) (pa_cons pe_int pa_nil))) (pa_cons (pe_op op_sub (pe_call (ok__law_draw T) (hr.mono (by decide)) (by rfl) T.g__law_draw T.F__law_draw.kp T.bd__law_draw .nil pass0 (pa_cons (pv 0) (pa_cons pe_int pa_nil))) pe_int) pa_nil))))))) pa_nil)))))
       (pss_cons (ps_set (i := 5) sc__law_parts_right.nd rfl (by first | exact Or.inl rfl | exact Or.inr rfl) (pe_call (ok__law_pick T (tabsT T)) (hr.mono (by decide)) (by rfl) T.g__law_pick T.F__law_pick.kp T.bd__law_pick .nil pass0 (pa_cons (pv 0) (pa_cons (pe_lst (pa_cons pe_int (pa_cons pe_int (pa_cons pe_int (pa_cons (pe_op op_add pe_int (pe_call (ok__law_draw T) (hr.mono (by decide)) (by rfl) T.g__law_draw T.F__law_draw.kp T.bd__law_draw .nil pass0 (pa_cons (pv 0) (pa_cons pe_int pa_nil)))) pa_nil))))) pa_nil))))
       (pss_cons (ps_if (PW.pt (pw_and (pt_cmpR c_notN (pv 2) pe_non (nomark _)) (pw_and1 (pt_cmpR op_eq (pe_call (ok__law_draw T) (hr.mono (by decide)) (by rfl) T.g__law_draw T.F__law_draw.kp T.bd__law_draw .nil pass0 (pa_cons (pv 0) (pa_cons pe_int pa_nil))) pe_int (nomark _)))))
       (pss_one (ps_set (i := 5) sc__law_parts_right.nd rfl (by first | exact Or.inl rfl | exact Or.inr rfl) (pe_callB (c_max2 rfl) (by rfl) T.b_max (by decide +kernel) (pa_cons pe_int (pa_cons (pe_callB (c_min2 rfl) (by rfl) T.b_min (by decide +kernel) (pa_cons pe_int (pa_cons (pe_op op_sub (pe_op op_add (pv 1) (pv 2)) (pv 4)) pa_nil))) pa_nil)))))
       pss_nil)
       (pss_cons (ps_if (pt_not (pt_chain op_le op_le (pe_op op_sub pe_int (pe_op op_pow pe_int pe_int)) (pv 4) (pe_op op_sub (pe_op op_sub (pe_op op_pow pe_int pe_int) pe_int) (pv 5))))
       (pss_one (ps_ret pe_bl))
       pss_nil)
       (pss_cons (ps_set (i := 6) sc__law_parts_right.nd rfl (by first | exact Or.inl rfl | exact Or.inr rfl) (pe_make T.mk_Stay (ok_Stay___init__ T) (hr.mono (by decide)) (by rfl) T.g_Stay T.bd_Stay___init__ .nil passL (pa_cons (pv 4) (pa_cons (pe_op op_add (pv 4) (pv 5)) pa_nil))))
       (pss_cons (ps_set (i := 7) sc__law_parts_right.nd rfl (by first | exact Or.inl rfl | exact Or.inr rfl) (pe_and (pe_chain op_le op_le (pv 1) (pv 4) (pe_op op_add (pv 1) pe_int)) (pe_one (pe_or (pe_cmpR c_isN (pv 2) pe_non (nomark _)) (pe_one (pe_cmpR op_le (pe_op op_add (pv 4) (pv 5)) (pe_op op_add (pv 1) (pv 2)) (nomark _)))))))
       (pss_cons (ps_if (pt_cmpR op_ne (pe_callB c_reprB (by rfl) T.b_repr (by decide +kernel) (pa_cons (pe_meth (pv 3) T.cl_Stretch T.me_Stretch_has_stay (ok_Stretch_has_stay T) (hr.mono (by decide)) T.bd_Stretch_has_stay .nil pass0 (pa_cons (pv 6) pa_nil)) pa_nil)) (pe_callB c_reprB (by rfl) T.b_repr (by decide +kernel) (pa_cons (pv 7) pa_nil)) (nomark _))
       (pss_one (ps_ret pe_bl))
       pss_nil)
       (pss_cons (ps_set (i := 8) sc__law_parts_right.nd rfl (by first | exact Or.inl rfl | exact Or.inr rfl) (pe_lamcall (T := tabsT T) (TT := TTh2 T) (t := fun EE => tOp (rOwnD K .Sub T.c_Stretch T.c_Stay (liftX (bSub T.c_Stretch T.c_Stay T.c_Outside)) EE) (tVar 3) (tVar 6)) (k := 14) (by rfl) T.g__law_heard T.F__law_heard.kp lkH hcdH bdH sc__law_heard rfl (Or.inl rfl) (gives_heard T rfl rfl rfl rfl (hr.mono (by decide))) TB T.code__law_parts_right (by first | exact .head _ | exact .tail _ (.head _)) (tabs__law_parts_right T) (hr.mono (by decide)) (lamS_by (sc := defScope s__law_parts_right) (by decide +kernel)) rfl (fun _ _ _ _ _ => rfl) (fun AL outerL sL HL EL fL cL hr => (pe_op (op_ownD T.op_Stretch_sub T.nn_Stay_sub T.own_Stay (ok_Stretch___sub__ T) (hr.mono (by decide)) T.bd_Stretch___sub__ (passes_call (takes_of rfl rfl rfl rfl) (fun _ _ _ _ h => h))) (pv 3) (pv 6)))))
       (pss_cons (ps_if (pt_not (pt_val (pv 7)))
       (pss_one (ps_ret (pe_cmpR (op_eqD hr.units) (pv 8) (pe_tup (pa_cons pe_str (pa_cons (pe_callTy (c_strO T.sm_Stay___str__ (ok_Stay___str__ T) (hr.mono (by decide)) T.bd_Stay___str__ pass0) (by rfl) T.b_str (by decide +kernel) (pa_cons (pv 6) pa_nil)) pa_nil))) (nomark _))))
       pss_nil)
       (pss_cons (ps_asg (pe_ix ix_list (pv 8) pe_int (fun _ _ => rfl)) (pg_tup (by rfl) (pgs_cons (pg_name (i := 9) sc__law_parts_right.nd rfl (by first | exact Or.inl rfl | exact Or.inr rfl)) (pgs_cons (pg_name (i := 10) sc__law_parts_right.nd rfl (by first | exact Or.inl rfl | exact Or.inr rfl)) pgs_nil))))
       (pss_cons (ps_set (i := 11) sc__law_parts_right.nd rfl (by first | exact Or.inl rfl | exact Or.inr rfl) (pe_ifExp (pt_cmpR c_isN (pv 2) pe_non (nomark _)) pe_non (pe_op op_sub (pe_op op_sub (pe_op op_add (pv 1) (pv 2)) (pv 4)) (pv 5))))
       (pss_one (ps_ret (pe_and (pe_callB call_isi (by rfl) T.b_isinstance (by decide +kernel) (pa_cons (pe_ix ix_list (pv 8) pe_int (fun _ _ => rfl)) (pa_cons (pe_bltn (v := .ty "tuple") (u := .type "tuple") (by rfl) T.b_tuple (by decide +kernel) rfl) pa_nil))) (pe_and (pe_callG hg (ok__law_is T) (hr.mono (by decide)) (by rfl) T.g__law_is T.F__law_is.kp T.bd__law_is .nil pass0 (pa_cons (pv 9) (pa_cons (pv 1) (pa_cons (pe_op op_sub (pv 4) (pv 1)) pa_nil)))) (pe_one (pe_callG hg (ok__law_is T) (hr.mono (by decide)) (by rfl) T.g__law_is T.F__law_is.kp T.bd__law_is .nil pass0 (pa_cons (pv 10) (pa_cons (pe_op op_add (pv 4) (pv 5)) (pa_cons (pv 11) pa_nil))))))))))))))))))))), ?_⟩
    refine body_of g ?_
    have p12 : (10 : Int) ^ (12 : Int).toNat = 1000000000000 := by decide +kernel
    have dd : isDay d := day_of ⟨by omega, by omega⟩
    walk_at "w"
    refine w_makeS (EA := fun _ _ _ _ => False) err_no ?_
    walk_at "w"
    refine ⟨d, o, rfl, dd, no, fun s0 kn1 e1 n1 sr => ?_⟩
    walk_at "w"
    refine w_callP mo_pick err_no ?_
    walk_at "w"
    refine w_draw ?_
    walk_at "w"
    refine ⟨by omega, by decide, by decide, fun j j0 j1 => ?_⟩
    walk_at "w"
    refine w_draw ?_
    walk_at "w"
    refine ⟨by omega, by decide, by decide, fun j2 j20 j21 => ?_⟩
    walk_at "w"
    refine ⟨show 6 ≤ 1000 by decide, fun l hl => ?_⟩
    walk_at "w"
    refine ⟨by omega, _, _, rfl, upd_same, show 0 < 6 by decide, show 6 ≤ 1000 by decide, fun v hv => ?_⟩
    obtain ⟨m, rfl, m1, m2⟩ : ∃ m : Int, v = .int m ∧ -5 ≤ m ∧ m ≤ 415 := by
      simp only [List.mem_cons, List.mem_nil_iff, or_false] at hv
      rcases hv with rfl | rfl | rfl | rfl | rfl | rfl <;> exact ⟨_, rfl, by omega, by omega⟩
    have sr := StrAt.ext (ext_new (o := .lst [.int 0, .int (-1), .int 400, .int 401, .int j, .int (j2 - 5)]) hl) sr
    have e2 := ext_tr e1 (ext_new (o := .lst [.int 0, .int (-1), .int 400, .int 401, .int j, .int (j2 - 5)]) hl)
    generalize upd kn1 l (.lst [.int 0, .int (-1), .int 400, .int 401, .int j, .int (j2 - 5)]) = kn2 at sr e2 ⊢
    clear hl hv
    walk_at "w"
    refine w_callP mo_pick err_no ?_
    walk_at "w"
    refine w_draw ?_
    walk_at "w"
    refine ⟨by omega, by decide, by decide, fun j3 j30 j31 => ?_⟩
    walk_at "w"
    refine ⟨show 4 ≤ 1000 by decide, fun l hl => ?_⟩
    walk_at "w"
    refine ⟨by omega, _, _, rfl, upd_same, show 0 < 4 by decide, show 4 ≤ 1000 by decide, fun v hv => ?_⟩
    obtain ⟨g0, rfl, g1, g2⟩ : ∃ m : Int, v = .int m ∧ 1 ≤ m ∧ m ≤ 400 := by
      simp only [List.mem_cons, List.mem_nil_iff, or_false] at hv
      rcases hv with rfl | rfl | rfl | rfl <;> exact ⟨_, rfl, by omega, by omega⟩
    have sr := StrAt.ext (ext_new (o := .lst [.int 1, .int 2, .int 400, .int (1 + j3)]) hl) sr
    have e3 := ext_tr e2 (ext_new (o := .lst [.int 1, .int 2, .int 400, .int (1 + j3)]) hl)
    generalize upd kn2 l (.lst [.int 1, .int 2, .int 400, .int (1 + j3)]) = kn3 at sr e3 ⊢
    clear hl hv
    generalize hf : d + m = f
    walk_at "w"
    refine s_join (fun σ' kn' n' => kn' = kn3 ∧ n' ≤ n + 6 ∧ ∃ k : Int, 1 ≤ k ∧ k ≤ 400 ∧ σ' = [some (.ref p), some (.int d), some (nV o), some (.ref s0), some (.int f), some (.int k), none, none, none, none, none, none]) ?_ ?_
    · walk_at "wi"
      cases o with
      | none =>
        rw [show (!decide (nV none = V.non)) = false from rfl]
        walk_at "wi"
        exact ⟨rfl, by omega, g0, g1, g2, rfl⟩
      | some q =>
        rw [show (!decide (nV (some q) = V.non)) = true from rfl]
        walk_at "wi"
        refine w_draw ?_
        walk_at "wi"
        refine ⟨by omega, by decide, by decide, fun j4 j40 j41 => ?_⟩
        walk_at "wi"
        refine ⟨fun hb => ?_, fun hb => ?_⟩
        · walk_at "wi"
          refine r_min2 ?_
          walk_at "wi"
          refine r_max2 ?_
          walk_at "wi"
          refine ⟨rfl, by omega, _, ?_, ?_, rfl⟩
          · split <;> omega
          · split
            · split <;> omega
            · omega
        · walk_at "wi"
          exact ⟨rfl, by omega, g0, g1, g2, rfl⟩
    · rintro σ' kn' n' ⟨rfl, hn', long, g1, g2, rfl⟩
      have fin := fun (k : Hp) (x : Ext kn k) => fin_at (le := hn') (h k x)
      walk_at "wi"
      refine r_I ⟨by decide, by decide, by decide⟩ ?_
      walk_at "wi"
      rw [p12]
      refine ⟨fun hb => ?_, fun hb => ?_⟩
      rotate_left
      · walk_at "wi"
        exact fin _ e3
      walk_at "wi"
      refine r_I ⟨by decide, by decide, by decide⟩ ?_
      walk_at "wi"
      rw [p12]
      have b1 : 1 - 1000000000000 ≤ f := of_decide_eq_true hb
      by_cases hb2 : f ≤ 1000000000000 - 1 - long
      rotate_left
      · rw [decide_eq_false hb2]
        walk_at "wi"
        exact fin _ e3
      rw [decide_eq_true hb2]
      walk_at "wi"
      refine w_stay (EA := fun _ _ _ _ => False) err_no ?_
      walk_at "wi"
      refine ⟨f, f + long, rfl, .inl ⟨day_of ⟨by omega, by omega⟩, day_of ⟨by omega, by omega⟩, by omega, by omega, fun t0 kn4 e4 n4 st => ?_⟩⟩
      have sr := StrAt.ext e4 sr
      have e4 := ext_tr e3 e4
      dsimp only
      refine s_seq ?_
      refine s_join (fun σ' k m => k = kn4 ∧ m = n' ∧ σ' = [some (.ref p), some (.int d), some (nV o), some (.ref s0), some (.int f), some (.int long), some (.ref t0), some (.bl (inS2 d o f (f + long))), none, none, none, none]) ?_ ?_
      · have J : ∀ b, b = inS2 d o f (f + long) → ([some (.ref p), some (.int d), some (nV o), some (.ref s0), some (.int f), some (.int long), some (.ref t0), some (.bl b), none, none, none, none] : L2.St) = [some (.ref p), some (.int d), some (nV o), some (.ref s0), some (.int f), some (.int long), some (.ref t0), some (.bl (inS2 d o f (f + long))), none, none, none, none] := fun b e => by rw [e]
        have U : inS2 d o f (f + long) = ((decide (d ≤ f) && decide (f ≤ d + 400)) && okEnd d (f + long) o) := rfl
        walk_at "wi"
        refine ⟨fun hc => ?_, fun hc => ?_⟩
        · rw [hc] at U
          walk_at "wi"
          by_cases hc2 : f ≤ d + 400
          · rw [decide_eq_true hc2] at U
            rw [decide_eq_true hc2]
            walk_at "wi"
            cases o with
            | none =>
              rw [show decide (nV none = V.non) = true from rfl]
              walk_at "wi"
              first | exact J _ U.symm | exact ⟨rfl, J _ U.symm⟩ | exact ⟨rfl, rfl, J _ U.symm⟩
            | some q =>
              rw [show decide (nV (some q) = V.non) = false from rfl]
              walk_at "wi"
              first | exact J _ U.symm | exact ⟨rfl, J _ U.symm⟩ | exact ⟨rfl, rfl, J _ U.symm⟩
          · rw [decide_eq_false hc2] at U
            rw [decide_eq_false hc2]
            walk_at "wi"
            first | exact J _ U.symm | exact ⟨rfl, J _ U.symm⟩ | exact ⟨rfl, rfl, J _ U.symm⟩
        · rw [hc] at U
          walk_at "wi"
          first | exact J _ U.symm | exact ⟨rfl, J _ U.symm⟩ | exact ⟨rfl, rfl, J _ U.symm⟩
      · rintro σ' k m ⟨rfl, rfl, rfl⟩
        walk_at "wi"
        refine r_has (s := s0) (t' := t0) (d := d) (o := o) (f := f) (e := f + long) ?_
        walk_at "wi"
        refine ⟨rfl, sr, ?_⟩
        walk_at "wi"
        refine ⟨rfl, sr, st, ?_⟩
        walk_at "wi"
        refine r_reprB ?_
        walk_at "wi"
        refine r_reprB ?_
        rw [inS_eq]
        walk_at "wi"
        refine w_lam2 T fun EE hEE => ?_
        walk_at "w"
        obtain ⟨dx, a1⟩ := sr.at_
        obtain ⟨dt, pt, a2, b2⟩ := st.at_
        cases hin : inS2 d o f (f + long) with
        | true =>
          refine r_ownD mo_sub hEE a1 a2 ⟨s0, d, o, t0, f, f + long, rfl, sr, st, .inl ⟨(inS_eq _ _ _ _).trans hin, fun q x z kn5 e5 nq hq sx sz => ?_⟩⟩
          intro l hl
          have e6 := ext_tr e4 (ext_tr e5 (ext_new (o := .lst [.ref q]) hl))
          have hl6 : (upd kn5 l (.lst [.ref q])) l = some (.lst [.ref q]) := upd_same
          have hq6 := know (o := .lst [.ref q]) hl hq
          have sx6 := StrAt.ext (ext_new (o := .lst [.ref q]) hl) sx
          have sz6 := StrAt.ext (ext_new (o := .lst [.ref q]) hl) sz
          generalize upd kn5 l (.lst [.ref q]) = kn6 at e6 hl6 hq6 sx6 sz6 ⊢
          clear hEE
          walk_at "wi"
          refine g_tup hq6 rfl (g_cons (g_name (g_cons (g_name (g_nil ?_)))))
          refine s_seq (s_set ?_)
          refine w_pure (nV (o.map fun n => d + n - (f + long))) ?_ ?_
          · walk_at "wi"
            cases o with
            | none =>
              rw [show decide (nV none = V.non) = true from rfl]
              walk_at "wi"
              all_goals first | exact ⟨rfl, rfl, rfl⟩ | exact ⟨rfl, rfl⟩ | rfl
            | some q =>
              rw [show decide (nV (some q) = V.non) = false from rfl]
              have ed : V.int (d + q - f - long) = V.int (d + q - (f + long)) := congrArg V.int (by omega)
              walk_at "wi"
              all_goals first | exact ⟨ed, rfl, rfl⟩ | exact ed | exact ⟨rfl, rfl⟩ | rfl
          walk_at "wi"
          refine r_isi (.ty _) (.base (.tup hq6)) (kit_ty rfl) ?_
          walk_at "wi"
          refine w_call mo_is err_no ?_
          walk_at "wi"
          refine ⟨x, d, some (f - d), rfl, sx6, fun kn7 e7 => ?_⟩
          walk_at "wi"
          refine w_call mo_is err_no ?_
          walk_at "wi"
          refine ⟨z, f + long, _, rfl, StrAt.ext e7 sz6, fun kn8 e8 => ?_⟩
          exact fin _ (ext_tr e6 (ext_tr e7 e8))
        | false =>
          refine r_ownD mo_sub hEE a1 a2 ⟨s0, d, o, t0, f, f + long, rfl, sr, st, .inr ⟨(inS_eq _ _ _ _).trans hin, fun x kn5 e5 nx hx => ?_⟩⟩
          refine .inl ⟨rfl, x, t0, f, f + long, rfl, hx, StayAt.ext e5 st, fun q kn6 e6 nq hq => ?_⟩
          have st6 := StayAt.ext e6 (StayAt.ext e5 st)
          have e7 := ext_tr e4 (ext_tr e5 e6)
          clear hEE
          walk_at "wi"
          rw [hin]
          walk_at "wi"
          refine r_strSt st6 ?_
          walk_at "wi"
          refine ⟨show 2 ≤ 1000 by decide, fun q2 hq2 => ?_⟩
          refine r_eq_d (d := .tuple [.str "outside", .str (stayT f (f + long))]) (e := .tuple [.str "outside", .str (stayT f (f + long))]) (.tup (sqt (know hq2 hq)) (dp_two _ _)) (.tup (sqt upd_same) (dp_two _ _)) (shp2 (by decide +kernel) (strOk_stay _ _)) (shp2 (by decide +kernel) (strOk_stay _ _)) ?_
          rw [show PyData.eqv (.tuple [.str "outside", .str (stayT f (f + long))]) (.tuple [.str "outside", .str (stayT f (f + long))]) = true from SeqAt.eqv_refl _ (lay2 (by decide +kernel) (strOk_stay _ _))]
          exact fin _ (ext_tr e7 (ext_new hq2))
end

end NN

namespace NN
open PySem PySem.Spec PyProof.Rows L2 LamX AW ClX
/-! ### refused, the law -/
-- a stay that is known
local macro_rules | `(tactic| walk_at "st") => `(tactic| first
  | assumption
  | ((with_reducible refine' StayAt.ext ?h1 ?h2); (case h1 => assumption); (case h2 => walk_at "st"))
  | ((with_reducible refine' StayAt.ext ?h1 ?h2); (case h1 => exact ext_new (by assumption)); (case h2 => walk_at "st")))
local macro_rules | `(tactic| walk_at "w2") => `(tactic| first
  | ((with_reducible refine' w_first ?h1 ?h2 ?h3 ?h4 ?_); (case h3 => rfl); (case h4 => walk_at "st"); (case h1 => assumption); (case h2 => assumption))
  | ((with_reducible refine' w_after ?h1 ?h2 ?h3 ?h4 ?_); (case h3 => rfl); (case h4 => walk_at "st"); (case h1 => assumption); (case h2 => assumption))
  | ((with_reducible refine' w_nights ?h1 ?h2 ?h3 ?h4 ?_); (case h3 => rfl); (case h4 => walk_at "st"); (case h1 => assumption); (case h2 => assumption)))
local macro_rules | `(tactic| walk_at "w") => `(tactic| repeat (first | walk_at "w1" | walk_at "w2" | dsimp only))
local macro_rules | `(tactic| walk_at "wi") => `(tactic| repeat (first | walk_at "w1" | walk_at "w2" | with_reducible refine' s_if ?_ | dsimp only))

local macro_rules | `(tactic| walk_at "sr") => `(tactic| first
  | assumption
  | ((with_reducible refine' StrAt.ext ?h1 ?h2); (case h1 => assumption); (case h2 => walk_at "sr"))
  | ((with_reducible refine' StrAt.ext ?h1 ?h2); (case h1 => exact ext_new (by assumption)); (case h2 => walk_at "sr")))
local macro_rules | `(tactic| walk_at "w3") => `(tactic| first
  | ((with_reducible refine' w_sday ?h1 ?h2 ?h3 ?h4 ?_); (case h3 => rfl); (case h4 => walk_at "sr"); (case h1 => assumption); (case h2 => assumption))
  | ((with_reducible refine' w_snights ?h1 ?h2 ?h3 ?h4 ?_); (case h3 => rfl); (case h4 => walk_at "sr"); (case h1 => assumption); (case h2 => assumption))
  | with_reducible refine' r_isN ?_
  | with_reducible refine' r_notN ?_)
local macro_rules | `(tactic| walk_at "w") => `(tactic| repeat (first | walk_at "w1" | walk_at "w2" | walk_at "w3" | dsimp only))
local macro_rules | `(tactic| walk_at "wi") => `(tactic| repeat (first | walk_at "w1" | walk_at "w2" | walk_at "w3" | with_reducible refine' s_if ?_ | dsimp only))

def bTrue : List V → Hp → AK → AXK → Prop := fun vs kn Q _ => vs = [] ∧ ∀ kn', Ext kn kn' → Q (.bl true) kn'
theorem mo_true : MonoX bTrue := by
  rintro vs kn Q R E F h1 h2 ⟨z1, h⟩
  exact ⟨z1, fun kn' x => h1 _ _ (h kn' x)⟩
theorem keep_tup {kn : Hp} {l q : Addr} {o : HO} {xs ys : List V} (h : kn l = some (.lst xs)) (e : kn q = some (.tup ys)) : upd kn l o q = some (.tup ys) := by
  rw [upd_ne (fun z => by rw [z, h] at e; cases e)]
  exact e
theorem r_rep {c : Cw} {kn : Hp} {n : Nat} {Q : V → Hp → Nat → Prop} {l : Addr} {k : Int} {xs : List V} (h : kn l = some (.lst xs)) (h0 : 0 ≤ k) (h1 : k < 100) (h2 : xs.length ≤ 100) (q : ∀ p, kn p = none → Q (.ref p) (upd kn p (.lst (List.replicate k.toNat xs).flatten)) n) : W c (rRep (.ref l) (.int k)) kn n Q :=
  fun H g _ f => ⟨l, k, xs, rfl, rfl, g.ex _ _ h, by omega, by omega, Nat.le_trans (Nat.mul_le_mul h2 (show k.toNat ≤ 100 by omega)) (by rw [sizeLine_eq]; decide), fun p hp => f _ _ _ _ (q p (g.free hp)) (g.new hp)⟩
section
variable {P : Program} {w : World} {K : PySem.W.Frag} {mg : Str → Option Value} {base : Heap}
theorem ok__law_refused_right (T : Tx K mg) (TB : TabB base mg T.cc__law_refused_right T.tp__law_refused_right) : L2.FnG P w K mg base CX0 24 T.f__law_refused_right T.d__law_refused_right ["pen"] (liftP (tabsT T) 2 bTrue) := by
  obtain ⟨oc, od, kV, doc, pm, an, cdH, ct, osl, hfd, lkH, hcdH⟩ := T.F__law_heard.ex
  have bdH := T.bd__law_heard
  rw [hfd] at bdH lkH
  refine T.F__law_refused_right.okGC sc__law_refused_right (fun vs H Q E h => ?_) (fun A outer s H vs Q E hr hg h => ?_)
  · obtain ⟨p, a, ns, n, kn, ws, rfl, _, _, rfl, _⟩ := h
    rfl
  · obtain ⟨p, a, ns, n, kn, ws, rfl, g, hn, rfl, h⟩ := h
    refine ⟨_, (pss_cons (ps_set (i := 1) sc__law_refused_right.nd rfl (by first | exact Or.inl rfl | exact Or.inr rfl) (pe_call (ok__law_pick T (tabsT T)) (hr.mono (by decide)) (by rfl) T.g__law_pick T.F__law_pick.kp T.bd__law_pick .nil pass0 (pa_cons (pv 0) (pa_cons (pe_lst (pa_cons pe_non (pa_cons pe_bl (pa_cons pe_str (pa_cons (pe_tup pa_nil) (pa_cons (pe_op op_pow pe_int pe_int) (pa_cons (pe_un un_neg (pe_op op_pow pe_int pe_int)) (pa_cons (pe_lst (pa_cons pe_int pa_nil)) (pa_cons (pe_op op_pow pe_int pe_int) pa_nil))))))))) pa_nil))))
       (pss_cons (ps_set (i := 2) sc__law_refused_right.nd rfl (by first | exact Or.inl rfl | exact Or.inr rfl) (pe_call (ok__law_pick T (tabsT T)) (hr.mono (by decide)) (by rfl) T.g__law_pick T.F__law_pick.kp T.bd__law_pick .nil pass0 (pa_cons (pv 0) (pa_cons (pe_lst (pa_cons pe_bl (pa_cons (pe_un un_neg pe_int) (pa_cons pe_int (pa_cons pe_str (pa_cons (pe_tup pa_nil) (pa_cons (pe_lst pa_nil) (pa_cons (pe_op op_pow pe_int pe_int) (pa_cons pe_bl pa_nil))))))))) pa_nil))))
       (pss_cons (ps_set (i := 3) sc__law_refused_right.nd rfl (by first | exact Or.inl rfl | exact Or.inr rfl) (pe_lst (pa_cons (pe_lamcall (T := tabsT T) (TT := TTh2 T) (t := fun EE => tMake T.c_Stretch (liftX (bSInit K T.c_Stretch T.c_BadStretch)) [] EE (tCons (tVar 1) (tCons (tVar 2) tNil))) (k := 14) (by rfl) T.g__law_heard T.F__law_heard.kp lkH hcdH bdH sc__law_heard rfl (Or.inl rfl) (gives_heard T rfl rfl rfl rfl (hr.mono (by decide))) TB T.code__law_refused_right (by first | exact .head _ | exact .tail _ (.head _)) (tabs__law_refused_right T) (hr.mono (by decide)) (lamS_by (sc := defScope s__law_refused_right) (by decide +kernel)) rfl (fun _ _ _ _ _ => rfl) (fun AL outerL sL HL EL fL cL hr => (pe_make T.mk_Stretch (ok_Stretch___init__ T) (hr.mono (by decide)) (by rfl) T.g_Stretch T.bd_Stretch___init__ .nil (passes_call (takes_of rfl rfl rfl rfl) (fun _ _ _ _ h => h)) (pa_cons (pv 1) (pa_cons (pv 2) pa_nil))))) pa_nil)))
       (pss_cons (ps_expr (pe_bm PySem.F.plainAttrs_list PySem.F.slot_list_append PySem.F.type_list_append mt_append (pv 3) (pa_cons (pe_lamcall (T := tabsT T) (TT := TTh2 T) (t := fun EE => tMake T.c_Stretch (liftX (bSInit K T.c_Stretch T.c_BadStretch)) [] EE (tCons (tVar 1) (tCons (tC (.int 3)) tNil))) (k := 14) (by rfl) T.g__law_heard T.F__law_heard.kp lkH hcdH bdH sc__law_heard rfl (Or.inl rfl) (gives_heard T rfl rfl rfl rfl (hr.mono (by decide))) TB T.code__law_refused_right (by first | exact .head _ | exact .tail _ (.head _)) (tabs__law_refused_right T) (hr.mono (by decide)) (lamS_by (sc := defScope s__law_refused_right) (by decide +kernel)) rfl (fun _ _ _ _ _ => rfl) (fun AL outerL sL HL EL fL cL hr => (pe_make T.mk_Stretch (ok_Stretch___init__ T) (hr.mono (by decide)) (by rfl) T.g_Stretch T.bd_Stretch___init__ .nil (passes_call (takes_of rfl rfl rfl rfl) (fun _ _ _ _ h => h)) (pa_cons (pv 1) (pa_cons pe_int pa_nil))))) pa_nil)))
       (pss_cons (ps_expr (pe_bm PySem.F.plainAttrs_list PySem.F.slot_list_append PySem.F.type_list_append mt_append (pv 3) (pa_cons (pe_lamcall (T := tabsT T) (TT := TTh2 T) (t := fun EE => tMake T.c_Stretch (liftX (bSInit K T.c_Stretch T.c_BadStretch)) [] EE (tCons (tC (.int 0)) (tCons (tVar 2) tNil))) (k := 14) (by rfl) T.g__law_heard T.F__law_heard.kp lkH hcdH bdH sc__law_heard rfl (Or.inl rfl) (gives_heard T rfl rfl rfl rfl (hr.mono (by decide))) TB T.code__law_refused_right (by first | exact .head _ | exact .tail _ (.head _)) (tabs__law_refused_right T) (hr.mono (by decide)) (lamS_by (sc := defScope s__law_refused_right) (by decide +kernel)) rfl (fun _ _ _ _ _ => rfl) (fun AL outerL sL HL EL fL cL hr => (pe_make T.mk_Stretch (ok_Stretch___init__ T) (hr.mono (by decide)) (by rfl) T.g_Stretch T.bd_Stretch___init__ .nil (passes_call (takes_of rfl rfl rfl rfl) (fun _ _ _ _ h => h)) (pa_cons pe_int (pa_cons (pv 2) pa_nil))))) pa_nil)))
       (pss_cons (ps_expr (pe_bm PySem.F.plainAttrs_list PySem.F.slot_list_append PySem.F.type_list_append mt_append (pv 3) (pa_cons (pe_lamcall (T := tabsT T) (TT := TTh2 T) (t := fun EE => tMake T.c_Stretch (liftX (bSInit K T.c_Stretch T.c_BadStretch)) [] EE (tCons (tVar 1) (tCons (tC .non) tNil))) (k := 14) (by rfl) T.g__law_heard T.F__law_heard.kp lkH hcdH bdH sc__law_heard rfl (Or.inl rfl) (gives_heard T rfl rfl rfl rfl (hr.mono (by decide))) TB T.code__law_refused_right (by first | exact .head _ | exact .tail _ (.head _)) (tabs__law_refused_right T) (hr.mono (by decide)) (lamS_by (sc := defScope s__law_refused_right) (by decide +kernel)) rfl (fun _ _ _ _ _ => rfl) (fun AL outerL sL HL EL fL cL hr => (pe_make T.mk_Stretch (ok_Stretch___init__ T) (hr.mono (by decide)) (by rfl) T.g_Stretch T.bd_Stretch___init__ .nil (passes_call (takes_of rfl rfl rfl rfl) (fun _ _ _ _ h => h)) (pa_cons (pv 1) (pa_cons pe_non pa_nil))))) pa_nil)))
       (pss_one (ps_ret (pe_cmpR (op_eqD hr.units) (pv 3) (pe_op op_cat (pe_op op_rep (pe_lst (pa_cons (pe_tup (pa_cons pe_str (pa_cons pe_str pa_nil))) pa_nil)) pe_int) (pe_lst (pa_cons (pe_tup (pa_cons pe_str (pa_cons pe_str pa_nil))) (pa_cons (pe_tup (pa_cons pe_str (pa_cons pe_str pa_nil))) pa_nil)))) (nomark _)))))))))), ?_⟩
    refine body_of g ?_
    have p12 : (10 : Int) ^ (12 : Int).toNat = 1000000000000 := by decide +kernel
    have p20 : (10 : Int) ^ (20 : Int).toNat = 100000000000000000000 := by decide +kernel
    have p40 : (10 : Int) ^ (40 : Int).toNat = 10000000000000000000000000000000000000000 := by decide +kernel
    walk_at "w"
    refine w_callP mo_pick err_no ?_
    walk_at "w"
    refine ⟨show 0 ≤ 1000 by decide, fun t1 ht1 => ?_⟩
    walk_at "w"
    refine r_I ⟨by decide, by decide, by decide⟩ ?_
    walk_at "w"
    refine r_I ⟨by decide, by decide, by decide⟩ ?_
    walk_at "w"
    refine ⟨show 1 ≤ 1000 by decide, fun l1 hl1 => ?_⟩
    walk_at "w"
    refine r_I ⟨by decide, by decide, by decide⟩ ?_
    walk_at "w"
    refine ⟨show 8 ≤ 1000 by decide, fun l2 hl2 => ?_⟩
    walk_at "w"
    refine ⟨by omega, _, _, rfl, upd_same, show 0 < 8 by decide, show 8 ≤ 1000 by decide, fun v hv => ?_⟩
    have x2 : ∀ o, Ext kn (upd (upd (upd kn t1 (.tup [])) l1 (.lst [.int 1])) l2 o) := fun o => ext_tr (ext_new ht1) (ext_tr (ext_new hl1) (ext_new hl2))
    have ft : ∀ o, upd (upd (upd kn t1 (.tup [])) l1 (.lst [.int 1])) l2 o t1 = some (.tup []) := fun o => know hl2 (know hl1 upd_same)
    have fl : ∀ o, upd (upd (upd kn t1 (.tup [])) l1 (.lst [.int 1])) l2 o l1 = some (.lst [.int 1]) := fun o => know hl2 upd_same
    have e2 := x2 (.lst [.non, .bl true, .str "0", .ref t1, .int (10 ^ (12 : Int).toNat), .int (-10 ^ (12 : Int).toNat), .ref l1, .int (10 ^ (40 : Int).toNat)])
    have ft2 := ft (.lst [.non, .bl true, .str "0", .ref t1, .int (10 ^ (12 : Int).toNat), .int (-10 ^ (12 : Int).toNat), .ref l1, .int (10 ^ (40 : Int).toNat)])
    have fl2 := fl (.lst [.non, .bl true, .str "0", .ref t1, .int (10 ^ (12 : Int).toNat), .int (-10 ^ (12 : Int).toNat), .ref l1, .int (10 ^ (40 : Int).toNat)])
    generalize upd (upd (upd kn t1 (.tup [])) l1 (.lst [.int 1])) l2 (.lst [.non, .bl true, .str "0", .ref t1, .int (10 ^ (12 : Int).toNat), .int (-10 ^ (12 : Int).toNat), .ref l1, .int (10 ^ (40 : Int).toNat)]) = kn2 at e2 ft2 fl2 ⊢
    have non : ∀ {i : Int}, ¬ (-999999999999 ≤ i ∧ i ≤ 999999999999) → ¬ isDay i := fun h => h
    have od : NotDay K kn2 v := by
      rw [p12, p40] at hv
      simp only [List.mem_cons, List.mem_nil_iff, or_false] at hv
      rcases hv with rfl | rfl | rfl | rfl | rfl | rfl | rfl | rfl
      · exact .inr ⟨_, false, .base .non, kit_ty rfl, fun z => nomatch z⟩
      · exact .inr ⟨_, true, .base (.bl _), kit_ty rfl, fun _ => kit_ty rfl⟩
      · exact .inr ⟨_, false, .base (.str _), kit_ty rfl, fun z => nomatch z⟩
      · exact .inr ⟨_, false, .base (.tup ft2), kit_ty rfl, fun z => nomatch z⟩
      · exact .inl ⟨_, rfl, non (by omega)⟩
      · exact .inl ⟨_, rfl, non (by omega)⟩
      · exact .inr ⟨_, false, .base (.lst fl2), kit_ty rfl, fun z => nomatch z⟩
      · exact .inl ⟨_, rfl, non (by omega)⟩
    clear hv x2 ft fl ht1 hl1 hl2 ft2 fl2
    walk_at "w"
    refine w_callP mo_pick err_no ?_
    walk_at "w"
    refine ⟨show 0 ≤ 1000 by decide, fun t1 ht1 => ?_⟩
    walk_at "w"
    refine ⟨show 0 ≤ 1000 by decide, fun l1 hl1 => ?_⟩
    walk_at "w"
    refine r_I ⟨by decide, by decide, by decide⟩ ?_
    walk_at "w"
    refine ⟨show 8 ≤ 1000 by decide, fun l2 hl2 => ?_⟩
    walk_at "w"
    refine ⟨by omega, _, _, rfl, upd_same, show 0 < 8 by decide, show 8 ≤ 1000 by decide, fun u hu => ?_⟩
    have x3 : ∀ o, Ext kn2 (upd (upd (upd kn2 t1 (.tup [])) l1 (.lst [])) l2 o) := fun o => ext_tr (ext_new ht1) (ext_tr (ext_new hl1) (ext_new hl2))
    have ft : ∀ o, upd (upd (upd kn2 t1 (.tup [])) l1 (.lst [])) l2 o t1 = some (.tup []) := fun o => know hl2 (know hl1 upd_same)
    have fl : ∀ o, upd (upd (upd kn2 t1 (.tup [])) l1 (.lst [])) l2 o l1 = some (.lst []) := fun o => know hl2 upd_same
    have x3' := x3 (.lst [.bl true, .int (-1), .int 401, .str "3", .ref t1, .ref l1, .int (10 ^ (20 : Int).toNat), .bl false])
    have ft2 := ft (.lst [.bl true, .int (-1), .int 401, .str "3", .ref t1, .ref l1, .int (10 ^ (20 : Int).toNat), .bl false])
    have fl2 := fl (.lst [.bl true, .int (-1), .int 401, .str "3", .ref t1, .ref l1, .int (10 ^ (20 : Int).toNat), .bl false])
    generalize upd (upd (upd kn2 t1 (.tup [])) l1 (.lst [])) l2 (.lst [.bl true, .int (-1), .int 401, .str "3", .ref t1, .ref l1, .int (10 ^ (20 : Int).toNat), .bl false]) = kn3 at x3' ft2 fl2 ⊢
    have e3 := ext_tr e2 x3'
    have od := notday_ext x3' od
    have nn : NotN K kn3 u := by
      rw [p20] at hu
      simp only [List.mem_cons, List.mem_nil_iff, or_false] at hu
      rcases hu with rfl | rfl | rfl | rfl | rfl | rfl | rfl | rfl
      · exact .inr ⟨(fun z => nomatch z), _, true, .base (.bl _), kit_ty rfl, fun _ => kit_ty rfl⟩
      · exact .inl ⟨_, rfl, by omega⟩
      · exact .inl ⟨_, rfl, by omega⟩
      · exact .inr ⟨(fun z => nomatch z), _, false, .base (.str _), kit_ty rfl, fun z => nomatch z⟩
      · exact .inr ⟨(fun z => nomatch z), _, false, .base (.tup ft2), kit_ty rfl, fun z => nomatch z⟩
      · exact .inr ⟨(fun z => nomatch z), _, false, .base (.lst fl2), kit_ty rfl, fun z => nomatch z⟩
      · exact .inl ⟨_, rfl, by omega⟩
      · exact .inr ⟨(fun z => nomatch z), _, true, .base (.bl _), kit_ty rfl, fun _ => kit_ty rfl⟩
    clear hu x3 ft fl ht1 hl1 hl2 ft2 fl2 e2 x3'
    have wr : Wrong K kn3 (.int 0) u "nights" := .inr ⟨rfl, 0, rfl, day_of ⟨by decide, by decide⟩, nn⟩
    walk_at "w"
    refine w_lamBad T "day" (fun E EA Q' hE hB => ?_) fun q1 kn4 e4 nq1 hq1 => ?_
    · refine w_makeBad hE ?_
      walk_at "w"
      exact ⟨_, _, "day", rfl, .inl ⟨rfl, od⟩, hB⟩
    have od := notday_ext e4 od
    have wr := wrong_ext e4 wr
    have e4 := ext_tr e3 e4
    clear e3 nq1
    walk_at "w"
    refine ⟨show 1 ≤ 1000 by decide, fun l hl => ?_⟩
    have put : ∀ {k : Hp} {o : HO}, Ext kn4 k → Ext kn4 (upd k l o) := fun {k o} x y v hy => by
      rw [upd_ne (fun z => by rw [z, hl] at hy; cases hy)]
      exact x y v hy
    have x5 := ext_new (o := .lst [.ref q1]) hl
    have hl5 : upd kn4 l (.lst [.ref q1]) l = some (.lst [.ref q1]) := upd_same
    have hq1 := know (o := .lst [.ref q1]) hl hq1
    generalize upd kn4 l (.lst [.ref q1]) = kn5 at x5 hl5 hq1 ⊢
    walk_at "w"
    refine w_append rfl hl5 ?_
    walk_at "w"
    refine w_lamBad T "day" (fun E EA Q' hE hB => ?_) fun q2 kn6 e6 nq2 hq2 => ?_
    · refine w_makeBad hE ?_
      walk_at "w"
      exact ⟨_, _, "day", rfl, .inl ⟨rfl, notday_ext x5 od⟩, hB⟩
    have hl6 := e6 _ _ hl5
    have hq1 := keep_tup (o := .lst ([.ref q1] ++ [.ref q2])) hl6 (e6 _ _ hq1)
    have hq2 := keep_tup (o := .lst ([.ref q1] ++ [.ref q2])) hl6 hq2
    have x7 := put (o := .lst ([.ref q1] ++ [.ref q2])) (ext_tr x5 e6)
    walk_at "w"
    refine ⟨_, [.ref q1], rfl, hl6, show 1 ≤ 1000 by decide, ?_⟩
    have hl7 : upd kn6 l (.lst ([.ref q1] ++ [.ref q2])) l = some (.lst ([.ref q1] ++ [.ref q2])) := upd_same
    generalize upd kn6 l (.lst ([.ref q1] ++ [.ref q2])) = kn7 at hl7 hq1 hq2 x7 ⊢
    clear hl5 hl6 x5 e6 nq2
    walk_at "w"
    refine w_append rfl hl7 ?_
    walk_at "w"
    refine w_lamBad T "nights" (fun E EA Q' hE hB => ?_) fun q3 kn8 e8 nq3 hq3 => ?_
    · refine w_makeBad hE ?_
      walk_at "w"
      exact ⟨_, _, "nights", rfl, wrong_ext x7 wr, hB⟩
    have hl8 := e8 _ _ hl7
    have hq1 := keep_tup (o := .lst (([.ref q1] ++ [.ref q2]) ++ [.ref q3])) hl8 (e8 _ _ hq1)
    have hq2 := keep_tup (o := .lst (([.ref q1] ++ [.ref q2]) ++ [.ref q3])) hl8 (e8 _ _ hq2)
    have hq3 := keep_tup (o := .lst (([.ref q1] ++ [.ref q2]) ++ [.ref q3])) hl8 hq3
    have x9 := put (o := .lst (([.ref q1] ++ [.ref q2]) ++ [.ref q3])) (ext_tr x7 e8)
    walk_at "w"
    refine ⟨_, [V.ref q1] ++ [V.ref q2], rfl, hl8, show 2 ≤ 1000 by decide, ?_⟩
    have hl9 : upd kn8 l (.lst (([.ref q1] ++ [.ref q2]) ++ [.ref q3])) l = some (.lst (([.ref q1] ++ [.ref q2]) ++ [.ref q3])) := upd_same
    generalize upd kn8 l (.lst (([.ref q1] ++ [.ref q2]) ++ [.ref q3])) = kn9 at hl9 hq1 hq2 hq3 x9 ⊢
    clear hl7 hl8 x7 e8 nq3
    walk_at "w"
    refine w_append rfl hl9 ?_
    walk_at "w"
    refine w_lamBad T "day" (fun E EA Q' hE hB => ?_) fun q4 kn10 e10 nq4 hq4 => ?_
    · refine w_makeBad hE ?_
      walk_at "w"
      exact ⟨_, _, "day", rfl, .inl ⟨rfl, notday_ext x9 od⟩, hB⟩
    have hl10 := e10 _ _ hl9
    have hq1 := keep_tup (o := .lst ((([.ref q1] ++ [.ref q2]) ++ [.ref q3]) ++ [.ref q4])) hl10 (e10 _ _ hq1)
    have hq2 := keep_tup (o := .lst ((([.ref q1] ++ [.ref q2]) ++ [.ref q3]) ++ [.ref q4])) hl10 (e10 _ _ hq2)
    have hq3 := keep_tup (o := .lst ((([.ref q1] ++ [.ref q2]) ++ [.ref q3]) ++ [.ref q4])) hl10 (e10 _ _ hq3)
    have hq4 := keep_tup (o := .lst ((([.ref q1] ++ [.ref q2]) ++ [.ref q3]) ++ [.ref q4])) hl10 hq4
    have x11 := put (o := .lst ((([.ref q1] ++ [.ref q2]) ++ [.ref q3]) ++ [.ref q4])) (ext_tr x9 e10)
    walk_at "w"
    refine ⟨_, ([V.ref q1] ++ [V.ref q2]) ++ [V.ref q3], rfl, hl10, show 3 ≤ 1000 by decide, ?_⟩
    have hl11 : upd kn10 l (.lst ((([.ref q1] ++ [.ref q2]) ++ [.ref q3]) ++ [.ref q4])) l = some (.lst ((([.ref q1] ++ [.ref q2]) ++ [.ref q3]) ++ [.ref q4])) := upd_same
    generalize upd kn10 l (.lst ((([.ref q1] ++ [.ref q2]) ++ [.ref q3]) ++ [.ref q4])) = kn11 at hl11 hq1 hq2 hq3 hq4 x11 ⊢
    clear hl9 hl10 x9 e10 nq4
    walk_at "w"
    refine ⟨show 2 ≤ 1000 by decide, fun t1 ht1 => ?_⟩
    walk_at "w"
    refine ⟨show 1 ≤ 1000 by decide, fun u1 hu1 => ?_⟩
    walk_at "w"
    refine r_rep upd_same (by decide) (by decide) (show 1 ≤ 100 by decide) fun u2 hu2 => ?_
    rw [show (List.replicate (2 : Int).toNat [V.ref t1]).flatten = [V.ref t1, V.ref t1] from rfl]
    walk_at "w"
    refine ⟨show 2 ≤ 1000 by decide, fun t2 ht2 => ?_⟩
    walk_at "w"
    refine ⟨show 2 ≤ 1000 by decide, fun t3 ht3 => ?_⟩
    walk_at "w"
    refine ⟨show 2 ≤ 1000 by decide, fun u3 hu3 => ?_⟩
    walk_at "w"
    refine r_cat (know hu3 (know ht3 (know ht2 upd_same))) upd_same (show 2 + 2 ≤ 1000 by decide) fun lz hlz => ?_
    refine r_eq_d (d := .list [.tuple [.str "stretch", .str "day"], .tuple [.str "stretch", .str "day"], .tuple [.str "stretch", .str "nights"], .tuple [.str "stretch", .str "day"]]) (e := .list [.tuple [.str "stretch", .str "day"], .tuple [.str "stretch", .str "day"], .tuple [.str "stretch", .str "nights"], .tuple [.str "stretch", .str "day"]])
      (.lst (sql (know hlz (know hu3 (know ht3 (know ht2 (know hu2 (know hu1 (know ht1 hl11)))))))) (.cons (.tup (sqt (know hlz (know hu3 (know ht3 (know ht2 (know hu2 (know hu1 (know ht1 hq1)))))))) (dp_two _ _)) (.cons (.tup (sqt (know hlz (know hu3 (know ht3 (know ht2 (know hu2 (know hu1 (know ht1 hq2)))))))) (dp_two _ _)) (.cons (.tup (sqt (know hlz (know hu3 (know ht3 (know ht2 (know hu2 (know hu1 (know ht1 hq3)))))))) (dp_two _ _)) (.cons (.tup (sqt (know hlz (know hu3 (know ht3 (know ht2 (know hu2 (know hu1 (know ht1 hq4)))))))) (dp_two _ _)) .nil)))))
      (.lst (sql upd_same) (.cons (.tup (sqt (know hlz (know hu3 (know ht3 (know ht2 (know hu2 (know hu1 upd_same))))))) (dp_two _ _)) (.cons (.tup (sqt (know hlz (know hu3 (know ht3 (know ht2 (know hu2 (know hu1 upd_same))))))) (dp_two _ _)) (.cons (.tup (sqt (know hlz (know hu3 (know ht3 upd_same)))) (dp_two _ _)) (.cons (.tup (sqt (know hlz (know hu3 upd_same))) (dp_two _ _)) .nil)))))
      (by decide +kernel) (by decide +kernel) ?_
    rw [show PyData.eqv (.list [.tuple [.str "stretch", .str "day"], .tuple [.str "stretch", .str "day"], .tuple [.str "stretch", .str "nights"], .tuple [.str "stretch", .str "day"]]) (.list [.tuple [.str "stretch", .str "day"], .tuple [.str "stretch", .str "day"], .tuple [.str "stretch", .str "nights"], .tuple [.str "stretch", .str "day"]]) = true by decide +kernel]
    exact h _ (ext_tr e4 (ext_tr x11 (ext_tr (ext_new ht1) (ext_tr (ext_new hu1) (ext_tr (ext_new hu2) (ext_tr (ext_new ht2) (ext_tr (ext_new ht3) (ext_tr (ext_new hu3) (ext_new hlz)))))))))
/-- the law -/
def spLaw {K : PySem.W.Frag} {mg : Str → Option Value} (T : Tx K mg) : Sp := fun vs H Q _ => ∃ (sc : Addr) (ns : List Int), vs = [.ref sc] ∧ SqL K H sc (ns.map V.int) ∧ Tabs (tabsT T) H ∧ ∀ H', Q (.bl true) H'
theorem gname_run {i : Nat} {v : V} {σ : L2.St} {H : Hp} {N : L2.St → Hp → Prop} (h : N (σ.set i (some v)) H) : gName i v σ H N := h
theorem tabs_new {T : List (Addr × Str)} {H : Hp} (h : ∀ p ∈ T, H p.1 = some (.tbl #[])) : Tabs T H := fun p hp => ⟨#[], h p hp, by simp [TriplesOk], fun pos cv hc => by simp [codeAmong] at hc⟩
theorem ok_law (T : Tx K mg) (TBp : TabB base mg T.cc__law_parts_right T.tp__law_parts_right) (TBr : TabB base mg T.cc__law_refused_right T.tp__law_refused_right) : L2.FnG P w K mg base CX0 40 T.f_law T.d_law ["script"] (spLaw T) := by
  refine T.F_law.okG sc_law (fun vs H Q E h => ?_) (fun cdv A outer s H vs Q E hr hg h => ?_)
  · obtain ⟨sc, ns, rfl, _⟩ := h
    rfl
  · obtain ⟨sc, ns, rfl, hs, hT, h⟩ := h
    refine ⟨_, (pss_cons (ps_set (i := 1) sc_law.nd rfl (by first | exact Or.inl rfl | exact Or.inr rfl) (pe_call (ok__law_pen T) (hr.mono (by decide)) (by rfl) T.g__law_pen T.F__law_pen.kp T.bd__law_pen .nil pass0 (pa_cons (pv 0) pa_nil)))
       (pss_cons (ps_for PassesOwn.never rfl (pi_range1 (by rfl) T.b_range (pa_cons pe_int pa_nil)) (pg_name (i := 2) sc_law.nd rfl (by first | exact Or.inl rfl | exact Or.inr rfl))
       (pss_cons (ps_par (i := 3) (j := 4) (by rfl) sc_law.nd rfl rfl (by decide) rfl rfl (pa_cons (pe_call (ok__law_day T) (hr.mono (by decide)) (by rfl) T.g__law_day T.F__law_day.kp T.bd__law_day .nil pass0 (pa_cons (pv 1) pa_nil)) (pa_cons (pe_call (ok__law_pick T (tabsT T)) (hr.mono (by decide)) (by rfl) T.g__law_pick T.F__law_pick.kp T.bd__law_pick .nil pass0 (pa_cons (pv 1) (pa_cons (pe_lst (pa_cons pe_non (pa_cons pe_int (pa_cons pe_int (pa_cons pe_int (pa_cons (pe_call (ok__law_draw T) (hr.mono (by decide)) (by rfl) T.g__law_draw T.F__law_draw.kp T.bd__law_draw .nil pass0 (pa_cons (pv 1) (pa_cons pe_int pa_nil))) (pa_cons (pe_call (ok__law_draw T) (hr.mono (by decide)) (by rfl) T.g__law_draw T.F__law_draw.kp T.bd__law_draw .nil pass0 (pa_cons (pv 1) (pa_cons pe_int pa_nil))) pa_nil))))))) pa_nil))) pa_nil)) (by rfl))
       (pss_cons (ps_if (PW.pt (pw_or (pt_not (pt_val (pe_callG hg (ok__law_is T) (hr.mono (by decide)) (by rfl) T.g__law_is T.F__law_is.kp T.bd__law_is .nil pass0 (pa_cons (pe_make T.mk_Stretch (ok_Stretch___init__ T) (hr.mono (by decide)) (by rfl) T.g_Stretch T.bd_Stretch___init__ .nil passL (pa_cons (pv 3) (pa_cons (pv 4) pa_nil))) (pa_cons (pv 3) (pa_cons (pv 4) pa_nil)))))) (pw_or1 (pt_not (pt_val (pe_call (ok__law_unlike_right T) (hr.mono (by decide)) (by rfl) T.g__law_unlike_right T.F__law_unlike_right.kp T.bd__law_unlike_right .nil pass0 (pa_cons (pv 1) (pa_cons (pv 3) (pa_cons (pv 4) pa_nil)))))))))
       (pss_one (ps_ret pe_bl))
       pss_nil)
       (pss_one (ps_if (PW.pt (pw_or (pt_not (pt_val (pe_callG hg (ok__law_parts_right T TBp) (hr.mono (by decide)) (by rfl) T.g__law_parts_right T.F__law_parts_right.kp T.bd__law_parts_right .nil pass0 (pa_cons (pv 1) (pa_cons (pv 3) (pa_cons (pv 4) pa_nil)))))) (pw_or1 (pt_not (pt_val (pe_callG hg (ok__law_refused_right T TBr) (hr.mono (by decide)) (by rfl) T.g__law_refused_right T.F__law_refused_right.kp T.bd__law_refused_right .nil pass0 (pa_cons (pv 1) pa_nil)))))))
       (pss_one (ps_ret pe_bl))
       pss_nil)))))
       (pss_cons (ps_set (i := 5) sc_law.nd rfl (by first | exact Or.inl rfl | exact Or.inr rfl) (pe_lst (pa_cons (pe_make T.mk_Stretch (ok_Stretch___init__ T) (hr.mono (by decide)) (by rfl) T.g_Stretch T.bd_Stretch___init__ .nil passL (pa_cons (pe_op op_sub (pe_op op_pow pe_int pe_int) pe_int) (pa_cons pe_int pa_nil))) (pa_cons (pe_make T.mk_Stretch (ok_Stretch___init__ T) (hr.mono (by decide)) (by rfl) T.g_Stretch T.bd_Stretch___init__ .nil passL (pa_cons (pe_op op_sub pe_int (pe_op op_pow pe_int pe_int)) (pa_cons pe_non pa_nil))) pa_nil))))
       (pss_one (ps_ret (pe_and (pe_cmpR op_eq (pe_callTy (c_strO T.sm_Stretch___str__ (ok_Stretch___str__ T) (hr.mono (by decide)) T.bd_Stretch___str__ pass0) (by rfl) T.b_str (by decide +kernel) (pa_cons (pe_ix ix_list (pv 5) pe_int (fun _ _ => rfl)) pa_nil)) pe_str (nomark _)) (pe_one (pe_cmpR op_eq (pe_callTy (c_strO T.sm_Stretch___str__ (ok_Stretch___str__ T) (hr.mono (by decide)) T.bd_Stretch___str__ pass0) (by rfl) T.b_str (by decide +kernel) (pa_cons (pe_ix ix_list (pv 5) pe_int (fun _ _ => rfl)) pa_nil)) pe_str (nomark _))))))))), ?_⟩
    refine ⟨_, rfl, sc, ns, rfl, hs, fun p a ns' H1 pa hp ha h1 h2 eH => ?_⟩
    have g1 : AW.Good (penC p a ns' (tabsT T)) (fun _ => none) 0 H1 := ⟨fun x o z => (by cases z), ⟨⟨⟨0, 0, h1, by omega, by omega, by omega⟩, h2, pa⟩, Tabs.keep (fun b o z _ => eH b o z) hT⟩, fun _ _ => rfl, fun x o z => (by cases z)⟩
    refine gname_run ?_
    dsimp only
    refine body_of g1 ?_
    refine s_seq ?_
    refine s_join (fun σ' kn' n' => n' ≤ 500 ∧ ∃ x0 x2 x3 x4 x5, σ' = [x0, some (.ref p), x2, x3, x4, x5]) ?_ ?_
    · refine s_forR1 (j := 10) (fun i σ' kn' n' => n' ≤ 50 * i ∧ ∃ x0 x2 x3 x4 x5, σ' = [x0, some (.ref p), x2, x3, x4, x5]) ?_ ?_ ?_
      · walk_at "w"
        refine ⟨rfl, by decide, by decide, by omega, ?_⟩
        exact ⟨_, _, _, _, _, rfl⟩
      · rintro i σ' kn n hi ⟨hn, x0, x2, x3, x4, x5, rfl⟩
        have hi8 : i < 10 := hi
        walk_at "w"
        refine w_callP mo_aday err_no ?_
        walk_at "w"
        refine ⟨by omega, rfl, fun d kn1 d1 d2 e1 => ?_⟩
        walk_at "w"
        refine w_callP mo_pick err_no ?_
        walk_at "w"
        refine w_draw ?_
        walk_at "w"
        refine ⟨by omega, by decide, by decide, fun j j0 j1 => ?_⟩
        walk_at "w"
        refine w_draw ?_
        walk_at "w"
        refine ⟨by omega, by decide, by decide, fun j2 j20 j21 => ?_⟩
        walk_at "w"
        refine ⟨show 6 ≤ 1000 by decide, fun l hl => ?_⟩
        walk_at "w"
        refine ⟨by omega, _, _, rfl, upd_same, show 0 < 6 by decide, show 6 ≤ 1000 by decide, fun v hv => ?_⟩
        obtain ⟨o, rfl, no⟩ : ∃ o, v = nV o ∧ okN o := by
          simp only [List.mem_cons, List.mem_nil_iff, or_false] at hv
          rcases hv with rfl | rfl | rfl | rfl | rfl | rfl
          · exact ⟨none, rfl, okn_none⟩
          · exact ⟨some 0, rfl, okn_some ⟨by omega, by omega⟩⟩
          · exact ⟨some 1, rfl, okn_some ⟨by omega, by omega⟩⟩
          · exact ⟨some 400, rfl, okn_some ⟨by omega, by omega⟩⟩
          · exact ⟨some j, rfl, okn_some ⟨by omega, by omega⟩⟩
          · exact ⟨some j2, rfl, okn_some ⟨by omega, by omega⟩⟩
        generalize upd kn1 l _ = kn2
        clear hl hv
        walk_at "w"
        refine ⟨_, _, rfl, ?_⟩
        walk_at "wi"
        have dd : isDay d := day_of ⟨by omega, by omega⟩
        refine w_call mo_is err_no ?_
        walk_at "wi"
        refine w_makeS (EA := fun _ _ _ _ => False) err_no ?_
        walk_at "wi"
        refine ⟨d, o, rfl, dd, no, fun s1 kn3 e3 n3 sr => ?_⟩
        walk_at "wi"
        refine ⟨s1, d, o, rfl, sr, fun kn4 e4 => ?_⟩
        walk_at "wi"
        refine w_call mo_unlike err_no ?_
        walk_at "wi"
        refine ⟨_, d, o, rfl, d1, d2, no, fun kn5 e5 => ?_⟩
        walk_at "wi"
        refine w_callP mo_parts err_no ?_
        walk_at "wi"
        refine ⟨by omega, d, o, rfl, d1, d2, no, fun kn6 e6 => ?_⟩
        walk_at "wi"
        refine w_callP mo_true err_no ?_
        walk_at "wi"
        refine ⟨by omega, rfl, fun kn7 e7 => ?_⟩
        walk_at "wi"
        exact ⟨by omega, _, _, _, _, _, rfl⟩
      · rintro σ' kn' n' ⟨hn, q⟩
        exact ⟨hn, q⟩
    · rintro σ' kn n ⟨hn, x0, x2, x3, x4, x5, rfl⟩
      have p12 : (10 : Int) ^ (12 : Int).toNat = 1000000000000 := by decide +kernel
      walk_at "w"
      refine w_makeS (EA := fun _ _ _ _ => False) err_no ?_
      walk_at "w"
      refine r_I ⟨by decide, by decide, by decide⟩ ?_
      walk_at "w"
      rw [p12]
      refine ⟨999999999999, some 400, rfl, day_of ⟨by decide, by decide⟩, okn_some ⟨by decide, by decide⟩, fun s1 kn1 e1 n1 sr1 => ?_⟩
      walk_at "w"
      refine w_makeS (EA := fun _ _ _ _ => False) err_no ?_
      walk_at "w"
      refine r_I ⟨by decide, by decide, by decide⟩ ?_
      walk_at "w"
      rw [p12]
      refine ⟨-999999999999, none, rfl, day_of ⟨by decide, by decide⟩, okn_none, fun s2 kn2 e2 n2 sr2 => ?_⟩
      walk_at "w"
      refine ⟨show 2 ≤ 1000 by decide, fun l hl => ?_⟩
      have f1 := StrAt.ext (ext_tr e2 (ext_new (o := .lst [.ref s1, .ref s2]) hl)) sr1
      have f2 := StrAt.ext (ext_new (o := .lst [.ref s1, .ref s2]) hl) sr2
      have fl : (upd kn2 l (.lst [.ref s1, .ref s2])) l = some (.lst [.ref s1, .ref s2]) := upd_same
      generalize upd kn2 l (.lst [.ref s1, .ref s2]) = kn3 at f1 f2 fl ⊢
      walk_at "w"
      refine r_strSr f1 ?_
      walk_at "w"
      rw [show decide (V.str (strT 999999999999 (some 400)) = V.str "999999999999+400") = true by decide +kernel]
      walk_at "w"
      refine r_strSr f2 ?_
      walk_at "w"
      rw [show decide (V.str (strT (-999999999999) none) = V.str "-999999999999+") = true by decide +kernel]
      exact fun H' _ => h H'
end
/-- the law at its head -/
theorem law_at {l : PySem.W.OpenLaw} {w : World} {K : PySem.W.Frag} {mg : Str → Option Value} {h : Heap} {fa : Addr} (T : Tx K mg) (hfa : T.f_law = fa) (hc1 : PySem.W.CodeHd h T.cc__law_parts_right T.tp__law_parts_right) (hc2 : PySem.W.CodeHd h T.cc__law_refused_right T.tp__law_refused_right)
    (hg1 : h.get? T.tp__law_parts_right = some { cls := .none, data := .fields #[] }) (hg2 : h.get? T.tp__law_refused_right = some { cls := .none, data := .fields #[] }) (hn1 : K.lookup T.tp__law_parts_right = none) (hn2 : K.lookup T.tp__law_refused_right = none) : LawAtG l w K CX0 40 63 "script" mg fa h := by
  subst hfa
  refine ⟨T.d_law, [(T.cc__law_parts_right, T.tp__law_parts_right), (T.cc__law_refused_right, T.tp__law_refused_right)], spLaw T, ?_, ?_, ?_, ?_, ?_, ?_⟩
  · intro p hp
    rcases List.mem_cons.mp hp with rfl | hp
    · exact hg1
    · rcases List.mem_cons.mp hp with rfl | hp
      · exact hg2
      · cases hp
  · intro p hp
    rcases List.mem_cons.mp hp with rfl | hp
    · exact hn1
    · rcases List.mem_cons.mp hp with rfl | hp
      · exact hn2
      · cases hp
  · intro p hp
    rcases List.mem_cons.mp hp with rfl | hp
    · exact hc1
    · rcases List.mem_cons.mp hp with rfl | hp
      · exact hc2
      · cases hp
  · intro s u
    obtain ⟨oc, od, kV, doc, pm, an, cdv, ct, osl, hfd, _, _⟩ := T.F_law.ex
    rw [hfd]
    exact BindsTo.of_eq (by rfl)
  · intro H a nums hl hb ht hs
    refine ⟨a, nums, rfl, hs, tabs_new fun p hp => ?_, fun H' => rfl⟩
    rcases List.mem_cons.mp hp with rfl | hp
    · exact ht _ (.head _)
    · rcases List.mem_cons.mp hp with rfl | hp
      · exact ht _ (.tail _ (.head _))
      · cases hp
  · intro base hK hNs ht
    exact ok_law T (ht _ (.head _)) (ht _ (.tail _ (.head _)))

end NN

namespace NN
open PySem PySem.Spec PyProof.Rows L2 LamX AW ClX
theorem all_mk {K : PySem.W.Frag} {h : Heap} {mg : Str → Option Value} {l : PySem.W.OpenLaw} {w : World} {fa : Addr} (hfa : mg "law" = some (.ref fa)) (X : K.In h) (G : h.Ns mainGlobals mg)
    {f_is_whole : Addr}
    {oc_is_whole : Value}
    {kV_is_whole : Value}
    {dc_is_whole : Value}
    {pm_is_whole : Value}
    {cd_is_whole : Value}
    {ct_is_whole : Value}
    {od_is_whole : Option Addr}
    {an_is_whole : Option Addr}
    {sl_is_whole : Array (Option Value)}
    {f_is_from : Addr}
    {oc_is_from : Value}
    {kV_is_from : Value}
    {dc_is_from : Value}
    {pm_is_from : Value}
    {cd_is_from : Value}
    {ct_is_from : Value}
    {od_is_from : Option Addr}
    {an_is_from : Option Addr}
    {sl_is_from : Array (Option Value)}
    {f_is_day : Addr}
    {oc_is_day : Value}
    {kV_is_day : Value}
    {dc_is_day : Value}
    {pm_is_day : Value}
    {cd_is_day : Value}
    {ct_is_day : Value}
    {od_is_day : Option Addr}
    {an_is_day : Option Addr}
    {sl_is_day : Array (Option Value)}
    {c_StayError : Addr}
    {c_BadStay : Addr}
    {nm_BadStay : Str}
    {q_BadStay : Str}
    {N_BadStay : Addr}
    {bs_BadStay : List Value}
    {bm_BadStay : List Value}
    {sn_BadStay : List Str}
    {sub_BadStay : List Value}
    {ab_BadStay : Bool}
    {col_BadStay : Option Bool}
    {dd_BadStay : Option Addr}
    {m0_BadStay : Option Value}
    {m1_BadStay : Option Value}
    {m2_BadStay : Option Value}
    {m3_BadStay : Option Value}
    {m5_BadStay : Option Value}
    {f_BadStay___init__ : Addr}
    {oc_BadStay___init__ : Value}
    {kV_BadStay___init__ : Value}
    {dc_BadStay___init__ : Value}
    {pm_BadStay___init__ : Value}
    {cd_BadStay___init__ : Value}
    {ct_BadStay___init__ : Value}
    {od_BadStay___init__ : Option Addr}
    {an_BadStay___init__ : Option Addr}
    {sl_BadStay___init__ : Array (Option Value)}
    {c_BadStretch : Addr}
    {nm_BadStretch : Str}
    {q_BadStretch : Str}
    {N_BadStretch : Addr}
    {bs_BadStretch : List Value}
    {bm_BadStretch : List Value}
    {sn_BadStretch : List Str}
    {sub_BadStretch : List Value}
    {ab_BadStretch : Bool}
    {col_BadStretch : Option Bool}
    {dd_BadStretch : Option Addr}
    {m0_BadStretch : Option Value}
    {m1_BadStretch : Option Value}
    {m2_BadStretch : Option Value}
    {m3_BadStretch : Option Value}
    {m5_BadStretch : Option Value}
    {f_BadStretch___init__ : Addr}
    {oc_BadStretch___init__ : Value}
    {kV_BadStretch___init__ : Value}
    {dc_BadStretch___init__ : Value}
    {pm_BadStretch___init__ : Value}
    {cd_BadStretch___init__ : Value}
    {ct_BadStretch___init__ : Value}
    {od_BadStretch___init__ : Option Addr}
    {an_BadStretch___init__ : Option Addr}
    {sl_BadStretch___init__ : Array (Option Value)}
    {c_Outside : Addr}
    {nm_Outside : Str}
    {q_Outside : Str}
    {N_Outside : Addr}
    {bs_Outside : List Value}
    {bm_Outside : List Value}
    {sn_Outside : List Str}
    {sub_Outside : List Value}
    {ab_Outside : Bool}
    {col_Outside : Option Bool}
    {dd_Outside : Option Addr}
    {m0_Outside : Option Value}
    {m1_Outside : Option Value}
    {m2_Outside : Option Value}
    {m3_Outside : Option Value}
    {m5_Outside : Option Value}
    {f_Outside___init__ : Addr}
    {oc_Outside___init__ : Value}
    {kV_Outside___init__ : Value}
    {dc_Outside___init__ : Value}
    {pm_Outside___init__ : Value}
    {cd_Outside___init__ : Value}
    {ct_Outside___init__ : Value}
    {od_Outside___init__ : Option Addr}
    {an_Outside___init__ : Option Addr}
    {sl_Outside___init__ : Array (Option Value)}
    {c_Stay : Addr}
    {f_Stay___init__ : Addr}
    {oc_Stay___init__ : Value}
    {kV_Stay___init__ : Value}
    {dc_Stay___init__ : Value}
    {pm_Stay___init__ : Value}
    {cd_Stay___init__ : Value}
    {ct_Stay___init__ : Value}
    {od_Stay___init__ : Option Addr}
    {an_Stay___init__ : Option Addr}
    {sl_Stay___init__ : Array (Option Value)}
    {f_Stay___str__ : Addr}
    {oc_Stay___str__ : Value}
    {kV_Stay___str__ : Value}
    {dc_Stay___str__ : Value}
    {pm_Stay___str__ : Value}
    {cd_Stay___str__ : Value}
    {ct_Stay___str__ : Value}
    {od_Stay___str__ : Option Addr}
    {an_Stay___str__ : Option Addr}
    {sl_Stay___str__ : Array (Option Value)}
    {c_Stretch : Addr}
    {f_Stretch___init__ : Addr}
    {oc_Stretch___init__ : Value}
    {kV_Stretch___init__ : Value}
    {dc_Stretch___init__ : Value}
    {pm_Stretch___init__ : Value}
    {cd_Stretch___init__ : Value}
    {ct_Stretch___init__ : Value}
    {od_Stretch___init__ : Option Addr}
    {an_Stretch___init__ : Option Addr}
    {sl_Stretch___init__ : Array (Option Value)}
    {f_Stretch_has_stay : Addr}
    {oc_Stretch_has_stay : Value}
    {kV_Stretch_has_stay : Value}
    {dc_Stretch_has_stay : Value}
    {pm_Stretch_has_stay : Value}
    {cd_Stretch_has_stay : Value}
    {ct_Stretch_has_stay : Value}
    {od_Stretch_has_stay : Option Addr}
    {an_Stretch_has_stay : Option Addr}
    {sl_Stretch_has_stay : Array (Option Value)}
    {f_Stretch___sub__ : Addr}
    {oc_Stretch___sub__ : Value}
    {kV_Stretch___sub__ : Value}
    {dc_Stretch___sub__ : Value}
    {pm_Stretch___sub__ : Value}
    {cd_Stretch___sub__ : Value}
    {ct_Stretch___sub__ : Value}
    {od_Stretch___sub__ : Option Addr}
    {an_Stretch___sub__ : Option Addr}
    {sl_Stretch___sub__ : Array (Option Value)}
    {f_Stretch___eq__ : Addr}
    {oc_Stretch___eq__ : Value}
    {kV_Stretch___eq__ : Value}
    {dc_Stretch___eq__ : Value}
    {pm_Stretch___eq__ : Value}
    {cd_Stretch___eq__ : Value}
    {ct_Stretch___eq__ : Value}
    {od_Stretch___eq__ : Option Addr}
    {an_Stretch___eq__ : Option Addr}
    {sl_Stretch___eq__ : Array (Option Value)}
    {f_Stretch___str__ : Addr}
    {oc_Stretch___str__ : Value}
    {kV_Stretch___str__ : Value}
    {dc_Stretch___str__ : Value}
    {pm_Stretch___str__ : Value}
    {cd_Stretch___str__ : Value}
    {ct_Stretch___str__ : Value}
    {od_Stretch___str__ : Option Addr}
    {an_Stretch___str__ : Option Addr}
    {sl_Stretch___str__ : Array (Option Value)}
    {cd_Stay : ClassData}
    {f_Stretch_is_endless : Addr}
    {p_Stretch_is_endless : Addr}
    {rest_Stretch_is_endless : List Value}
    {oc_Stretch_is_endless : Value}
    {kV_Stretch_is_endless : Value}
    {dc_Stretch_is_endless : Value}
    {pm_Stretch_is_endless : Value}
    {cd_Stretch_is_endless : Value}
    {ct_Stretch_is_endless : Value}
    {od_Stretch_is_endless : Option Addr}
    {an_Stretch_is_endless : Option Addr}
    {sl_Stretch_is_endless : Array (Option Value)}
    {f__law_pen : Addr}
    {oc__law_pen : Value}
    {kV__law_pen : Value}
    {dc__law_pen : Value}
    {pm__law_pen : Value}
    {cd__law_pen : Value}
    {ct__law_pen : Value}
    {od__law_pen : Option Addr}
    {an__law_pen : Option Addr}
    {sl__law_pen : Array (Option Value)}
    {f__law_draw : Addr}
    {oc__law_draw : Value}
    {kV__law_draw : Value}
    {dc__law_draw : Value}
    {pm__law_draw : Value}
    {cd__law_draw : Value}
    {ct__law_draw : Value}
    {od__law_draw : Option Addr}
    {an__law_draw : Option Addr}
    {sl__law_draw : Array (Option Value)}
    {f__law_pick : Addr}
    {oc__law_pick : Value}
    {kV__law_pick : Value}
    {dc__law_pick : Value}
    {pm__law_pick : Value}
    {cd__law_pick : Value}
    {ct__law_pick : Value}
    {od__law_pick : Option Addr}
    {an__law_pick : Option Addr}
    {sl__law_pick : Array (Option Value)}
    {f__law_heard : Addr}
    {oc__law_heard : Value}
    {kV__law_heard : Value}
    {dc__law_heard : Value}
    {pm__law_heard : Value}
    {cd__law_heard : Value}
    {ct__law_heard : Value}
    {od__law_heard : Option Addr}
    {an__law_heard : Option Addr}
    {sl__law_heard : Array (Option Value)}
    {f__law_day : Addr}
    {oc__law_day : Value}
    {kV__law_day : Value}
    {dc__law_day : Value}
    {pm__law_day : Value}
    {cd__law_day : Value}
    {ct__law_day : Value}
    {od__law_day : Option Addr}
    {an__law_day : Option Addr}
    {sl__law_day : Array (Option Value)}
    {f__law_is : Addr}
    {oc__law_is : Value}
    {kV__law_is : Value}
    {dc__law_is : Value}
    {pm__law_is : Value}
    {cd__law_is : Value}
    {ct__law_is : Value}
    {od__law_is : Option Addr}
    {an__law_is : Option Addr}
    {sl__law_is : Array (Option Value)}
    {f__law_unlike_right : Addr}
    {oc__law_unlike_right : Value}
    {kV__law_unlike_right : Value}
    {dc__law_unlike_right : Value}
    {pm__law_unlike_right : Value}
    {cd__law_unlike_right : Value}
    {ct__law_unlike_right : Value}
    {od__law_unlike_right : Option Addr}
    {an__law_unlike_right : Option Addr}
    {sl__law_unlike_right : Array (Option Value)}
    {f__law_parts_right : Addr}
    {oc__law_parts_right : Value}
    {kV__law_parts_right : Value}
    {dc__law_parts_right : Value}
    {pm__law_parts_right : Value}
    {ct__law_parts_right : Value}
    {od__law_parts_right : Option Addr}
    {an__law_parts_right : Option Addr}
    {sl__law_parts_right : Array (Option Value)}
    {f__law_refused_right : Addr}
    {oc__law_refused_right : Value}
    {kV__law_refused_right : Value}
    {dc__law_refused_right : Value}
    {pm__law_refused_right : Value}
    {ct__law_refused_right : Value}
    {od__law_refused_right : Option Addr}
    {an__law_refused_right : Option Addr}
    {sl__law_refused_right : Array (Option Value)}
    {f_law : Addr}
    {oc_law : Value}
    {kV_law : Value}
    {dc_law : Value}
    {pm_law : Value}
    {cd_law : Value}
    {ct_law : Value}
    {od_law : Option Addr}
    {an_law : Option Addr}
    {sl_law : Array (Option Value)}
    {t_LAST_DAY : Tok}
    {t_MOST_NIGHTS : Tok}
    {t_Stay_MOST : Tok}
    {cc__law_parts_right : Addr}
    {tp__law_parts_right : Addr}
    {cob__law_parts_right : Obj}
    {cc__law_refused_right : Addr}
    {tp__law_refused_right : Addr}
    {cob__law_refused_right : Obj}
    (a_is_whole : PySem.W.nsIn K mainGlobals "is_whole" = some (some (.ref f_is_whole)))
    (l_is_whole : K.lookup f_is_whole = some ⟨oc_is_whole, od_is_whole, .func (PySem.W.fnOf "is_whole" "is_whole" (defArgs s_is_whole) (defBody s_is_whole) (defScope s_is_whole) .none kV_is_whole dc_is_whole pm_is_whole an_is_whole cd_is_whole ct_is_whole), sl_is_whole⟩)
    (c_is_whole_ : PySem.W.codeIn K cd_is_whole "is_whole" = true)
    (k_is_whole : PySem.W.keepIn K (.ref f_is_whole) = true)
    (a_is_from : PySem.W.nsIn K mainGlobals "is_from" = some (some (.ref f_is_from)))
    (l_is_from : K.lookup f_is_from = some ⟨oc_is_from, od_is_from, .func (PySem.W.fnOf "is_from" "is_from" (defArgs s_is_from) (defBody s_is_from) (defScope s_is_from) .none kV_is_from dc_is_from pm_is_from an_is_from cd_is_from ct_is_from), sl_is_from⟩)
    (c_is_from_ : PySem.W.codeIn K cd_is_from "is_from" = true)
    (k_is_from : PySem.W.keepIn K (.ref f_is_from) = true)
    (a_is_day : PySem.W.nsIn K mainGlobals "is_day" = some (some (.ref f_is_day)))
    (l_is_day : K.lookup f_is_day = some ⟨oc_is_day, od_is_day, .func (PySem.W.fnOf "is_day" "is_day" (defArgs s_is_day) (defBody s_is_day) (defScope s_is_day) .none kV_is_day dc_is_day pm_is_day an_is_day cd_is_day ct_is_day), sl_is_day⟩)
    (c_is_day_ : PySem.W.codeIn K cd_is_day "is_day" = true)
    (k_is_day : PySem.W.keepIn K (.ref f_is_day) = true)
    (a_StayError : PySem.W.nsIn K mainGlobals "StayError" = some (some (.ref c_StayError)))
    (a_BadStay : PySem.W.nsIn K mainGlobals "BadStay" = some (some (.ref c_BadStay)))
    (h_BadStay_l : K.lookup c_BadStay = some (excClassObj nm_BadStay q_BadStay c_BadStay N_BadStay bs_BadStay bm_BadStay true sn_BadStay sub_BadStay ab_BadStay col_BadStay dd_BadStay m0_BadStay m1_BadStay m2_BadStay m3_BadStay m5_BadStay "ValueError.__new__"))
    (h_BadStay_bm : PySem.HandSPX.refsVE bm_BadStay = true)
    (h_BadStay_sa : PySem.W.findIn K (.ref c_BadStay) "__setattr__" = some (some (.builtin "object.__setattr__")))
    (h_BadStay_ex : PySem.W.subIn K (.ref c_BadStay) (.type "BaseException") = some true)
    (h_BadStay_ty : PySem.W.typeIn K (.ref c_BadStay) = some (.type "type"))
    (h_BadStay_kp : PySem.W.keepIn K (.ref c_BadStay) = true)
    (h_BadStay_ga : PySem.W.findIn K (.ref c_BadStay) "__getattribute__" = some (some (.builtin "BaseException.__getattribute__")))
    (h_BadStay_gg : PySem.W.findIn K (.ref c_BadStay) "__getattr__" = some none)
    (h_BadStay_hd : PySem.W.hasDictIn K c_BadStay = true)
    (h_BadStay_cls : PySem.W.findIn K (.ref c_BadStay) "__class__" = some (some (.builtin "object.__class__")))
    (h_BadStay_mro : PySem.W.mroIn K c_BadStay (.type "object") = some true)
    (h_cget : PySem.W.specialIn K (.builtin "object.__class__") "__get__" = some (some (.builtin "getset_descriptor.__get__")))
    (h_ctak : PySem.W.takesIn K (.builtin "object.__class__") = some true)
    (h_nx_BadStay_part : PySem.W.findIn K (.ref c_BadStay) "part" = some none)
    (a_BadStay___init__ : PySem.W.findIn K (.ref c_BadStay) "__init__" = some (some (.ref f_BadStay___init__)))
    (i_BadStay___init__ : PySem.W.isFn K (.ref f_BadStay___init__) = true)
    (l_BadStay___init__ : K.lookup f_BadStay___init__ = some ⟨oc_BadStay___init__, od_BadStay___init__, .func (PySem.W.fnOf "__init__" "BadStay.__init__" (defArgs s_BadStay___init__) (defBody s_BadStay___init__) (defScope s_BadStay___init__) .none kV_BadStay___init__ dc_BadStay___init__ pm_BadStay___init__ an_BadStay___init__ cd_BadStay___init__ ct_BadStay___init__), sl_BadStay___init__⟩)
    (c_BadStay___init___ : PySem.W.codeIn K cd_BadStay___init__ "BadStay.__init__" = true)
    (k_BadStay___init__ : PySem.W.keepIn K (.ref f_BadStay___init__) = true)
    (t_BadStay___init__ : PySem.W.typeIn K (.ref f_BadStay___init__) = some (.type "function"))
    (a_BadStretch : PySem.W.nsIn K mainGlobals "BadStretch" = some (some (.ref c_BadStretch)))
    (h_BadStretch_l : K.lookup c_BadStretch = some (excClassObj nm_BadStretch q_BadStretch c_BadStretch N_BadStretch bs_BadStretch bm_BadStretch true sn_BadStretch sub_BadStretch ab_BadStretch col_BadStretch dd_BadStretch m0_BadStretch m1_BadStretch m2_BadStretch m3_BadStretch m5_BadStretch "ValueError.__new__"))
    (h_BadStretch_bm : PySem.HandSPX.refsVE bm_BadStretch = true)
    (h_BadStretch_sa : PySem.W.findIn K (.ref c_BadStretch) "__setattr__" = some (some (.builtin "object.__setattr__")))
    (h_BadStretch_ex : PySem.W.subIn K (.ref c_BadStretch) (.type "BaseException") = some true)
    (h_BadStretch_ty : PySem.W.typeIn K (.ref c_BadStretch) = some (.type "type"))
    (h_BadStretch_kp : PySem.W.keepIn K (.ref c_BadStretch) = true)
    (h_BadStretch_ga : PySem.W.findIn K (.ref c_BadStretch) "__getattribute__" = some (some (.builtin "BaseException.__getattribute__")))
    (h_BadStretch_gg : PySem.W.findIn K (.ref c_BadStretch) "__getattr__" = some none)
    (h_BadStretch_hd : PySem.W.hasDictIn K c_BadStretch = true)
    (h_BadStretch_cls : PySem.W.findIn K (.ref c_BadStretch) "__class__" = some (some (.builtin "object.__class__")))
    (h_BadStretch_mro : PySem.W.mroIn K c_BadStretch (.type "object") = some true)
    (h_nx_BadStretch_part : PySem.W.findIn K (.ref c_BadStretch) "part" = some none)
    (a_BadStretch___init__ : PySem.W.findIn K (.ref c_BadStretch) "__init__" = some (some (.ref f_BadStretch___init__)))
    (i_BadStretch___init__ : PySem.W.isFn K (.ref f_BadStretch___init__) = true)
    (l_BadStretch___init__ : K.lookup f_BadStretch___init__ = some ⟨oc_BadStretch___init__, od_BadStretch___init__, .func (PySem.W.fnOf "__init__" "BadStretch.__init__" (defArgs s_BadStretch___init__) (defBody s_BadStretch___init__) (defScope s_BadStretch___init__) .none kV_BadStretch___init__ dc_BadStretch___init__ pm_BadStretch___init__ an_BadStretch___init__ cd_BadStretch___init__ ct_BadStretch___init__), sl_BadStretch___init__⟩)
    (c_BadStretch___init___ : PySem.W.codeIn K cd_BadStretch___init__ "BadStretch.__init__" = true)
    (k_BadStretch___init__ : PySem.W.keepIn K (.ref f_BadStretch___init__) = true)
    (t_BadStretch___init__ : PySem.W.typeIn K (.ref f_BadStretch___init__) = some (.type "function"))
    (a_Outside : PySem.W.nsIn K mainGlobals "Outside" = some (some (.ref c_Outside)))
    (h_Outside_l : K.lookup c_Outside = some (excClassObj nm_Outside q_Outside c_Outside N_Outside bs_Outside bm_Outside true sn_Outside sub_Outside ab_Outside col_Outside dd_Outside m0_Outside m1_Outside m2_Outside m3_Outside m5_Outside "ValueError.__new__"))
    (h_Outside_bm : PySem.HandSPX.refsVE bm_Outside = true)
    (h_Outside_sa : PySem.W.findIn K (.ref c_Outside) "__setattr__" = some (some (.builtin "object.__setattr__")))
    (h_Outside_ex : PySem.W.subIn K (.ref c_Outside) (.type "BaseException") = some true)
    (h_Outside_ty : PySem.W.typeIn K (.ref c_Outside) = some (.type "type"))
    (h_Outside_kp : PySem.W.keepIn K (.ref c_Outside) = true)
    (h_Outside_ga : PySem.W.findIn K (.ref c_Outside) "__getattribute__" = some (some (.builtin "BaseException.__getattribute__")))
    (h_Outside_gg : PySem.W.findIn K (.ref c_Outside) "__getattr__" = some none)
    (h_Outside_hd : PySem.W.hasDictIn K c_Outside = true)
    (h_Outside_cls : PySem.W.findIn K (.ref c_Outside) "__class__" = some (some (.builtin "object.__class__")))
    (h_Outside_mro : PySem.W.mroIn K c_Outside (.type "object") = some true)
    (h_nx_Outside_stay : PySem.W.findIn K (.ref c_Outside) "stay" = some none)
    (a_Outside___init__ : PySem.W.findIn K (.ref c_Outside) "__init__" = some (some (.ref f_Outside___init__)))
    (i_Outside___init__ : PySem.W.isFn K (.ref f_Outside___init__) = true)
    (l_Outside___init__ : K.lookup f_Outside___init__ = some ⟨oc_Outside___init__, od_Outside___init__, .func (PySem.W.fnOf "__init__" "Outside.__init__" (defArgs s_Outside___init__) (defBody s_Outside___init__) (defScope s_Outside___init__) .none kV_Outside___init__ dc_Outside___init__ pm_Outside___init__ an_Outside___init__ cd_Outside___init__ ct_Outside___init__), sl_Outside___init__⟩)
    (c_Outside___init___ : PySem.W.codeIn K cd_Outside___init__ "Outside.__init__" = true)
    (k_Outside___init__ : PySem.W.keepIn K (.ref f_Outside___init__) = true)
    (t_Outside___init__ : PySem.W.typeIn K (.ref f_Outside___init__) = some (.type "function"))
    (a_Stay : PySem.W.nsIn K mainGlobals "Stay" = some (some (.ref c_Stay)))
    (h_Stay_pg : PySem.W.plainGet K c_Stay Str.empty = true)
    (h_Stay_hd : PySem.W.hasDictIn K c_Stay = true)
    (h_Stay_po : PySem.W.plainOver K c_Stay = true)
    (h_Stay_sa : PySem.W.findIn K (.ref c_Stay) "__setattr__" = some (some (.builtin "object.__setattr__")))
    (h_Stay_cls : PySem.W.findIn K (.ref c_Stay) "__class__" = some (some (.builtin "object.__class__")))
    (h_Stay_get : PySem.W.specialIn K (.builtin "object.__class__") "__get__" = some (some (.builtin "getset_descriptor.__get__")))
    (h_Stay_tak : PySem.W.takesIn K (.builtin "object.__class__") = some true)
    (h_Stay_mro : PySem.W.mroIn K c_Stay (.type "object") = some true)
    (h_na_Stay_first : PySem.W.findIn K (.ref c_Stay) "first" = some none)
    (h_na_Stay_after : PySem.W.findIn K (.ref c_Stay) "after" = some none)
    (h_na_Stay__nights : PySem.W.findIn K (.ref c_Stay) "_nights" = some none)
    (h_Stay_mk : PySem.W.makesIn K c_Stay = true)
    (h_Stay_kp : PySem.W.keepIn K (.ref c_Stay) = true)
    (a_Stay___init__ : PySem.W.findIn K (.ref c_Stay) "__init__" = some (some (.ref f_Stay___init__)))
    (i_Stay___init__ : PySem.W.isFn K (.ref f_Stay___init__) = true)
    (l_Stay___init__ : K.lookup f_Stay___init__ = some ⟨oc_Stay___init__, od_Stay___init__, .func (PySem.W.fnOf "__init__" "Stay.__init__" (defArgs s_Stay___init__) (defBody s_Stay___init__) (defScope s_Stay___init__) .none kV_Stay___init__ dc_Stay___init__ pm_Stay___init__ an_Stay___init__ cd_Stay___init__ ct_Stay___init__), sl_Stay___init__⟩)
    (c_Stay___init___ : PySem.W.codeIn K cd_Stay___init__ "Stay.__init__" = true)
    (k_Stay___init__ : PySem.W.keepIn K (.ref f_Stay___init__) = true)
    (a_Stay___str__ : PySem.W.findIn K (.ref c_Stay) "__str__" = some (some (.ref f_Stay___str__)))
    (i_Stay___str__ : PySem.W.isFn K (.ref f_Stay___str__) = true)
    (l_Stay___str__ : K.lookup f_Stay___str__ = some ⟨oc_Stay___str__, od_Stay___str__, .func (PySem.W.fnOf "__str__" "Stay.__str__" (defArgs s_Stay___str__) (defBody s_Stay___str__) (defScope s_Stay___str__) .none kV_Stay___str__ dc_Stay___str__ pm_Stay___str__ an_Stay___str__ cd_Stay___str__ ct_Stay___str__), sl_Stay___str__⟩)
    (c_Stay___str___ : PySem.W.codeIn K cd_Stay___str__ "Stay.__str__" = true)
    (k_Stay___str__ : PySem.W.keepIn K (.ref f_Stay___str__) = true)
    (a_Stretch : PySem.W.nsIn K mainGlobals "Stretch" = some (some (.ref c_Stretch)))
    (h_Stretch_pg : PySem.W.plainGet K c_Stretch Str.empty = true)
    (h_Stretch_hd : PySem.W.hasDictIn K c_Stretch = true)
    (h_Stretch_po : PySem.W.plainOver K c_Stretch = true)
    (h_Stretch_sa : PySem.W.findIn K (.ref c_Stretch) "__setattr__" = some (some (.builtin "object.__setattr__")))
    (h_Stretch_cls : PySem.W.findIn K (.ref c_Stretch) "__class__" = some (some (.builtin "object.__class__")))
    (h_Stretch_get : PySem.W.specialIn K (.builtin "object.__class__") "__get__" = some (some (.builtin "getset_descriptor.__get__")))
    (h_Stretch_tak : PySem.W.takesIn K (.builtin "object.__class__") = some true)
    (h_Stretch_mro : PySem.W.mroIn K c_Stretch (.type "object") = some true)
    (h_na_Stretch_day : PySem.W.findIn K (.ref c_Stretch) "day" = some none)
    (h_na_Stretch_nights : PySem.W.findIn K (.ref c_Stretch) "nights" = some none)
    (h_Stretch_mk : PySem.W.makesIn K c_Stretch = true)
    (h_Stretch_kp : PySem.W.keepIn K (.ref c_Stretch) = true)
    (a_Stretch___init__ : PySem.W.findIn K (.ref c_Stretch) "__init__" = some (some (.ref f_Stretch___init__)))
    (i_Stretch___init__ : PySem.W.isFn K (.ref f_Stretch___init__) = true)
    (l_Stretch___init__ : K.lookup f_Stretch___init__ = some ⟨oc_Stretch___init__, od_Stretch___init__, .func (PySem.W.fnOf "__init__" "Stretch.__init__" (defArgs s_Stretch___init__) (defBody s_Stretch___init__) (defScope s_Stretch___init__) .none kV_Stretch___init__ dc_Stretch___init__ pm_Stretch___init__ an_Stretch___init__ cd_Stretch___init__ ct_Stretch___init__), sl_Stretch___init__⟩)
    (c_Stretch___init___ : PySem.W.codeIn K cd_Stretch___init__ "Stretch.__init__" = true)
    (k_Stretch___init__ : PySem.W.keepIn K (.ref f_Stretch___init__) = true)
    (a_Stretch_has_stay : PySem.W.findIn K (.ref c_Stretch) "has_stay" = some (some (.ref f_Stretch_has_stay)))
    (i_Stretch_has_stay : PySem.W.isFn K (.ref f_Stretch_has_stay) = true)
    (l_Stretch_has_stay : K.lookup f_Stretch_has_stay = some ⟨oc_Stretch_has_stay, od_Stretch_has_stay, .func (PySem.W.fnOf "has_stay" "Stretch.has_stay" (defArgs s_Stretch_has_stay) (defBody s_Stretch_has_stay) (defScope s_Stretch_has_stay) .none kV_Stretch_has_stay dc_Stretch_has_stay pm_Stretch_has_stay an_Stretch_has_stay cd_Stretch_has_stay ct_Stretch_has_stay), sl_Stretch_has_stay⟩)
    (c_Stretch_has_stay_ : PySem.W.codeIn K cd_Stretch_has_stay "Stretch.has_stay" = true)
    (k_Stretch_has_stay : PySem.W.keepIn K (.ref f_Stretch_has_stay) = true)
    (a_Stretch___sub__ : PySem.W.findIn K (.ref c_Stretch) "__sub__" = some (some (.ref f_Stretch___sub__)))
    (i_Stretch___sub__ : PySem.W.isFn K (.ref f_Stretch___sub__) = true)
    (l_Stretch___sub__ : K.lookup f_Stretch___sub__ = some ⟨oc_Stretch___sub__, od_Stretch___sub__, .func (PySem.W.fnOf "__sub__" "Stretch.__sub__" (defArgs s_Stretch___sub__) (defBody s_Stretch___sub__) (defScope s_Stretch___sub__) .none kV_Stretch___sub__ dc_Stretch___sub__ pm_Stretch___sub__ an_Stretch___sub__ cd_Stretch___sub__ ct_Stretch___sub__), sl_Stretch___sub__⟩)
    (c_Stretch___sub___ : PySem.W.codeIn K cd_Stretch___sub__ "Stretch.__sub__" = true)
    (k_Stretch___sub__ : PySem.W.keepIn K (.ref f_Stretch___sub__) = true)
    (a_Stretch___eq__ : PySem.W.findIn K (.ref c_Stretch) "__eq__" = some (some (.ref f_Stretch___eq__)))
    (i_Stretch___eq__ : PySem.W.isFn K (.ref f_Stretch___eq__) = true)
    (l_Stretch___eq__ : K.lookup f_Stretch___eq__ = some ⟨oc_Stretch___eq__, od_Stretch___eq__, .func (PySem.W.fnOf "__eq__" "Stretch.__eq__" (defArgs s_Stretch___eq__) (defBody s_Stretch___eq__) (defScope s_Stretch___eq__) .none kV_Stretch___eq__ dc_Stretch___eq__ pm_Stretch___eq__ an_Stretch___eq__ cd_Stretch___eq__ ct_Stretch___eq__), sl_Stretch___eq__⟩)
    (c_Stretch___eq___ : PySem.W.codeIn K cd_Stretch___eq__ "Stretch.__eq__" = true)
    (k_Stretch___eq__ : PySem.W.keepIn K (.ref f_Stretch___eq__) = true)
    (a_Stretch___str__ : PySem.W.findIn K (.ref c_Stretch) "__str__" = some (some (.ref f_Stretch___str__)))
    (i_Stretch___str__ : PySem.W.isFn K (.ref f_Stretch___str__) = true)
    (l_Stretch___str__ : K.lookup f_Stretch___str__ = some ⟨oc_Stretch___str__, od_Stretch___str__, .func (PySem.W.fnOf "__str__" "Stretch.__str__" (defArgs s_Stretch___str__) (defBody s_Stretch___str__) (defScope s_Stretch___str__) .none kV_Stretch___str__ dc_Stretch___str__ pm_Stretch___str__ an_Stretch___str__ cd_Stretch___str__ ct_Stretch___str__), sl_Stretch___str__⟩)
    (c_Stretch___str___ : PySem.W.codeIn K cd_Stretch___str__ "Stretch.__str__" = true)
    (k_Stretch___str__ : PySem.W.keepIn K (.ref f_Stretch___str__) = true)
    (h_Stretch_ne : PySem.W.findIn K (.ref c_Stretch) "__ne__" = some (some (.builtin "object.__ne__")))
    (h_Stretch_sf : PySem.W.selfFirst K c_Stretch = true)
    (h_Stretch_rsub : PySem.W.findIn K (.ref c_Stretch) "__rsub__" = some none)
    (hN_Stay_sub : PySem.W.findIn K (.ref c_Stay) "__sub__" = some none)
    (hN_Stay_rsub : PySem.W.findIn K (.ref c_Stay) "__rsub__" = some none)
    (h_Stay_cd : PySem.W.clsIn K c_Stay = some cd_Stay)
    (h_Stay_cm : cd_Stay.mro = [.ref c_Stay, .type "object"])
    (pa_Stretch_is_endless : PySem.W.findIn K (.ref c_Stretch) "is_endless" = some (some (.ref p_Stretch_is_endless)))
    (pg_Stretch_is_endless : PySem.W.specialIn K (.ref p_Stretch_is_endless) "__get__" = some (some (.builtin "property.__get__")))
    (pt_Stretch_is_endless : PySem.W.takesIn K (.ref p_Stretch_is_endless) = some true)
    (pr_Stretch_is_endless : PySem.W.recIn K p_Stretch_is_endless "property" = some (.ref f_Stretch_is_endless :: rest_Stretch_is_endless))
    (l_Stretch_is_endless : K.lookup f_Stretch_is_endless = some ⟨oc_Stretch_is_endless, od_Stretch_is_endless, .func (PySem.W.fnOf "is_endless" "Stretch.is_endless" (defArgs s_Stretch_is_endless) (defBody s_Stretch_is_endless) (defScope s_Stretch_is_endless) .none kV_Stretch_is_endless dc_Stretch_is_endless pm_Stretch_is_endless an_Stretch_is_endless cd_Stretch_is_endless ct_Stretch_is_endless), sl_Stretch_is_endless⟩)
    (c_Stretch_is_endless_ : PySem.W.codeIn K cd_Stretch_is_endless "Stretch.is_endless" = true)
    (k_Stretch_is_endless : PySem.W.keepIn K (.ref f_Stretch_is_endless) = true)
    (h_exm_Outside : PySem.W.exmOne K (.ref c_Outside) (.ref c_StayError) = some true)
    (h_kit_Outside_Outside : PySem.W.kitOne K (.ref c_Outside) (.ref c_Outside) = some true)
    (h_kit_Outside_BadStretch : PySem.W.kitOne K (.ref c_Outside) (.ref c_BadStretch) = some false)
    (h_exm_BadStretch : PySem.W.exmOne K (.ref c_BadStretch) (.ref c_StayError) = some true)
    (h_kit_BadStretch_Outside : PySem.W.kitOne K (.ref c_BadStretch) (.ref c_Outside) = some false)
    (h_kit_BadStretch_BadStretch : PySem.W.kitOne K (.ref c_BadStretch) (.ref c_BadStretch) = some true)
    (h_kit_Stretch : PySem.W.kitOne K (.ref c_Stretch) (.ref c_Stretch) = some true)
    (h_sb_Stretch_NoneType : PySem.W.subIn K (.ref c_Stretch) (.type "NoneType") = some false)
    (h_kit_NoneType_Stretch : PySem.W.kitOne K (.type "NoneType") (.ref c_Stretch) = some false)
    (h_sb_Stretch_int : PySem.W.subIn K (.ref c_Stretch) (.type "int") = some false)
    (h_kit_int_Stretch : PySem.W.kitOne K (.type "int") (.ref c_Stretch) = some false)
    (h_sb_Stretch_str : PySem.W.subIn K (.ref c_Stretch) (.type "str") = some false)
    (h_kit_str_Stretch : PySem.W.kitOne K (.type "str") (.ref c_Stretch) = some false)
    (h_sb_Stretch_tuple : PySem.W.subIn K (.ref c_Stretch) (.type "tuple") = some false)
    (h_kit_tuple_Stretch : PySem.W.kitOne K (.type "tuple") (.ref c_Stretch) = some false)
    (a__law_pen : PySem.W.nsIn K mainGlobals "_law_pen" = some (some (.ref f__law_pen)))
    (l__law_pen : K.lookup f__law_pen = some ⟨oc__law_pen, od__law_pen, .func (PySem.W.fnOf "_law_pen" "_law_pen" (defArgs s__law_pen) (defBody s__law_pen) (defScope s__law_pen) .none kV__law_pen dc__law_pen pm__law_pen an__law_pen cd__law_pen ct__law_pen), sl__law_pen⟩)
    (c__law_pen_ : PySem.W.codeIn K cd__law_pen "_law_pen" = true)
    (k__law_pen : PySem.W.keepIn K (.ref f__law_pen) = true)
    (a__law_draw : PySem.W.nsIn K mainGlobals "_law_draw" = some (some (.ref f__law_draw)))
    (l__law_draw : K.lookup f__law_draw = some ⟨oc__law_draw, od__law_draw, .func (PySem.W.fnOf "_law_draw" "_law_draw" (defArgs s__law_draw) (defBody s__law_draw) (defScope s__law_draw) .none kV__law_draw dc__law_draw pm__law_draw an__law_draw cd__law_draw ct__law_draw), sl__law_draw⟩)
    (c__law_draw_ : PySem.W.codeIn K cd__law_draw "_law_draw" = true)
    (k__law_draw : PySem.W.keepIn K (.ref f__law_draw) = true)
    (a__law_pick : PySem.W.nsIn K mainGlobals "_law_pick" = some (some (.ref f__law_pick)))
    (l__law_pick : K.lookup f__law_pick = some ⟨oc__law_pick, od__law_pick, .func (PySem.W.fnOf "_law_pick" "_law_pick" (defArgs s__law_pick) (defBody s__law_pick) (defScope s__law_pick) .none kV__law_pick dc__law_pick pm__law_pick an__law_pick cd__law_pick ct__law_pick), sl__law_pick⟩)
    (c__law_pick_ : PySem.W.codeIn K cd__law_pick "_law_pick" = true)
    (k__law_pick : PySem.W.keepIn K (.ref f__law_pick) = true)
    (a__law_heard : PySem.W.nsIn K mainGlobals "_law_heard" = some (some (.ref f__law_heard)))
    (l__law_heard : K.lookup f__law_heard = some ⟨oc__law_heard, od__law_heard, .func (PySem.W.fnOf "_law_heard" "_law_heard" (defArgs s__law_heard) (defBody s__law_heard) (defScope s__law_heard) .none kV__law_heard dc__law_heard pm__law_heard an__law_heard cd__law_heard ct__law_heard), sl__law_heard⟩)
    (c__law_heard_ : PySem.W.codeIn K cd__law_heard "_law_heard" = true)
    (k__law_heard : PySem.W.keepIn K (.ref f__law_heard) = true)
    (a__law_day : PySem.W.nsIn K mainGlobals "_law_day" = some (some (.ref f__law_day)))
    (l__law_day : K.lookup f__law_day = some ⟨oc__law_day, od__law_day, .func (PySem.W.fnOf "_law_day" "_law_day" (defArgs s__law_day) (defBody s__law_day) (defScope s__law_day) .none kV__law_day dc__law_day pm__law_day an__law_day cd__law_day ct__law_day), sl__law_day⟩)
    (c__law_day_ : PySem.W.codeIn K cd__law_day "_law_day" = true)
    (k__law_day : PySem.W.keepIn K (.ref f__law_day) = true)
    (a__law_is : PySem.W.nsIn K mainGlobals "_law_is" = some (some (.ref f__law_is)))
    (l__law_is : K.lookup f__law_is = some ⟨oc__law_is, od__law_is, .func (PySem.W.fnOf "_law_is" "_law_is" (defArgs s__law_is) (defBody s__law_is) (defScope s__law_is) .none kV__law_is dc__law_is pm__law_is an__law_is cd__law_is ct__law_is), sl__law_is⟩)
    (c__law_is_ : PySem.W.codeIn K cd__law_is "_law_is" = true)
    (k__law_is : PySem.W.keepIn K (.ref f__law_is) = true)
    (a__law_unlike_right : PySem.W.nsIn K mainGlobals "_law_unlike_right" = some (some (.ref f__law_unlike_right)))
    (l__law_unlike_right : K.lookup f__law_unlike_right = some ⟨oc__law_unlike_right, od__law_unlike_right, .func (PySem.W.fnOf "_law_unlike_right" "_law_unlike_right" (defArgs s__law_unlike_right) (defBody s__law_unlike_right) (defScope s__law_unlike_right) .none kV__law_unlike_right dc__law_unlike_right pm__law_unlike_right an__law_unlike_right cd__law_unlike_right ct__law_unlike_right), sl__law_unlike_right⟩)
    (c__law_unlike_right_ : PySem.W.codeIn K cd__law_unlike_right "_law_unlike_right" = true)
    (k__law_unlike_right : PySem.W.keepIn K (.ref f__law_unlike_right) = true)
    (a__law_parts_right : PySem.W.nsIn K mainGlobals "_law_parts_right" = some (some (.ref f__law_parts_right)))
    (l__law_parts_right : K.lookup f__law_parts_right = some ⟨oc__law_parts_right, od__law_parts_right, .func (PySem.W.fnOf "_law_parts_right" "_law_parts_right" (defArgs s__law_parts_right) (defBody s__law_parts_right) (defScope s__law_parts_right) .none kV__law_parts_right dc__law_parts_right pm__law_parts_right an__law_parts_right (.ref cc__law_parts_right) ct__law_parts_right), sl__law_parts_right⟩)
    (c__law_parts_right_ : PySem.W.codeIn K (.ref cc__law_parts_right) "_law_parts_right" = true)
    (k__law_parts_right : PySem.W.keepIn K (.ref f__law_parts_right) = true)
    (a__law_refused_right : PySem.W.nsIn K mainGlobals "_law_refused_right" = some (some (.ref f__law_refused_right)))
    (l__law_refused_right : K.lookup f__law_refused_right = some ⟨oc__law_refused_right, od__law_refused_right, .func (PySem.W.fnOf "_law_refused_right" "_law_refused_right" (defArgs s__law_refused_right) (defBody s__law_refused_right) (defScope s__law_refused_right) .none kV__law_refused_right dc__law_refused_right pm__law_refused_right an__law_refused_right (.ref cc__law_refused_right) ct__law_refused_right), sl__law_refused_right⟩)
    (c__law_refused_right_ : PySem.W.codeIn K (.ref cc__law_refused_right) "_law_refused_right" = true)
    (k__law_refused_right : PySem.W.keepIn K (.ref f__law_refused_right) = true)
    (a_law : PySem.W.nsIn K mainGlobals "law" = some (some (.ref f_law)))
    (l_law : K.lookup f_law = some ⟨oc_law, od_law, .func (PySem.W.fnOf "law" "law" (defArgs s_law) (defBody s_law) (defScope s_law) .none kV_law dc_law pm_law an_law cd_law ct_law), sl_law⟩)
    (c_law_ : PySem.W.codeIn K cd_law "law" = true)
    (k_law : PySem.W.keepIn K (.ref f_law) = true)
    (z_isinstance : PySem.W.nsIn K mainGlobals "isinstance" = some none)
    (z_int : PySem.W.nsIn K mainGlobals "int" = some none)
    (z_bool : PySem.W.nsIn K mainGlobals "bool" = some none)
    (z_len : PySem.W.nsIn K mainGlobals "len" = some none)
    (z_tuple : PySem.W.nsIn K mainGlobals "tuple" = some none)
    (z_range : PySem.W.nsIn K mainGlobals "range" = some none)
    (z_list : PySem.W.nsIn K mainGlobals "list" = some none)
    (z_abs : PySem.W.nsIn K mainGlobals "abs" = some none)
    (z_str : PySem.W.nsIn K mainGlobals "str" = some none)
    (z_repr : PySem.W.nsIn K mainGlobals "repr" = some none)
    (z_min : PySem.W.nsIn K mainGlobals "min" = some none)
    (z_max : PySem.W.nsIn K mainGlobals "max" = some none)
    (a_LAST_DAY : PySem.W.nsIn K mainGlobals "LAST_DAY" = some (some (.int 999999999999 t_LAST_DAY)))
    (a_MOST_NIGHTS : PySem.W.nsIn K mainGlobals "MOST_NIGHTS" = some (some (.int 400 t_MOST_NIGHTS)))
    (h_Stay_rd : PySem.W.readsIn K c_Stay (.type "type") = true)
    (h_Stay_tg : PySem.W.specialIn K (.ref c_Stay) "__getattribute__" = some (some (.builtin "type.__getattribute__")))
    (h_Stay_MOST : PySem.W.findCls K (.ref c_Stay) (.type "type") "MOST" = some (.val (.int 400 t_Stay_MOST)))
    (hc__law_parts_right : K.lookup cc__law_parts_right = some cob__law_parts_right)
    (ht__law_parts_right : codeTab cob__law_parts_right = some tp__law_parts_right)
    (hb__law_parts_right : codeB cob__law_parts_right cc__law_parts_right tp__law_parts_right = true)
    (hg__law_parts_right : h.get? tp__law_parts_right = some { cls := .none, data := .fields #[] })
    (hn__law_parts_right : K.lookup tp__law_parts_right = none)
    (hc__law_refused_right : K.lookup cc__law_refused_right = some cob__law_refused_right)
    (ht__law_refused_right : codeTab cob__law_refused_right = some tp__law_refused_right)
    (hb__law_refused_right : codeB cob__law_refused_right cc__law_refused_right tp__law_refused_right = true)
    (hg__law_refused_right : h.get? tp__law_refused_right = some { cls := .none, data := .fields #[] })
    (hn__law_refused_right : K.lookup tp__law_refused_right = none)
    (h_tpne : tp__law_parts_right ≠ tp__law_refused_right)
    : LawAtG l w K CX0 40 63 "script" mg fa h := by
  have F_is_whole := fun_mk (st := s_is_whole) l_is_whole c_is_whole_ k_is_whole
  have F_is_from := fun_mk (st := s_is_from) l_is_from c_is_from_ k_is_from
  have F_is_day := fun_mk (st := s_is_day) l_is_day c_is_day_ k_is_day
  have F_BadStay___init__ := fun_mk (st := s_BadStay___init__) l_BadStay___init__ c_BadStay___init___ k_BadStay___init__
  have F_BadStretch___init__ := fun_mk (st := s_BadStretch___init__) l_BadStretch___init__ c_BadStretch___init___ k_BadStretch___init__
  have F_Outside___init__ := fun_mk (st := s_Outside___init__) l_Outside___init__ c_Outside___init___ k_Outside___init__
  have F_Stay___init__ := fun_mk (st := s_Stay___init__) l_Stay___init__ c_Stay___init___ k_Stay___init__
  have F_Stay___str__ := fun_mk (st := s_Stay___str__) l_Stay___str__ c_Stay___str___ k_Stay___str__
  have F_Stretch___init__ := fun_mk (st := s_Stretch___init__) l_Stretch___init__ c_Stretch___init___ k_Stretch___init__
  have F_Stretch_has_stay := fun_mk (st := s_Stretch_has_stay) l_Stretch_has_stay c_Stretch_has_stay_ k_Stretch_has_stay
  have F_Stretch___sub__ := fun_mk (st := s_Stretch___sub__) l_Stretch___sub__ c_Stretch___sub___ k_Stretch___sub__
  have F_Stretch___eq__ := fun_mk (st := s_Stretch___eq__) l_Stretch___eq__ c_Stretch___eq___ k_Stretch___eq__
  have F_Stretch___str__ := fun_mk (st := s_Stretch___str__) l_Stretch___str__ c_Stretch___str___ k_Stretch___str__
  have F_Stretch_is_endless := fun_mk (st := s_Stretch_is_endless) l_Stretch_is_endless c_Stretch_is_endless_ k_Stretch_is_endless
  have F__law_pen := fun_mk (st := s__law_pen) l__law_pen c__law_pen_ k__law_pen
  have F__law_draw := fun_mk (st := s__law_draw) l__law_draw c__law_draw_ k__law_draw
  have F__law_pick := fun_mk (st := s__law_pick) l__law_pick c__law_pick_ k__law_pick
  have F__law_heard := fun_mk (st := s__law_heard) l__law_heard c__law_heard_ k__law_heard
  have F__law_day := fun_mk (st := s__law_day) l__law_day c__law_day_ k__law_day
  have F__law_is := fun_mk (st := s__law_is) l__law_is c__law_is_ k__law_is
  have F__law_unlike_right := fun_mk (st := s__law_unlike_right) l__law_unlike_right c__law_unlike_right_ k__law_unlike_right
  have F__law_parts_right := fun_mk (st := s__law_parts_right) l__law_parts_right c__law_parts_right_ k__law_parts_right
  have F__law_refused_right := fun_mk (st := s__law_refused_right) l__law_refused_right c__law_refused_right_ k__law_refused_right
  have F_law := fun_mk (st := s_law) l_law c_law_ k_law
  have e0 := PySem.W.codeHd_of_K X (codeB_in hc__law_parts_right hb__law_parts_right)
  have e1 := PySem.W.codeHd_of_K X (codeB_in hc__law_refused_right hb__law_refused_right)
  have ef : f_law = fa := Value.ref.inj (Option.some.inj ((PySem.W.mg_of X G a_law).symm.trans hfa))
  exact law_at (T := {
    f_is_whole := f_is_whole
    d_is_whole := PySem.W.fnOf "is_whole" "is_whole" (defArgs s_is_whole) (defBody s_is_whole) (defScope s_is_whole) .none kV_is_whole dc_is_whole pm_is_whole an_is_whole cd_is_whole ct_is_whole
    f_is_from := f_is_from
    d_is_from := PySem.W.fnOf "is_from" "is_from" (defArgs s_is_from) (defBody s_is_from) (defScope s_is_from) .none kV_is_from dc_is_from pm_is_from an_is_from cd_is_from ct_is_from
    f_is_day := f_is_day
    d_is_day := PySem.W.fnOf "is_day" "is_day" (defArgs s_is_day) (defBody s_is_day) (defScope s_is_day) .none kV_is_day dc_is_day pm_is_day an_is_day cd_is_day ct_is_day
    c_StayError := c_StayError
    c_BadStay := c_BadStay
    f_BadStay___init__ := f_BadStay___init__
    d_BadStay___init__ := PySem.W.fnOf "__init__" "BadStay.__init__" (defArgs s_BadStay___init__) (defBody s_BadStay___init__) (defScope s_BadStay___init__) .none kV_BadStay___init__ dc_BadStay___init__ pm_BadStay___init__ an_BadStay___init__ cd_BadStay___init__ ct_BadStay___init__
    c_BadStretch := c_BadStretch
    f_BadStretch___init__ := f_BadStretch___init__
    d_BadStretch___init__ := PySem.W.fnOf "__init__" "BadStretch.__init__" (defArgs s_BadStretch___init__) (defBody s_BadStretch___init__) (defScope s_BadStretch___init__) .none kV_BadStretch___init__ dc_BadStretch___init__ pm_BadStretch___init__ an_BadStretch___init__ cd_BadStretch___init__ ct_BadStretch___init__
    c_Outside := c_Outside
    f_Outside___init__ := f_Outside___init__
    d_Outside___init__ := PySem.W.fnOf "__init__" "Outside.__init__" (defArgs s_Outside___init__) (defBody s_Outside___init__) (defScope s_Outside___init__) .none kV_Outside___init__ dc_Outside___init__ pm_Outside___init__ an_Outside___init__ cd_Outside___init__ ct_Outside___init__
    c_Stay := c_Stay
    f_Stay___init__ := f_Stay___init__
    d_Stay___init__ := PySem.W.fnOf "__init__" "Stay.__init__" (defArgs s_Stay___init__) (defBody s_Stay___init__) (defScope s_Stay___init__) .none kV_Stay___init__ dc_Stay___init__ pm_Stay___init__ an_Stay___init__ cd_Stay___init__ ct_Stay___init__
    f_Stay___str__ := f_Stay___str__
    d_Stay___str__ := PySem.W.fnOf "__str__" "Stay.__str__" (defArgs s_Stay___str__) (defBody s_Stay___str__) (defScope s_Stay___str__) .none kV_Stay___str__ dc_Stay___str__ pm_Stay___str__ an_Stay___str__ cd_Stay___str__ ct_Stay___str__
    c_Stretch := c_Stretch
    f_Stretch___init__ := f_Stretch___init__
    d_Stretch___init__ := PySem.W.fnOf "__init__" "Stretch.__init__" (defArgs s_Stretch___init__) (defBody s_Stretch___init__) (defScope s_Stretch___init__) .none kV_Stretch___init__ dc_Stretch___init__ pm_Stretch___init__ an_Stretch___init__ cd_Stretch___init__ ct_Stretch___init__
    f_Stretch_has_stay := f_Stretch_has_stay
    d_Stretch_has_stay := PySem.W.fnOf "has_stay" "Stretch.has_stay" (defArgs s_Stretch_has_stay) (defBody s_Stretch_has_stay) (defScope s_Stretch_has_stay) .none kV_Stretch_has_stay dc_Stretch_has_stay pm_Stretch_has_stay an_Stretch_has_stay cd_Stretch_has_stay ct_Stretch_has_stay
    f_Stretch___sub__ := f_Stretch___sub__
    d_Stretch___sub__ := PySem.W.fnOf "__sub__" "Stretch.__sub__" (defArgs s_Stretch___sub__) (defBody s_Stretch___sub__) (defScope s_Stretch___sub__) .none kV_Stretch___sub__ dc_Stretch___sub__ pm_Stretch___sub__ an_Stretch___sub__ cd_Stretch___sub__ ct_Stretch___sub__
    f_Stretch___eq__ := f_Stretch___eq__
    d_Stretch___eq__ := PySem.W.fnOf "__eq__" "Stretch.__eq__" (defArgs s_Stretch___eq__) (defBody s_Stretch___eq__) (defScope s_Stretch___eq__) .none kV_Stretch___eq__ dc_Stretch___eq__ pm_Stretch___eq__ an_Stretch___eq__ cd_Stretch___eq__ ct_Stretch___eq__
    f_Stretch___str__ := f_Stretch___str__
    d_Stretch___str__ := PySem.W.fnOf "__str__" "Stretch.__str__" (defArgs s_Stretch___str__) (defBody s_Stretch___str__) (defScope s_Stretch___str__) .none kV_Stretch___str__ dc_Stretch___str__ pm_Stretch___str__ an_Stretch___str__ cd_Stretch___str__ ct_Stretch___str__
    f_Stretch_is_endless := f_Stretch_is_endless
    p_Stretch_is_endless := p_Stretch_is_endless
    d_Stretch_is_endless := PySem.W.fnOf "is_endless" "Stretch.is_endless" (defArgs s_Stretch_is_endless) (defBody s_Stretch_is_endless) (defScope s_Stretch_is_endless) .none kV_Stretch_is_endless dc_Stretch_is_endless pm_Stretch_is_endless an_Stretch_is_endless cd_Stretch_is_endless ct_Stretch_is_endless
    f__law_pen := f__law_pen
    d__law_pen := PySem.W.fnOf "_law_pen" "_law_pen" (defArgs s__law_pen) (defBody s__law_pen) (defScope s__law_pen) .none kV__law_pen dc__law_pen pm__law_pen an__law_pen cd__law_pen ct__law_pen
    f__law_draw := f__law_draw
    d__law_draw := PySem.W.fnOf "_law_draw" "_law_draw" (defArgs s__law_draw) (defBody s__law_draw) (defScope s__law_draw) .none kV__law_draw dc__law_draw pm__law_draw an__law_draw cd__law_draw ct__law_draw
    f__law_pick := f__law_pick
    d__law_pick := PySem.W.fnOf "_law_pick" "_law_pick" (defArgs s__law_pick) (defBody s__law_pick) (defScope s__law_pick) .none kV__law_pick dc__law_pick pm__law_pick an__law_pick cd__law_pick ct__law_pick
    f__law_heard := f__law_heard
    d__law_heard := PySem.W.fnOf "_law_heard" "_law_heard" (defArgs s__law_heard) (defBody s__law_heard) (defScope s__law_heard) .none kV__law_heard dc__law_heard pm__law_heard an__law_heard cd__law_heard ct__law_heard
    f__law_day := f__law_day
    d__law_day := PySem.W.fnOf "_law_day" "_law_day" (defArgs s__law_day) (defBody s__law_day) (defScope s__law_day) .none kV__law_day dc__law_day pm__law_day an__law_day cd__law_day ct__law_day
    f__law_is := f__law_is
    d__law_is := PySem.W.fnOf "_law_is" "_law_is" (defArgs s__law_is) (defBody s__law_is) (defScope s__law_is) .none kV__law_is dc__law_is pm__law_is an__law_is cd__law_is ct__law_is
    f__law_unlike_right := f__law_unlike_right
    d__law_unlike_right := PySem.W.fnOf "_law_unlike_right" "_law_unlike_right" (defArgs s__law_unlike_right) (defBody s__law_unlike_right) (defScope s__law_unlike_right) .none kV__law_unlike_right dc__law_unlike_right pm__law_unlike_right an__law_unlike_right cd__law_unlike_right ct__law_unlike_right
    f__law_parts_right := f__law_parts_right
    d__law_parts_right := PySem.W.fnOf "_law_parts_right" "_law_parts_right" (defArgs s__law_parts_right) (defBody s__law_parts_right) (defScope s__law_parts_right) .none kV__law_parts_right dc__law_parts_right pm__law_parts_right an__law_parts_right (.ref cc__law_parts_right) ct__law_parts_right
    f__law_refused_right := f__law_refused_right
    d__law_refused_right := PySem.W.fnOf "_law_refused_right" "_law_refused_right" (defArgs s__law_refused_right) (defBody s__law_refused_right) (defScope s__law_refused_right) .none kV__law_refused_right dc__law_refused_right pm__law_refused_right an__law_refused_right (.ref cc__law_refused_right) ct__law_refused_right
    f_law := f_law
    d_law := PySem.W.fnOf "law" "law" (defArgs s_law) (defBody s_law) (defScope s_law) .none kV_law dc_law pm_law an_law cd_law ct_law
    cc__law_parts_right := cc__law_parts_right
    tp__law_parts_right := tp__law_parts_right
    cc__law_refused_right := cc__law_refused_right
    tp__law_refused_right := tp__law_refused_right
    g_is_whole := PySem.W.mg_of X G a_is_whole
    F_is_whole := F_is_whole
    bd_is_whole := F_is_whole.binds (ps := ["value"]) fun _ _ _ _ _ _ us hl => match us, hl with | [_], _ => rfl
    g_is_from := PySem.W.mg_of X G a_is_from
    F_is_from := F_is_from
    bd_is_from := F_is_from.binds (ps := ["value", "least", "most"]) fun _ _ _ _ _ _ us hl => match us, hl with | [_, _, _], _ => rfl
    g_is_day := PySem.W.mg_of X G a_is_day
    F_is_day := F_is_day
    bd_is_day := F_is_day.binds (ps := ["value"]) fun _ _ _ _ _ _ us hl => match us, hl with | [_], _ => rfl
    g_StayError := PySem.W.mg_of X G a_StayError
    g_BadStay := PySem.W.mg_of X G a_BadStay
    x_BadStay := ⟨⟨nm_BadStay, q_BadStay, N_BadStay, bs_BadStay, bm_BadStay, sn_BadStay, sub_BadStay, ab_BadStay, col_BadStay, dd_BadStay, m0_BadStay, m1_BadStay, m2_BadStay, m3_BadStay, m5_BadStay, h_BadStay_l, h_BadStay_bm⟩, h_BadStay_sa, h_BadStay_ex, h_BadStay_ty, h_BadStay_kp⟩
    xf_BadStay := ⟨h_BadStay_ga, h_BadStay_gg, h_BadStay_ex, h_BadStay_hd⟩
    xc_BadStay := ⟨h_BadStay_ga, h_BadStay_gg, h_BadStay_ex, h_BadStay_hd, h_BadStay_cls, h_cget, h_ctak, h_BadStay_mro⟩
    nx_BadStay_part := h_nx_BadStay_part
    fi_BadStay___init__ := a_BadStay___init__
    isf_BadStay___init__ := i_BadStay___init__
    F_BadStay___init__ := F_BadStay___init__
    bd_BadStay___init__ := F_BadStay___init__.binds (ps := ["self", "part"]) fun _ _ _ _ _ _ us hl => match us, hl with | [_, _], _ => rfl
    ti_BadStay := t_BadStay___init__
    g_BadStretch := PySem.W.mg_of X G a_BadStretch
    x_BadStretch := ⟨⟨nm_BadStretch, q_BadStretch, N_BadStretch, bs_BadStretch, bm_BadStretch, sn_BadStretch, sub_BadStretch, ab_BadStretch, col_BadStretch, dd_BadStretch, m0_BadStretch, m1_BadStretch, m2_BadStretch, m3_BadStretch, m5_BadStretch, h_BadStretch_l, h_BadStretch_bm⟩, h_BadStretch_sa, h_BadStretch_ex, h_BadStretch_ty, h_BadStretch_kp⟩
    xf_BadStretch := ⟨h_BadStretch_ga, h_BadStretch_gg, h_BadStretch_ex, h_BadStretch_hd⟩
    xc_BadStretch := ⟨h_BadStretch_ga, h_BadStretch_gg, h_BadStretch_ex, h_BadStretch_hd, h_BadStretch_cls, h_cget, h_ctak, h_BadStretch_mro⟩
    nx_BadStretch_part := h_nx_BadStretch_part
    fi_BadStretch___init__ := a_BadStretch___init__
    isf_BadStretch___init__ := i_BadStretch___init__
    F_BadStretch___init__ := F_BadStretch___init__
    bd_BadStretch___init__ := F_BadStretch___init__.binds (ps := ["self", "part"]) fun _ _ _ _ _ _ us hl => match us, hl with | [_, _], _ => rfl
    ti_BadStretch := t_BadStretch___init__
    g_Outside := PySem.W.mg_of X G a_Outside
    x_Outside := ⟨⟨nm_Outside, q_Outside, N_Outside, bs_Outside, bm_Outside, sn_Outside, sub_Outside, ab_Outside, col_Outside, dd_Outside, m0_Outside, m1_Outside, m2_Outside, m3_Outside, m5_Outside, h_Outside_l, h_Outside_bm⟩, h_Outside_sa, h_Outside_ex, h_Outside_ty, h_Outside_kp⟩
    xf_Outside := ⟨h_Outside_ga, h_Outside_gg, h_Outside_ex, h_Outside_hd⟩
    xc_Outside := ⟨h_Outside_ga, h_Outside_gg, h_Outside_ex, h_Outside_hd, h_Outside_cls, h_cget, h_ctak, h_Outside_mro⟩
    nx_Outside_stay := h_nx_Outside_stay
    fi_Outside___init__ := a_Outside___init__
    isf_Outside___init__ := i_Outside___init__
    F_Outside___init__ := F_Outside___init__
    bd_Outside___init__ := F_Outside___init__.binds (ps := ["self", "stay"]) fun _ _ _ _ _ _ us hl => match us, hl with | [_, _], _ => rfl
    ti_Outside := t_Outside___init__
    g_Stay := PySem.W.mg_of X G a_Stay
    cl_Stay := ⟨h_Stay_pg, h_Stay_hd, h_Stay_po, h_Stay_sa⟩
    own_Stay := ⟨⟨h_Stay_pg, h_Stay_hd, h_Stay_po, h_Stay_sa⟩, h_Stay_cls, h_Stay_get, h_Stay_tak, h_Stay_mro⟩
    na_Stay_first := h_na_Stay_first
    na_Stay_after := h_na_Stay_after
    na_Stay__nights := h_na_Stay__nights
    fi_Stay___init__ := a_Stay___init__
    isf_Stay___init__ := i_Stay___init__
    F_Stay___init__ := F_Stay___init__
    bd_Stay___init__ := F_Stay___init__.binds (ps := ["self", "first", "after"]) fun _ _ _ _ _ _ us hl => match us, hl with | [_, _, _], _ => rfl
    fi_Stay___str__ := a_Stay___str__
    isf_Stay___str__ := i_Stay___str__
    F_Stay___str__ := F_Stay___str__
    bd_Stay___str__ := F_Stay___str__.binds (ps := ["self"]) fun _ _ _ _ _ _ us hl => match us, hl with | [_], _ => rfl
    g_Stretch := PySem.W.mg_of X G a_Stretch
    cl_Stretch := ⟨h_Stretch_pg, h_Stretch_hd, h_Stretch_po, h_Stretch_sa⟩
    own_Stretch := ⟨⟨h_Stretch_pg, h_Stretch_hd, h_Stretch_po, h_Stretch_sa⟩, h_Stretch_cls, h_Stretch_get, h_Stretch_tak, h_Stretch_mro⟩
    na_Stretch_day := h_na_Stretch_day
    na_Stretch_nights := h_na_Stretch_nights
    fi_Stretch___init__ := a_Stretch___init__
    isf_Stretch___init__ := i_Stretch___init__
    F_Stretch___init__ := F_Stretch___init__
    bd_Stretch___init__ := F_Stretch___init__.binds (ps := ["self", "day", "nights"]) fun _ _ _ _ _ _ us hl => match us, hl with | [_, _, _], _ => rfl
    fi_Stretch_has_stay := a_Stretch_has_stay
    isf_Stretch_has_stay := i_Stretch_has_stay
    F_Stretch_has_stay := F_Stretch_has_stay
    bd_Stretch_has_stay := F_Stretch_has_stay.binds (ps := ["self", "stay"]) fun _ _ _ _ _ _ us hl => match us, hl with | [_, _], _ => rfl
    fi_Stretch___sub__ := a_Stretch___sub__
    isf_Stretch___sub__ := i_Stretch___sub__
    F_Stretch___sub__ := F_Stretch___sub__
    bd_Stretch___sub__ := F_Stretch___sub__.binds (ps := ["self", "other"]) fun _ _ _ _ _ _ us hl => match us, hl with | [_, _], _ => rfl
    fi_Stretch___eq__ := a_Stretch___eq__
    isf_Stretch___eq__ := i_Stretch___eq__
    F_Stretch___eq__ := F_Stretch___eq__
    bd_Stretch___eq__ := F_Stretch___eq__.binds (ps := ["self", "other"]) fun _ _ _ _ _ _ us hl => match us, hl with | [_, _], _ => rfl
    fi_Stretch___str__ := a_Stretch___str__
    isf_Stretch___str__ := i_Stretch___str__
    F_Stretch___str__ := F_Stretch___str__
    bd_Stretch___str__ := F_Stretch___str__.binds (ps := ["self"]) fun _ _ _ _ _ _ us hl => match us, hl with | [_], _ => rfl
    F_Stretch_is_endless := F_Stretch_is_endless
    bd_Stretch_is_endless := F_Stretch_is_endless.binds (ps := ["self"]) fun _ _ _ _ _ _ us hl => match us, hl with | [_], _ => rfl
    pp_Stretch_is_endless := ⟨pa_Stretch_is_endless, pg_Stretch_is_endless, pt_Stretch_is_endless, ⟨_, pr_Stretch_is_endless⟩⟩
    exm_Outside := h_exm_Outside
    kit_Outside_Outside := h_kit_Outside_Outside
    kit_Outside_BadStretch := h_kit_Outside_BadStretch
    exm_BadStretch := h_exm_BadStretch
    kit_BadStretch_Outside := h_kit_BadStretch_Outside
    kit_BadStretch_BadStretch := h_kit_BadStretch_BadStretch
    kit_Stretch := h_kit_Stretch
    sb_Stretch_NoneType := h_sb_Stretch_NoneType
    kit_NoneType_Stretch := h_kit_NoneType_Stretch
    sb_Stretch_int := h_sb_Stretch_int
    kit_int_Stretch := h_kit_int_Stretch
    sb_Stretch_str := h_sb_Stretch_str
    kit_str_Stretch := h_kit_str_Stretch
    sb_Stretch_tuple := h_sb_Stretch_tuple
    kit_tuple_Stretch := h_kit_tuple_Stretch
    g__law_pen := PySem.W.mg_of X G a__law_pen
    F__law_pen := F__law_pen
    bd__law_pen := F__law_pen.binds (ps := ["script"]) fun _ _ _ _ _ _ us hl => match us, hl with | [_], _ => rfl
    g__law_draw := PySem.W.mg_of X G a__law_draw
    F__law_draw := F__law_draw
    bd__law_draw := F__law_draw.binds (ps := ["pen", "many"]) fun _ _ _ _ _ _ us hl => match us, hl with | [_, _], _ => rfl
    g__law_pick := PySem.W.mg_of X G a__law_pick
    F__law_pick := F__law_pick
    bd__law_pick := F__law_pick.binds (ps := ["pen", "some"]) fun _ _ _ _ _ _ us hl => match us, hl with | [_, _], _ => rfl
    g__law_heard := PySem.W.mg_of X G a__law_heard
    F__law_heard := F__law_heard
    bd__law_heard := F__law_heard.binds (ps := ["ask"]) fun _ _ _ _ _ _ us hl => match us, hl with | [_], _ => rfl
    g__law_day := PySem.W.mg_of X G a__law_day
    F__law_day := F__law_day
    bd__law_day := F__law_day.binds (ps := ["pen"]) fun _ _ _ _ _ _ us hl => match us, hl with | [_], _ => rfl
    g__law_is := PySem.W.mg_of X G a__law_is
    F__law_is := F__law_is
    bd__law_is := F__law_is.binds (ps := ["found", "day", "nights"]) fun _ _ _ _ _ _ us hl => match us, hl with | [_, _, _], _ => rfl
    g__law_unlike_right := PySem.W.mg_of X G a__law_unlike_right
    F__law_unlike_right := F__law_unlike_right
    bd__law_unlike_right := F__law_unlike_right.binds (ps := ["pen", "day", "nights"]) fun _ _ _ _ _ _ us hl => match us, hl with | [_, _, _], _ => rfl
    g__law_parts_right := PySem.W.mg_of X G a__law_parts_right
    F__law_parts_right := F__law_parts_right
    bd__law_parts_right := F__law_parts_right.binds (ps := ["pen", "day", "nights"]) fun _ _ _ _ _ _ us hl => match us, hl with | [_, _, _], _ => rfl
    g__law_refused_right := PySem.W.mg_of X G a__law_refused_right
    F__law_refused_right := F__law_refused_right
    bd__law_refused_right := F__law_refused_right.binds (ps := ["pen"]) fun _ _ _ _ _ _ us hl => match us, hl with | [_], _ => rfl
    g_law := PySem.W.mg_of X G a_law
    F_law := F_law
    bd_law := F_law.binds (ps := ["script"]) fun _ _ _ _ _ _ us hl => match us, hl with | [_], _ => rfl
    b_isinstance := PySem.W.mg_none_of X G z_isinstance
    b_int := PySem.W.mg_none_of X G z_int
    b_bool := PySem.W.mg_none_of X G z_bool
    b_len := PySem.W.mg_none_of X G z_len
    b_tuple := PySem.W.mg_none_of X G z_tuple
    b_range := PySem.W.mg_none_of X G z_range
    b_list := PySem.W.mg_none_of X G z_list
    b_abs := PySem.W.mg_none_of X G z_abs
    b_str := PySem.W.mg_none_of X G z_str
    b_repr := PySem.W.mg_none_of X G z_repr
    b_min := PySem.W.mg_none_of X G z_min
    b_max := PySem.W.mg_none_of X G z_max
    g_LAST_DAY := ⟨_, PySem.W.mg_of X G a_LAST_DAY⟩
    g_MOST_NIGHTS := ⟨_, PySem.W.mg_of X G a_MOST_NIGHTS⟩
    cr_Stay := ⟨h_Stay_rd, h_Stay_tg⟩
    cv_Stay_MOST := ⟨_, h_Stay_MOST, ⟨_, rfl⟩⟩
    code__law_parts_right := rfl
    code__law_refused_right := rfl
    tp_ne := h_tpne
    mk_Stay := ⟨h_Stay_mk, a_Stay___init__, i_Stay___init__, h_Stay_kp⟩
    sm_Stay___str__ := ⟨a_Stay___str__, i_Stay___str__⟩
    mk_Stretch := ⟨h_Stretch_mk, a_Stretch___init__, i_Stretch___init__, h_Stretch_kp⟩
    me_Stretch_has_stay := ⟨a_Stretch_has_stay, i_Stretch_has_stay, k_Stretch_has_stay⟩
    eq_Stretch := ⟨a_Stretch___eq__, i_Stretch___eq__, h_Stretch_ne, h_Stretch_mro⟩
    sm_Stretch___str__ := ⟨a_Stretch___str__, i_Stretch___str__⟩
    op_Stretch_sub := ⟨h_Stretch_sf, a_Stretch___sub__, i_Stretch___sub__, h_Stretch_rsub⟩
    nn_Stay_sub := ⟨⟨cd_Stay, h_Stay_cd, h_Stay_cm⟩, hN_Stay_sub, hN_Stay_rsub, by rw [typeLookup_type, builtinLookup_eq_fast]; kernel_rfl, by rw [typeLookup_type, builtinLookup_eq_fast]; kernel_rfl⟩ }) ef e0 e1 hg__law_parts_right hg__law_refused_right hn__law_parts_right hn__law_refused_right
end NN

open PySem PySem.W PyProof.Rows in
set_option maxHeartbeats 0 in
theorem PySem.Challenge.cw_nodeadnight_k33_stretches_made_and_parte_holds : PySem.Challenge.rw_nodeadnight_k33_stretches_made_and_parte.Holds := by
  w_on; o_law; k_head; (case hw => w_witness2)
  k_fill
  refine LamX.walk_ofG (l := PySem.Challenge.rw_nodeadnight_k33_stretches_made_and_parte) (n := 63) (k := 40) (CX := fun _ => L2.CX0) (x := "script") rfl (by decide) rfl ⟨rfl, by decide, by decide⟩ (fun w h Y => PySem.W.km_in_of Y) ?F ?hCX
  case hCX => exact fun _ _ _ _ _ z => z
  case F =>
    intro w mg fa h Y KX G hmg
    refine' NN.all_mk (hfa := hmg) KX G ?a_is_whole ?l_is_whole ?c_is_whole_ ?k_is_whole ?a_is_from ?l_is_from ?c_is_from_ ?k_is_from ?a_is_day ?l_is_day ?c_is_day_ ?k_is_day ?a_StayError ?a_BadStay ?h_BadStay_l ?h_BadStay_bm ?h_BadStay_sa ?h_BadStay_ex ?h_BadStay_ty ?h_BadStay_kp ?h_BadStay_ga ?h_BadStay_gg ?h_BadStay_hd ?h_BadStay_cls ?h_BadStay_mro ?h_cget ?h_ctak ?h_nx_BadStay_part ?a_BadStay___init__ ?i_BadStay___init__ ?l_BadStay___init__ ?c_BadStay___init___ ?k_BadStay___init__ ?t_BadStay___init__ ?a_BadStretch ?h_BadStretch_l ?h_BadStretch_bm ?h_BadStretch_sa ?h_BadStretch_ex ?h_BadStretch_ty ?h_BadStretch_kp ?h_BadStretch_ga ?h_BadStretch_gg ?h_BadStretch_hd ?h_BadStretch_cls ?h_BadStretch_mro ?h_nx_BadStretch_part ?a_BadStretch___init__ ?i_BadStretch___init__ ?l_BadStretch___init__ ?c_BadStretch___init___ ?k_BadStretch___init__ ?t_BadStretch___init__ ?a_Outside ?h_Outside_l ?h_Outside_bm ?h_Outside_sa ?h_Outside_ex ?h_Outside_ty ?h_Outside_kp ?h_Outside_ga ?h_Outside_gg ?h_Outside_hd ?h_Outside_cls ?h_Outside_mro ?h_nx_Outside_stay ?a_Outside___init__ ?i_Outside___init__ ?l_Outside___init__ ?c_Outside___init___ ?k_Outside___init__ ?t_Outside___init__ ?a_Stay ?h_Stay_pg ?h_Stay_hd ?h_Stay_po ?h_Stay_sa ?h_Stay_cls ?h_Stay_get ?h_Stay_tak ?h_Stay_mro ?h_na_Stay_first ?h_na_Stay_after ?h_na_Stay__nights ?h_Stay_mk ?h_Stay_kp ?a_Stay___init__ ?i_Stay___init__ ?l_Stay___init__ ?c_Stay___init___ ?k_Stay___init__ ?a_Stay___str__ ?i_Stay___str__ ?l_Stay___str__ ?c_Stay___str___ ?k_Stay___str__ ?a_Stretch ?h_Stretch_pg ?h_Stretch_hd ?h_Stretch_po ?h_Stretch_sa ?h_Stretch_cls ?h_Stretch_get ?h_Stretch_tak ?h_Stretch_mro ?h_na_Stretch_day ?h_na_Stretch_nights ?h_Stretch_mk ?h_Stretch_kp ?a_Stretch___init__ ?i_Stretch___init__ ?l_Stretch___init__ ?c_Stretch___init___ ?k_Stretch___init__ ?a_Stretch_has_stay ?i_Stretch_has_stay ?l_Stretch_has_stay ?c_Stretch_has_stay_ ?k_Stretch_has_stay ?a_Stretch___sub__ ?i_Stretch___sub__ ?l_Stretch___sub__ ?c_Stretch___sub___ ?k_Stretch___sub__ ?a_Stretch___eq__ ?i_Stretch___eq__ ?l_Stretch___eq__ ?c_Stretch___eq___ ?k_Stretch___eq__ ?a_Stretch___str__ ?i_Stretch___str__ ?l_Stretch___str__ ?c_Stretch___str___ ?k_Stretch___str__ ?h_Stretch_ne ?h_Stretch_sf ?h_Stretch_rsub ?hN_Stay_sub ?hN_Stay_rsub ?h_Stay_cd ?h_Stay_cm ?pa_Stretch_is_endless ?pg_Stretch_is_endless ?pt_Stretch_is_endless ?pr_Stretch_is_endless ?l_Stretch_is_endless ?c_Stretch_is_endless_ ?k_Stretch_is_endless ?h_exm_Outside ?h_kit_Outside_Outside ?h_kit_Outside_BadStretch ?h_exm_BadStretch ?h_kit_BadStretch_Outside ?h_kit_BadStretch_BadStretch ?h_kit_Stretch ?h_sb_Stretch_NoneType ?h_kit_NoneType_Stretch ?h_sb_Stretch_int ?h_kit_int_Stretch ?h_sb_Stretch_str ?h_kit_str_Stretch ?h_sb_Stretch_tuple ?h_kit_tuple_Stretch ?a__law_pen ?l__law_pen ?c__law_pen_ ?k__law_pen ?a__law_draw ?l__law_draw ?c__law_draw_ ?k__law_draw ?a__law_pick ?l__law_pick ?c__law_pick_ ?k__law_pick ?a__law_heard ?l__law_heard ?c__law_heard_ ?k__law_heard ?a__law_day ?l__law_day ?c__law_day_ ?k__law_day ?a__law_is ?l__law_is ?c__law_is_ ?k__law_is ?a__law_unlike_right ?l__law_unlike_right ?c__law_unlike_right_ ?k__law_unlike_right ?a__law_parts_right ?l__law_parts_right ?c__law_parts_right_ ?k__law_parts_right ?a__law_refused_right ?l__law_refused_right ?c__law_refused_right_ ?k__law_refused_right ?a_law ?l_law ?c_law_ ?k_law ?z_isinstance ?z_int ?z_bool ?z_len ?z_tuple ?z_range ?z_list ?z_abs ?z_str ?z_repr ?z_min ?z_max ?a_LAST_DAY ?a_MOST_NIGHTS ?h_Stay_rd ?h_Stay_tg ?h_Stay_MOST ?hc__law_parts_right ?ht__law_parts_right ?hb__law_parts_right ?hg__law_parts_right ?hn__law_parts_right ?hc__law_refused_right ?ht__law_refused_right ?hb__law_refused_right ?hg__law_refused_right ?hn__law_refused_right ?h_tpne
    (case a_is_whole => k_is)
    (case l_is_whole => k_is)
    (case c_is_whole_ => k_is)
    (case k_is_whole => k_is)
    (case a_is_from => k_is)
    (case l_is_from => k_is)
    (case c_is_from_ => k_is)
    (case k_is_from => k_is)
    (case a_is_day => k_is)
    (case l_is_day => k_is)
    (case c_is_day_ => k_is)
    (case k_is_day => k_is)
    (case a_StayError => k_is)
    (case a_BadStay => k_is)
    (case h_BadStay_l => k_is)
    (case h_BadStay_bm => first | rfl | decide +kernel)
    (case h_BadStay_sa => k_is)
    (case h_BadStay_ex => k_is)
    (case h_BadStay_ty => k_is)
    (case h_BadStay_kp => k_is)
    (case h_BadStay_ga => k_is)
    (case h_BadStay_gg => k_is)
    (case h_BadStay_hd => k_is)
    (case h_BadStay_cls => k_is)
    (case h_BadStay_mro => k_is)
    (case h_cget => k_is)
    (case h_ctak => k_is)
    (case h_nx_BadStay_part => k_is)
    (case a_BadStay___init__ => k_is)
    (case i_BadStay___init__ => k_is)
    (case l_BadStay___init__ => k_is)
    (case c_BadStay___init___ => k_is)
    (case k_BadStay___init__ => k_is)
    (case t_BadStay___init__ => k_is)
    (case a_BadStretch => k_is)
    (case h_BadStretch_l => k_is)
    (case h_BadStretch_bm => first | rfl | decide +kernel)
    (case h_BadStretch_sa => k_is)
    (case h_BadStretch_ex => k_is)
    (case h_BadStretch_ty => k_is)
    (case h_BadStretch_kp => k_is)
    (case h_BadStretch_ga => k_is)
    (case h_BadStretch_gg => k_is)
    (case h_BadStretch_hd => k_is)
    (case h_BadStretch_cls => k_is)
    (case h_BadStretch_mro => k_is)
    (case h_nx_BadStretch_part => k_is)
    (case a_BadStretch___init__ => k_is)
    (case i_BadStretch___init__ => k_is)
    (case l_BadStretch___init__ => k_is)
    (case c_BadStretch___init___ => k_is)
    (case k_BadStretch___init__ => k_is)
    (case t_BadStretch___init__ => k_is)
    (case a_Outside => k_is)
    (case h_Outside_l => k_is)
    (case h_Outside_bm => first | rfl | decide +kernel)
    (case h_Outside_sa => k_is)
    (case h_Outside_ex => k_is)
    (case h_Outside_ty => k_is)
    (case h_Outside_kp => k_is)
    (case h_Outside_ga => k_is)
    (case h_Outside_gg => k_is)
    (case h_Outside_hd => k_is)
    (case h_Outside_cls => k_is)
    (case h_Outside_mro => k_is)
    (case h_nx_Outside_stay => k_is)
    (case a_Outside___init__ => k_is)
    (case i_Outside___init__ => k_is)
    (case l_Outside___init__ => k_is)
    (case c_Outside___init___ => k_is)
    (case k_Outside___init__ => k_is)
    (case t_Outside___init__ => k_is)
    (case a_Stay => k_is)
    (case h_Stay_pg => k_is)
    (case h_Stay_hd => k_is)
    (case h_Stay_po => k_is)
    (case h_Stay_sa => k_is)
    (case h_Stay_cls => k_is)
    (case h_Stay_get => k_is)
    (case h_Stay_tak => k_is)
    (case h_Stay_mro => k_is)
    (case h_na_Stay_first => k_is)
    (case h_na_Stay_after => k_is)
    (case h_na_Stay__nights => k_is)
    (case h_Stay_mk => k_is)
    (case h_Stay_kp => k_is)
    (case a_Stay___init__ => k_is)
    (case i_Stay___init__ => k_is)
    (case l_Stay___init__ => k_is)
    (case c_Stay___init___ => k_is)
    (case k_Stay___init__ => k_is)
    (case a_Stay___str__ => k_is)
    (case i_Stay___str__ => k_is)
    (case l_Stay___str__ => k_is)
    (case c_Stay___str___ => k_is)
    (case k_Stay___str__ => k_is)
    (case a_Stretch => k_is)
    (case h_Stretch_pg => k_is)
    (case h_Stretch_hd => k_is)
    (case h_Stretch_po => k_is)
    (case h_Stretch_sa => k_is)
    (case h_Stretch_cls => k_is)
    (case h_Stretch_get => k_is)
    (case h_Stretch_tak => k_is)
    (case h_Stretch_mro => k_is)
    (case h_na_Stretch_day => k_is)
    (case h_na_Stretch_nights => k_is)
    (case h_Stretch_mk => k_is)
    (case h_Stretch_kp => k_is)
    (case a_Stretch___init__ => k_is)
    (case i_Stretch___init__ => k_is)
    (case l_Stretch___init__ => k_is)
    (case c_Stretch___init___ => k_is)
    (case k_Stretch___init__ => k_is)
    (case a_Stretch_has_stay => k_is)
    (case i_Stretch_has_stay => k_is)
    (case l_Stretch_has_stay => k_is)
    (case c_Stretch_has_stay_ => k_is)
    (case k_Stretch_has_stay => k_is)
    (case a_Stretch___sub__ => k_is)
    (case i_Stretch___sub__ => k_is)
    (case l_Stretch___sub__ => k_is)
    (case c_Stretch___sub___ => k_is)
    (case k_Stretch___sub__ => k_is)
    (case a_Stretch___eq__ => k_is)
    (case i_Stretch___eq__ => k_is)
    (case l_Stretch___eq__ => k_is)
    (case c_Stretch___eq___ => k_is)
    (case k_Stretch___eq__ => k_is)
    (case a_Stretch___str__ => k_is)
    (case i_Stretch___str__ => k_is)
    (case l_Stretch___str__ => k_is)
    (case c_Stretch___str___ => k_is)
    (case k_Stretch___str__ => k_is)
    (case h_Stretch_ne => k_is)
    (case h_Stretch_sf => k_is)
    (case h_Stretch_rsub => k_is)
    (case hN_Stay_sub => k_is)
    (case hN_Stay_rsub => k_is)
    (case h_Stay_cd => k_is)
    (case h_Stay_cm => first | rfl | k_is)
    (case pa_Stretch_is_endless => k_is)
    (case pg_Stretch_is_endless => k_is)
    (case pt_Stretch_is_endless => k_is)
    (case pr_Stretch_is_endless => k_is)
    (case l_Stretch_is_endless => k_is)
    (case c_Stretch_is_endless_ => k_is)
    (case k_Stretch_is_endless => k_is)
    (case h_exm_Outside => kts_exm)
    (case h_kit_Outside_Outside => kit_is)
    (case h_kit_Outside_BadStretch => kit_is)
    (case h_exm_BadStretch => kts_exm)
    (case h_kit_BadStretch_Outside => kit_is)
    (case h_kit_BadStretch_BadStretch => kit_is)
    (case h_kit_Stretch => kit_is)
    (case h_sb_Stretch_NoneType => k_is)
    (case h_kit_NoneType_Stretch => kit_is)
    (case h_sb_Stretch_int => k_is)
    (case h_kit_int_Stretch => kit_is)
    (case h_sb_Stretch_str => k_is)
    (case h_kit_str_Stretch => kit_is)
    (case h_sb_Stretch_tuple => k_is)
    (case h_kit_tuple_Stretch => kit_is)
    (case a__law_pen => k_is)
    (case l__law_pen => k_is)
    (case c__law_pen_ => k_is)
    (case k__law_pen => k_is)
    (case a__law_draw => k_is)
    (case l__law_draw => k_is)
    (case c__law_draw_ => k_is)
    (case k__law_draw => k_is)
    (case a__law_pick => k_is)
    (case l__law_pick => k_is)
    (case c__law_pick_ => k_is)
    (case k__law_pick => k_is)
    (case a__law_heard => k_is)
    (case l__law_heard => k_is)
    (case c__law_heard_ => k_is)
    (case k__law_heard => k_is)
    (case a__law_day => k_is)
    (case l__law_day => k_is)
    (case c__law_day_ => k_is)
    (case k__law_day => k_is)
    (case a__law_is => k_is)
    (case l__law_is => k_is)
    (case c__law_is_ => k_is)
    (case k__law_is => k_is)
    (case a__law_unlike_right => k_is)
    (case l__law_unlike_right => k_is)
    (case c__law_unlike_right_ => k_is)
    (case k__law_unlike_right => k_is)
    (case a__law_parts_right => k_is)
    (case l__law_parts_right => k_is)
    (case c__law_parts_right_ => k_is)
    (case k__law_parts_right => k_is)
    (case a__law_refused_right => k_is)
    (case l__law_refused_right => k_is)
    (case c__law_refused_right_ => k_is)
    (case k__law_refused_right => k_is)
    (case a_law => k_is)
    (case l_law => k_is)
    (case c_law_ => k_is)
    (case k_law => k_is)
    (case z_isinstance => k_is)
    (case z_int => k_is)
    (case z_bool => k_is)
    (case z_len => k_is)
    (case z_tuple => k_is)
    (case z_range => k_is)
    (case z_list => k_is)
    (case z_abs => k_is)
    (case z_str => k_is)
    (case z_repr => k_is)
    (case z_min => k_is)
    (case z_max => k_is)
    (case a_LAST_DAY => k_is)
    (case a_MOST_NIGHTS => k_is)
    (case h_Stay_rd => k_is)
    (case h_Stay_tg => k_is)
    (case h_Stay_MOST => k_is)
    (case hc__law_parts_right => k_is)
    (case ht__law_parts_right => rfl)
    (case hb__law_parts_right => first | rfl | decide +kernel)
    (case hg__law_parts_right => exact PySem.W.km_tabs_of Y _ (by decide))
    (case hn__law_parts_right => exact NN.none_of Y (by decide))
    (case hc__law_refused_right => k_is)
    (case ht__law_refused_right => rfl)
    (case hb__law_refused_right => first | rfl | decide +kernel)
    (case hg__law_refused_right => exact PySem.W.km_tabs_of Y _ (by decide))
    (case hn__law_refused_right => exact NN.none_of Y (by decide))
    (case h_tpne => decide)
#print axioms PySem.Challenge.cw_nodeadnight_k33_stretches_made_and_parte_holds
