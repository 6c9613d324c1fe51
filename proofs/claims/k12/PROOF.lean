import PyProof.Rows.All
import Wide.All
import OpenK.AllK
import Wide.FinOn
import HandS.ForMost
import HandS.Wide
import HandS.IsInst
import HandS.CallLocal
import HandS.Defaults
import HandS.Walk
import HandS.Zip
import HandS.Flow
import HandS.Conv
import HandS.Style
import HandS.HeadHook2
import KE.GoesMore
import HandS.TupAny
import HandS.StrMore
import HandS.TupMul
import HandS.CallSlots
import HandS.ExcOwn
import KE.DataEq
import HandS.Text
import HandS.ForExc
import HandS.WordsExc
import HandS.ExcInit
import HandS.ExcIs
import HandS.ExcField
import HandS.TryMany
import HandS.FStr
import KE.KExcInit
import HandS.New
import PyProof.StrLawsRepr
import HandS.Star
import HandS.MakeKwOnly
import KE.GoesZip
import HandS.NoneIn
import HandS.SortInts
import KE.KStateDown
import HandS.Head0
import HandS.Head1
import HandS.Head2
import HandS.HeadEnd
import HandS.HeadHook1
import HandS.Dict
import HandS.Iter
import KE.KDictPairs
import HandS.SortRule
import PyProof.Rows.SortKeyStr
import HandS.DictTup
import PyProof.SliceList
import KE.KUnpackStar
import KE.DatumOrd
import HandS.SortKw
import HandS.RaiseMore
import HandS.SetFor
import PyProof.Rows.SortShellAny
import PyProof.TupleOfStr
import PySem.Challenge.RW_halfring_k12_records_by_hand_and_refused
set_option Elab.async false
set_option linter.all false
set_option maxRecDepth 100000
set_option maxHeartbeats 4000000
namespace DV
open PySem L2

/-! data that a value stands for, over the tracked heap -/
mutual
inductive Da (K : PySem.W.Frag) (H : Hp) : V → PyData → Prop
  | non : Da K H .non .none
  | bl (b : Bool) : Da K H (.bl b) (.bool b)
  | int (i : Int) : Da K H (.int i) (.int i)
  | str (x : Str) : Da K H (.str x) (.str x)
  | lst {a : Addr} {xs : List V} {ds : List PyData} : H a = some (.lst xs) → DaAll K H xs ds → Da K H (.ref a) (.list ds)
  | tup {a : Addr} {xs : List V} {ds : List PyData} : SqT K H a xs → DaAll K H xs ds → Da K H (.ref a) (.tuple ds)
inductive DaAll (K : PySem.W.Frag) (H : Hp) : List V → List PyData → Prop
  | nil : DaAll K H [] []
  | cons {v : V} {vs : List V} {d : PyData} {ds : List PyData} : Da K H v d → DaAll K H vs ds → DaAll K H (v :: vs) (d :: ds)
end

theorem sqT_mono {K : PySem.W.Frag} {H H' : Hp} {a : Addr} {xs : List V} (e : Same H H') (h : SqT K H a xs) : SqT K H' a xs := by
  rcases h with (h | ⟨o, h⟩) | h
  · exact .inl (.inl (e _ _ h))
  · exact .inl (.inr ⟨o, e _ _ h⟩)
  · exact .inr h

mutual
theorem Da.mono {K : PySem.W.Frag} {H H' : Hp} (e : Same H H') : ∀ {v : V} {d : PyData}, Da K H v d → Da K H' v d
  | _, _, .non => .non
  | _, _, .bl b => .bl b
  | _, _, .int i => .int i
  | _, _, .str x => .str x
  | _, _, .lst h hs => .lst (e _ _ h) (DaAll.mono e hs)
  | _, _, .tup h hs => .tup (sqT_mono e h) (DaAll.mono e hs)
theorem DaAll.mono {K : PySem.W.Frag} {H H' : Hp} (e : Same H H') : ∀ {vs : List V} {ds : List PyData}, DaAll K H vs ds → DaAll K H' vs ds
  | _, _, .nil => .nil
  | _, _, .cons h hs => .cons (Da.mono e h) (DaAll.mono e hs)
end
theorem DaAll.length {K : PySem.W.Frag} {H : Hp} : ∀ {vs : List V} {ds : List PyData}, DaAll K H vs ds → vs.length = ds.length
  | _, _, .nil => rfl
  | _, _, .cons _ hs => congrArg Nat.succ (DaAll.length hs)
theorem DaAll.get {K : PySem.W.Frag} {H : Hp} : ∀ {vs : List V} {ds : List PyData} {i : Nat} {d : PyData}, DaAll K H vs ds → ds[i]? = some d → ∃ v, vs[i]? = some v ∧ Da K H v d
  | _, _, _, _, .nil, e => by simp at e
  | _, _, 0, _, .cons h _, e => by simp at e; subst e; exact ⟨_, rfl, h⟩
  | _, _, i + 1, _, .cons _ hs, e => by
    obtain ⟨v, h1, h2⟩ := DaAll.get (i := i) hs (by simpa using e)
    exact ⟨v, by simpa using h1, h2⟩
theorem DaAll.at {K : PySem.W.Frag} {H : Hp} : ∀ {vs : List V} {ds : List PyData} {i : Nat} {v : V}, DaAll K H vs ds → vs[i]? = some v → ∃ d, ds[i]? = some d ∧ Da K H v d
  | _, _, _, _, .nil, e => by simp at e
  | _, _, 0, _, .cons h _, e => by simp at e; subst e; exact ⟨_, rfl, h⟩
  | _, _, i + 1, _, .cons _ hs, e => by
    obtain ⟨v, h1, h2⟩ := DaAll.at (i := i) hs (by simpa using e)
    exact ⟨v, by simpa using h1, h2⟩
theorem DaAll.append {K : PySem.W.Frag} {H : Hp} : ∀ {vs ws : List V} {ds es : List PyData}, DaAll K H vs ds → DaAll K H ws es → DaAll K H (vs ++ ws) (ds ++ es)
  | _, _, _, _, .nil, s => s
  | _, _, _, _, .cons h hs, s => .cons h (DaAll.append hs s)
theorem DaAll.take {K : PySem.W.Frag} {H : Hp} : ∀ {vs : List V} {ds : List PyData} (n : Nat), DaAll K H vs ds → DaAll K H (vs.take n) (ds.take n)
  | _, _, 0, _ => .nil
  | _, _, _ + 1, .nil => .nil
  | _, _, n + 1, .cons h hs => .cons h (DaAll.take n hs)
theorem DaAll.drop {K : PySem.W.Frag} {H : Hp} : ∀ {vs : List V} {ds : List PyData} (n : Nat), DaAll K H vs ds → DaAll K H (vs.drop n) (ds.drop n)
  | _, _, 0, s => s
  | _, _, _ + 1, .nil => .nil
  | _, _, n + 1, .cons _ hs => DaAll.drop n hs
theorem DaAll.ints {K : PySem.W.Frag} {H : Hp} : ∀ {vs : List V} {ns : List Int}, DaAll K H vs (ns.map PyData.int) → vs = ns.map V.int
  | _, [], .nil => rfl
  | _, n :: ns, .cons (.int _) hs => by rw [DaAll.ints hs]; rfl
theorem DaAll.bools {K : PySem.W.Frag} {H : Hp} : ∀ {vs : List V} {ns : List Bool}, DaAll K H vs (ns.map PyData.bool) → vs = ns.map V.bl
  | _, [], .nil => rfl
  | _, n :: ns, .cons (.bl _) hs => by rw [DaAll.bools hs]; rfl
mutual
theorem Da.dp {K : PySem.W.Frag} {H : Hp} : ∀ {v : V} {d : PyData}, Da K H v d → Dp K H v d
  | _, _, .non => .non
  | _, _, .bl b => .bl b
  | _, _, .int i => .int i
  | _, _, .str x => .str x
  | _, _, .lst h hs => .lst (.inl (.inl h)) (DaAll.dp hs)
  | _, _, .tup h hs => .tup h (DaAll.dp hs)
theorem DaAll.dp {K : PySem.W.Frag} {H : Hp} : ∀ {vs : List V} {ds : List PyData}, DaAll K H vs ds → DpAll K H vs ds
  | _, _, .nil => .nil
  | _, _, .cons h hs => .cons (Da.dp h) (DaAll.dp hs)
end

/-! the frame: b, what is data and stands for ever, h, all that is tracked; the things at B may have changed -/
structure Fr (B : List Addr) (b h b' h' : Hp) : Prop where
  base : Same b b'
  sub : Same b' h'
  out : ∀ a, b a = none → (h a).isSome = true → b' a = none
  keep : ∀ a o, b a = none → a ∉ B → h a = some o → h' a = some o
  live : ∀ a, (h a).isSome = true → (h' a).isSome = true
theorem Fr.rfl' {B : List Addr} {b h : Hp} (e : Same b h) : Fr B b h b h := ⟨Same.refl b, e, fun _ h _ => h, fun _ _ _ _ h => h, fun _ h => h⟩
theorem Fr.trans {B : List Addr} {b h b1 h1 b2 h2 : Hp} (x : Fr B b h b1 h1) (y : Fr B b1 h1 b2 h2) : Fr B b h b2 h2 :=
  ⟨x.base.trans y.base, y.sub, fun a n s => y.out a (x.out a n s) (x.live a s), fun a o n hB e => y.keep a o (x.out a n (by rw [e]; rfl)) hB (x.keep a o n hB e), fun a s => y.live a (x.live a s)⟩
theorem Fr.more {B C : List Addr} {b h b1 h1 : Hp} (x : Fr B b h b1 h1) (s : ∀ a, a ∈ B → a ∈ C) : Fr C b h b1 h1 :=
  ⟨x.base, x.sub, x.out, fun a o n hC e => x.keep a o n (fun z => hC (s a z)) e, x.live⟩
theorem Fr.any {B : List Addr} {b h b1 h1 : Hp} (x : Fr [] b h b1 h1) : Fr B b h b1 h1 := x.more fun _ z => by cases z
/-- what was changed behind the beginning, though new there -/
theorem Fr.new {B C : List Addr} {b h b1 h1 b2 h2 : Hp} (x : Fr B b h b1 h1) (y : Fr C b1 h1 b2 h2) (s : ∀ a ∈ C, a ∈ B ∨ h a = none) : Fr B b h b2 h2 :=
  ⟨x.base.trans y.base, y.sub, fun a n z => y.out a (x.out a n z) (x.live a z), fun a o n hB e => y.keep a o (x.out a n (by rw [e]; rfl)) (fun z => by
    rcases s a z with q | q
    · exact hB q
    · rw [q] at e; cases e) (x.keep a o n hB e), fun a z => y.live a (x.live a z)⟩
/-- a new object that is data -/
theorem Fr.laid {B : List Addr} {b h : Hp} {p : Addr} {o : HO} (e : Same b h) (hp : h p = none) : Fr B b h (upd b p o) (upd h p o) := by
  have hb : b p = none := e.free hp
  refine ⟨fun a u z => ?_, fun a u z => ?_, fun a n s => ?_, fun a u n _ z => ?_, fun a s => ?_⟩
  · rw [upd_ne (ne_of_none z hb)]; exact z
  · by_cases q : a = p
    · subst q; rw [upd_same] at z ⊢; exact z
    · rw [upd_ne q] at z ⊢; exact e a u z
  · have q : a ≠ p := by
      intro z; subst z; rw [hp] at s; cases s
    rw [upd_ne q]; exact n
  · rw [upd_ne (ne_of_none z hp)]; exact z
  · by_cases q : a = p
    · subst q; rw [upd_same]; rfl
    · rw [upd_ne q]; exact s
/-- a new object that is none yet -/
theorem Fr.fresh {B : List Addr} {b h : Hp} {p : Addr} {o : HO} (e : Same b h) (hp : h p = none) : Fr B b h b (upd h p o) := by
  have hb : b p = none := e.free hp
  refine ⟨Same.refl b, fun a u z => ?_, fun a n s => n, fun a u n _ z => ?_, fun a s => ?_⟩
  · rw [upd_ne (ne_of_none z hb)]; exact e a u z
  · rw [upd_ne (ne_of_none z hp)]; exact z
  · by_cases q : a = p
    · subst q; rw [upd_same]; rfl
    · rw [upd_ne q]; exact s
/-- a change of what is none -/
theorem Fr.mut {b h : Hp} {p : Addr} {o : HO} (e : Same b h) (hb : b p = none) : Fr [p] b h b (upd h p o) := by
  refine ⟨Same.refl b, fun a u z => ?_, fun a n s => n, fun a u n m z => ?_, fun a s => ?_⟩
  · rw [upd_ne (ne_of_none z hb)]; exact e a u z
  · rw [upd_ne (fun q => m (by rw [q]; exact List.mem_cons_self ..))]; exact z
  · by_cases q : a = p
    · subst q; rw [upd_same]; rfl
    · rw [upd_ne q]; exact s
/-- what was changed becomes data -/
theorem Fr.seal {b h : Hp} {p : Addr} {o : HO} (e : Same b h) (hb : b p = none) (hp : h p = some o) : Same b (upd b p o) ∧ Same (upd b p o) h := by
  refine ⟨fun a u z => ?_, fun a u z => ?_⟩
  · rw [upd_ne (ne_of_none z hb)]; exact z
  · by_cases q : a = p
    · subst q; rw [upd_same] at z; rw [hp]; exact z
    · rw [upd_ne q] at z; exact e a u z

/-! what a slot holds -/
inductive SD where
  | un | dat (d : PyData) | adr (a : Addr)
def SRel (K : PySem.W.Frag) (b : Hp) : Option V → SD → Prop
  | _, .un => True
  | x, .dat d => ∃ v, x = some v ∧ Da K b v d
  | x, .adr a => x = some (.ref a)
inductive Slots (K : PySem.W.Frag) (b : Hp) : St → List SD → Prop
  | nil : Slots K b [] []
  | cons {x : Option V} {σ : St} {z : SD} {Δ : List SD} : SRel K b x z → Slots K b σ Δ → Slots K b (x :: σ) (z :: Δ)
theorem SRel.mono {K : PySem.W.Frag} {b b' : Hp} (e : Same b b') {x : Option V} {z : SD} (h : SRel K b x z) : SRel K b' x z := by
  cases z with
  | un => exact True.intro
  | dat d => obtain ⟨v, e1, e2⟩ := h; exact ⟨v, e1, e2.mono e⟩
  | adr a => exact h
theorem Slots.mono {K : PySem.W.Frag} {b b' : Hp} (e : Same b b') {σ : St} {Δ : List SD} (h : Slots K b σ Δ) : Slots K b' σ Δ := by
  induction h with
  | nil => exact .nil
  | cons h _ ih => exact .cons (h.mono e) ih
theorem Slots.get {K : PySem.W.Frag} {b : Hp} : ∀ {σ : St} {Δ : List SD} {i : Nat} {z : SD}, Slots K b σ Δ → Δ[i]? = some z → ∃ x, σ[i]? = some x ∧ SRel K b x z
  | _, _, _, _, .nil, e => by simp at e
  | _, _, 0, _, .cons h _, e => by simp at e; subst e; exact ⟨_, rfl, h⟩
  | _, _, i + 1, _, .cons _ t, e => by
    obtain ⟨x, h1, h2⟩ := Slots.get (i := i) t (by simpa using e)
    exact ⟨x, by simpa using h1, h2⟩
theorem Slots.set {K : PySem.W.Frag} {b : Hp} {x : Option V} {z : SD} (r : SRel K b x z) : ∀ {σ : St} {Δ : List SD} (i : Nat), Slots K b σ Δ → Slots K b (σ.set i x) (Δ.set i z)
  | _, _, _, .nil => .nil
  | _, _, 0, .cons _ t => .cons r t
  | _, _, i + 1, .cons h t => .cons h (Slots.set r i t)
theorem Slots.len {K : PySem.W.Frag} {b : Hp} {σ : St} {Δ : List SD} (h : Slots K b σ Δ) : σ.length = Δ.length := by
  induction h with
  | nil => rfl
  | cons _ _ ih => exact congrArg Nat.succ ih
def wipeD (Δ : List SD) : List Nat → List SD
  | [] => Δ
  | v :: vs => (wipeD Δ vs).set v .un
theorem Slots.wipe {K : PySem.W.Frag} {b : Hp} {σ : St} {Δ : List SD} (h : Slots K b σ Δ) : ∀ vs : List Nat, Slots K b (wipe σ vs) (wipeD Δ vs)
  | [] => h
  | v :: vs => Slots.set (z := .un) True.intro v (Slots.wipe h vs)
theorem Slots.uns {K : PySem.W.Frag} {b : Hp} : ∀ n : Nat, Slots K b (List.replicate n none) (List.replicate n .un)
  | 0 => .nil
  | n + 1 => .cons True.intro (Slots.uns n)
theorem Slots.app {K : PySem.W.Frag} {b : Hp} {σ τ : St} {Δ Γ : List SD} (h : Slots K b σ Δ) (k : Slots K b τ Γ) : Slots K b (σ ++ τ) (Δ ++ Γ) := by
  induction h with
  | nil => exact k
  | cons h _ ih => exact .cons h ih
theorem Slots.dats {K : PySem.W.Frag} {b : Hp} : ∀ {vs : List V} {ds : List PyData}, DaAll K b vs ds → Slots K b (vs.map some) (ds.map .dat)
  | _, _, .nil => .nil
  | _, _, .cons h t => .cons ⟨_, rfl, h⟩ (Slots.dats t)
theorem Slots.start {K : PySem.W.Frag} {b : Hp} {vs : List V} {ds : List PyData} (h : DaAll K b vs ds) (N : List Str) : Slots K b (start N vs) (ds.map .dat ++ List.replicate (N.length - ds.length) .un) := by
  unfold L2.start
  rw [← h.length]
  exact (Slots.dats h).app (Slots.uns _)

/-! what evaluates to which data, changing nothing -/
section
variable (K : PySem.W.Frag)
def EvD (te : TE) (σ : St) (b : Hp) (d : PyData) : Prop := ∀ b1 h1, Same b b1 → Same b1 h1 → ∀ Q : VK, (∀ v b2 h2, Fr [] b1 h1 b2 h2 → Da K b2 v d → Q v h2) → te σ h1 Q
def EvDs (ta : TA) (σ : St) (b : Hp) (ds : List PyData) : Prop := ∀ b1 h1, Same b b1 → Same b1 h1 → ∀ Q : List V → Hp → Prop, (∀ vs b2 h2, Fr [] b1 h1 b2 h2 → DaAll K b2 vs ds → Q vs h2) → ta σ h1 Q
def RvD (r : R2) (d1 d2 d : PyData) : Prop := ∀ b1 h1, Same b1 h1 → ∀ x y, Da K b1 x d1 → Da K b1 y d2 → ∀ Q : VK, (∀ v b2 h2, Fr [] b1 h1 b2 h2 → Da K b2 v d → Q v h2) → r x y h1 Q
def RcD (r : List V → Hp → VK → Prop) (ds : List PyData) (d : PyData) : Prop := ∀ b1 h1, Same b1 h1 → ∀ xs, DaAll K b1 xs ds → ∀ Q : VK, (∀ v b2 h2, Fr [] b1 h1 b2 h2 → Da K b2 v d → Q v h2) → r xs h1 Q
end
def EvB (tt : TT) (σ : St) (b : Hp) (c : Bool) : Prop := ∀ b1 h1, Same b b1 → Same b1 h1 → ∀ Q : Bool → Hp → Prop, (∀ b2 h2, Fr [] b1 h1 b2 h2 → Q c h2) → tt σ h1 Q
def EvO (to : TO) (σ : St) (b : Hp) (o : Option Int) : Prop := ∀ b1 h1, Same b b1 → Same b1 h1 → ∀ Q : Option Int → Hp → Prop, (∀ b2 h2, Fr [] b1 h1 b2 h2 → Q o h2) → to σ h1 Q

section
variable {K : PySem.W.Frag} {σ : St} {b b' : Hp} {te ta tb tc : TE} {d d1 d2 d3 : PyData} {Δ : List SD} {t u : TT} {r r' : R2} {i j : Int}
theorem EvD.mono (e : Same b b') (h : EvD K te σ b d) : EvD K te σ b' d := fun b1 h1 s z Q q => h b1 h1 (e.trans s) z Q q
theorem EvD.is (h : EvD K te σ b d) (e : d = d1) : EvD K te σ b d1 := e ▸ h
theorem EvB.is {c c' : Bool} (h : EvB t σ b c) (e : c = c') : EvB t σ b c' := e ▸ h
theorem EvD.go (h : EvD K te σ b d) {h1 : Hp} (s : Same b h1) {Q : VK} (q : ∀ v b2 h2, Fr [] b h1 b2 h2 → Da K b2 v d → Q v h2) : te σ h1 Q := h b h1 (Same.refl b) s Q q
theorem d_var {n : Nat} (S : Slots K b σ Δ) (e : Δ[n]? = some (.dat d)) : EvD K (tVar n) σ b d := fun b1 h1 s z Q q => by
  obtain ⟨x, e1, v, e2, e3⟩ := S.get e
  exact ⟨v, by rw [e1, e2], q v b1 h1 (Fr.rfl' z) (e3.mono s)⟩
theorem d_int (i : Int) : EvD K (tC (.int i)) σ b (.int i) := fun b1 h1 _ z Q q => q _ b1 h1 (Fr.rfl' z) (.int i)
theorem d_str (x : Str) : EvD K (tC (.str x)) σ b (.str x) := fun b1 h1 _ z Q q => q _ b1 h1 (Fr.rfl' z) (.str x)
theorem d_bl (x : Bool) : EvD K (tC (.bl x)) σ b (.bool x) := fun b1 h1 _ z Q q => q _ b1 h1 (Fr.rfl' z) (.bl x)
theorem d_non : EvD K (tC .non) σ b .none := fun b1 h1 _ z Q q => q _ b1 h1 (Fr.rfl' z) .non
theorem d_glob {v : V} (h : ∀ H, Da K H v d) : EvD K (tC v) σ b d := fun b1 h1 _ z Q q => q _ b1 h1 (Fr.rfl' z) (h b1)
theorem d_op (ha : EvD K ta σ b d1) (hb : EvD K tb σ b d2) (hr : RvD K r d1 d2 d) : EvD K (tOp r ta tb) σ b d := fun b1 h1 s z Q q =>
  ha b1 h1 s z _ fun x b2 h2 F1 D1 => hb b2 h2 (s.trans F1.base) F1.sub _ fun y b3 h3 F2 D2 => hr b3 h3 F2.sub x y (D1.mono F2.base) D2 Q fun v b4 h4 F3 D3 => q v b4 h4 ((F1.trans F2).trans F3) D3
theorem d_opc {c : Bool} (ha : EvD K ta σ b d1) (hb : EvD K tb σ b d2) (hr : RvD K r d1 d2 (.bool c)) : EvB (tTest (tOp r ta tb)) σ b c := fun b1 h1 s z Q q =>
  d_op ha hb hr b1 h1 s z _ fun v b2 h2 F D => by
    cases D
    exact ⟨c, rfl, q b2 h2 F⟩
theorem rv_I0 {g : Int → Int → Int} : RvD K (rI0 fun i j => .int (g i j)) (.int i) (.int j) (.int (g i j)) := fun b1 h1 z x y X Y Q q => by
  cases X; cases Y
  exact ⟨i, j, rfl, rfl, q _ b1 h1 (Fr.rfl' z) (.int _)⟩
theorem rv_I {C : Int → Int → Prop} {g : Int → Int → Int} (hc : C i j) : RvD K (rI C fun i j => .int (g i j)) (.int i) (.int j) (.int (g i j)) := fun b1 h1 z x y X Y Q q => by
  cases X; cases Y
  exact ⟨i, j, rfl, rfl, hc, q _ b1 h1 (Fr.rfl' z) (.int _)⟩
theorem rv_B0 {g : Int → Int → Bool} : RvD K (rI0 fun i j => .bl (g i j)) (.int i) (.int j) (.bool (g i j)) := fun b1 h1 z x y X Y Q q => by
  cases X; cases Y
  exact ⟨i, j, rfl, rfl, q _ b1 h1 (Fr.rfl' z) (.bl _)⟩
theorem rv_eqI : RvD K rEq (.int i) (.int j) (.bool (decide (i = j))) := fun b1 h1 z x y X Y Q q => by
  cases X; cases Y
  refine ⟨rfl, ?_⟩
  have e : decide (V.int i = V.int j) = decide (i = j) := by
    by_cases h : i = j
    · rw [h, decide_eq_true rfl, decide_eq_true rfl]
    · rw [decide_eq_false h, decide_eq_false fun z => h (V.int.inj z)]
  rw [e]
  exact q _ b1 h1 (Fr.rfl' z) (.bl _)
theorem rv_neI : RvD K rNe (.int i) (.int j) (.bool (!decide (i = j))) := fun b1 h1 z x y X Y Q q => by
  cases X; cases Y
  refine ⟨rfl, ?_⟩
  have e : decide (V.int i = V.int j) = decide (i = j) := by
    by_cases h : i = j
    · rw [h, decide_eq_true rfl, decide_eq_true rfl]
    · rw [decide_eq_false h, decide_eq_false fun z => h (V.int.inj z)]
  rw [e]
  exact q _ b1 h1 (Fr.rfl' z) (.bl _)
theorem rv_eqB {x y : Bool} : RvD K rEq (.bool x) (.bool y) (.bool (x == y)) := fun b1 h1 z _ _ X Y Q q => by
  cases X; cases Y
  refine ⟨rfl, ?_⟩
  have e : decide (V.bl x = V.bl y) = (x == y) := by cases x <;> cases y <;> rfl
  rw [e]
  exact q _ b1 h1 (Fr.rfl' z) (.bl _)
theorem rv_neB {x y : Bool} : RvD K rNe (.bool x) (.bool y) (.bool (!(x == y))) := fun b1 h1 z _ _ X Y Q q => by
  cases X; cases Y
  refine ⟨rfl, ?_⟩
  have e : decide (V.bl x = V.bl y) = (x == y) := by cases x <;> cases y <;> rfl
  rw [e]
  exact q _ b1 h1 (Fr.rfl' z) (.bl _)
theorem rv_eqS {x y : Str} : RvD K rEq (.str x) (.str y) (.bool (decide (x = y))) := fun b1 h1 z _ _ X Y Q q => by
  cases X; cases Y
  refine ⟨rfl, ?_⟩
  have e : decide (V.str x = V.str y) = decide (x = y) := by
    by_cases h : x = y
    · rw [h, decide_eq_true rfl, decide_eq_true rfl]
    · rw [decide_eq_false h, decide_eq_false fun z => h (V.str.inj z)]
  rw [e]
  exact q _ b1 h1 (Fr.rfl' z) (.bl _)
theorem rv_eqN : RvD K rEq .none .none (.bool true) := fun b1 h1 z _ _ X Y Q q => by
  cases X; cases Y
  exact ⟨rfl, q _ b1 h1 (Fr.rfl' z) (.bl _)⟩
theorem rv_isN {c : Bool} (h : ∀ b v, Da K b v d → decide (v = .non) = c) : RvD K (fun x y H Q => y = .non ∧ Q (.bl (decide (x = .non))) H) d .none (.bool c) := fun b1 h1 z _ _ X Y Q q => by
  cases Y
  refine ⟨rfl, ?_⟩
  rw [h _ _ X]
  exact q _ b1 h1 (Fr.rfl' z) (.bl _)
theorem rv_isNot {c : Bool} (h : ∀ b v, Da K b v d → decide (v = .non) = c) : RvD K (fun x y H Q => y = .non ∧ Q (.bl (!decide (x = .non))) H) d .none (.bool (!c)) := fun b1 h1 z _ _ X Y Q q => by
  cases Y
  refine ⟨rfl, ?_⟩
  rw [h _ _ X]
  exact q _ b1 h1 (Fr.rfl' z) (.bl _)
/-- == of data, != of data -/
theorem rv_eqD (h1 : SeqAt.shaped d1 = true) (h2 : SeqAt.shaped d2 = true) : RvD K (rEqD K) d1 d2 (.bool (PyData.eqv d1 d2)) := fun b1 h0 z x y X Y Q q =>
  ⟨d1, d2, (X.mono z).dp, (Y.mono z).dp, h1, h2, q _ b1 h0 (Fr.rfl' z) (.bl _)⟩
theorem rv_neD (h1 : SeqAt.shaped d1 = true) (h2 : SeqAt.shaped d2 = true) : RvD K (rNeD K) d1 d2 (.bool (!PyData.eqv d1 d2)) := fun b1 h0 z x y X Y Q q =>
  ⟨d1, d2, (X.mono z).dp, (Y.mono z).dp, h1, h2, q _ b1 h0 (Fr.rfl' z) (.bl _)⟩
theorem rv_or1 (h : RvD K r d1 d2 d) : RvD K (fun x y H Q => r x y H Q ∨ r' x y H Q) d1 d2 d := fun b1 h1 z x y X Y Q q => .inl (h b1 h1 z x y X Y Q q)
theorem rv_or2 (h : RvD K r' d1 d2 d) : RvD K (fun x y H Q => r x y H Q ∨ r' x y H Q) d1 d2 d := fun b1 h1 z x y X Y Q q => .inr (h b1 h1 z x y X Y Q q)
theorem rv_ixT {ds : List PyData} (h : atI ds i = some d) : RvD K (rIx K) (.tuple ds) (.int i) d := fun b1 h1 z x y X Y Q q => by
  cases Y
  cases X with
  | tup s a =>
    obtain ⟨k, g1, g2⟩ := Option.bind_eq_some_iff.mp (show (ixN ds.length i).bind (fun j => ds[j]?) = some d from h)
    obtain ⟨v, w1, w2⟩ := a.get g2
    refine .inr (.inl ⟨_, _, i, v, rfl, rfl, sqT_mono z s, ?_, q v b1 h1 (Fr.rfl' z) w2⟩)
    unfold atI
    rw [a.length, g1]
    exact w1
theorem rv_ixL {ds : List PyData} (h : atI ds i = some d) : RvD K (rIx K) (.list ds) (.int i) d := fun b1 h1 z x y X Y Q q => by
  cases Y
  cases X with
  | lst s a =>
    obtain ⟨k, g1, g2⟩ := Option.bind_eq_some_iff.mp (show (ixN ds.length i).bind (fun j => ds[j]?) = some d from h)
    obtain ⟨v, w1, w2⟩ := a.get g2
    refine .inl ⟨_, _, i, v, rfl, rfl, .inl (.inl (z _ _ s)), ?_, q v b1 h1 (Fr.rfl' z) w2⟩
    unfold atI
    rw [a.length, g1]
    exact w1
theorem rv_catL {ds es : List PyData} (hz : ds.length + es.length ≤ 100000) : RvD K rCat (.list ds) (.list es) (.list (ds ++ es)) := fun b1 h1 z x y X Y Q q => by
  cases X with
  | lst s a =>
    cases Y with
    | lst s2 a2 =>
      refine ⟨_, _, _, _, rfl, rfl, z _ _ s, z _ _ s2, ?_, fun p hp => ?_⟩
      · rw [a.length, a2.length]; exact Nat.le_trans hz (by decide)
      · exact q _ (upd b1 p (.lst _)) _ (Fr.laid z hp) (.lst upd_same ((a.append a2).mono (Fr.laid (B := []) z hp).base))
theorem rv_catT {ds es : List PyData} (h1 : ds ≠ []) (h2 : es ≠ []) (hz : ds.length + es.length ≤ 100000) : RvD K (rCatT K) (.tuple ds) (.tuple es) (.tuple (ds ++ es)) := fun b1 h0 z x y X Y Q q => by
  cases X with
  | tup s a =>
    cases Y with
    | tup s2 a2 =>
      refine ⟨_, _, _, _, rfl, rfl, sqT_mono z s, sqT_mono z s2, ?_, ?_, fun e => ?_, fun _ p hp => ?_⟩
      · intro e; subst e; cases a; exact h1 rfl
      · rw [a.length, a2.length]; exact Nat.le_trans hz (by decide)
      · subst e; cases a2; exact absurd rfl h2
      · exact q _ (upd b1 p (.tup _)) _ (Fr.laid z hp) (.tup (.inl (.inl upd_same)) ((a.append a2).mono (Fr.laid (B := []) z hp).base))
theorem d_tup {tA : TA} {ds : List PyData} (h : EvDs K tA σ b ds) (hl : ds.length ≤ 100000) : EvD K (tTup tA) σ b (.tuple ds) := fun b1 h1 s z Q q =>
  h b1 h1 s z _ fun vs b2 h2 F D => ⟨Nat.le_trans (by rw [D.length]; exact hl) (by decide), fun p hp =>
    q _ (upd b2 p (.tup vs)) _ (F.trans (Fr.laid F.sub hp)) (.tup (.inl (.inl upd_same)) (D.mono (Fr.laid (B := []) (o := .tup vs) F.sub hp).base))⟩
theorem d_lst {tA : TA} {ds : List PyData} (h : EvDs K tA σ b ds) (hl : ds.length ≤ 100000) : EvD K (tLst tA) σ b (.list ds) := fun b1 h1 s z Q q =>
  h b1 h1 s z _ fun vs b2 h2 F D => ⟨Nat.le_trans (by rw [D.length]; exact hl) (by decide), fun p hp =>
    q _ (upd b2 p (.lst vs)) _ (F.trans (Fr.laid F.sub hp)) (.lst upd_same (D.mono (Fr.laid (B := []) (o := .lst vs) F.sub hp).base))⟩
theorem ds_nil : EvDs K tNil σ b [] := fun b1 h1 _ z Q q => q _ b1 h1 (Fr.rfl' z) .nil
theorem ds_cons {tr : TA} {ds : List PyData} (h : EvD K te σ b d) (hr : EvDs K tr σ b ds) : EvDs K (tCons te tr) σ b (d :: ds) := fun b1 h1 s z Q q =>
  h b1 h1 s z _ fun v b2 h2 F D => hr b2 h2 (s.trans F.base) F.sub _ fun vs b3 h3 F2 D2 => q _ b3 h3 (F.trans F2) (.cons (D.mono F2.base) D2)
theorem d_cb {r : List V → Hp → VK → Prop} {tA : TA} {ds : List PyData} (h : EvDs K tA σ b ds) (hr : RcD K r ds d) : EvD K (tCB r tA) σ b d := fun b1 h1 s z Q q =>
  h b1 h1 s z _ fun vs b2 h2 F D => hr b2 h2 F.sub vs D Q fun v b3 h3 F2 D2 => q v b3 h3 (F.trans F2) D2
theorem d_un {r : V → Hp → VK → Prop} (h : EvD K te σ b d1) (hr : ∀ b1 h1, Same b1 h1 → ∀ x, Da K b1 x d1 → ∀ Q : VK, (∀ v b2 h2, Fr [] b1 h1 b2 h2 → Da K b2 v d → Q v h2) → r x h1 Q) : EvD K (tUn r te) σ b d := fun b1 h1 s z Q q =>
  h b1 h1 s z _ fun x b2 h2 F D => hr b2 h2 F.sub x D Q fun v b3 h3 F2 D2 => q v b3 h3 (F.trans F2) D2
theorem d_neg (h : EvD K te σ b (.int i)) : EvD K (tUn (rU fun i => .int (-i)) te) σ b (.int (-i)) := d_un h fun b1 h1 z x X Q q => by
  cases X
  exact ⟨i, rfl, q _ b1 h1 (Fr.rfl' z) (.int _)⟩
/-! tests -/
theorem b_B {c : Bool} (h : EvD K te σ b (.bool c)) : EvB (tB te) σ b c := fun b1 h1 s z Q q => h b1 h1 s z _ fun v b2 h2 F D => by
  cases D
  exact ⟨c, rfl, q b2 h2 F⟩
theorem b_test {c : Bool} (h : EvD K te σ b (.bool c)) : EvB (tTest te) σ b c := fun b1 h1 s z Q q => h b1 h1 s z _ fun v b2 h2 F D => by
  cases D
  exact ⟨c, rfl, q b2 h2 F⟩
theorem b_and {x y : Bool} (h1 : EvB t σ b x) (h2 : x = true → EvB u σ b y) : EvB (tAnd t u) σ b (x && y) := fun b1 g1 s z Q q => h1 b1 g1 s z _ fun b2 g2 F => by
  cases x with
  | true => exact h2 rfl b2 g2 (s.trans F.base) F.sub Q fun b3 g3 F2 => q b3 g3 (F.trans F2)
  | false => exact q b2 g2 F
theorem b_or {x y : Bool} (h1 : EvB t σ b x) (h2 : x = false → EvB u σ b y) : EvB (tOr t u) σ b (x || y) := fun b1 g1 s z Q q => h1 b1 g1 s z _ fun b2 g2 F => by
  cases x with
  | true => exact q b2 g2 F
  | false => exact h2 rfl b2 g2 (s.trans F.base) F.sub Q fun b3 g3 F2 => q b3 g3 (F.trans F2)
theorem b_not {x : Bool} (h : EvB t σ b x) : EvB (tNot t) σ b (!x) := fun b1 g1 s z Q q => h b1 g1 s z _ fun b2 g2 F => q b2 g2 F
theorem d_andV {x y : Bool} (h1 : EvD K ta σ b (.bool x)) (h2 : x = true → EvD K tb σ b (.bool y)) : EvD K (tAndV ta tb) σ b (.bool (x && y)) := fun b1 g1 s z Q q => h1 b1 g1 s z _ fun v b2 g2 F D => by
  cases D
  refine ⟨x, rfl, ?_⟩
  cases x with
  | true => exact h2 rfl b2 g2 (s.trans F.base) F.sub Q fun v b3 g3 F2 D2 => q v b3 g3 (F.trans F2) D2
  | false => exact q _ b2 g2 F (.bl _)
theorem d_orV {x y : Bool} (h1 : EvD K ta σ b (.bool x)) (h2 : x = false → EvD K tb σ b (.bool y)) : EvD K (tOrV ta tb) σ b (.bool (x || y)) := fun b1 g1 s z Q q => h1 b1 g1 s z _ fun v b2 g2 F D => by
  cases D
  refine ⟨x, rfl, ?_⟩
  cases x with
  | true => exact q _ b2 g2 F (.bl _)
  | false => exact h2 rfl b2 g2 (s.trans F.base) F.sub Q fun v b3 g3 F2 D2 => q v b3 g3 (F.trans F2) D2
theorem d_notV {x : Bool} (h1 : EvD K ta σ b (.bool x)) : EvD K (tNotV ta) σ b (.bool (!x)) := fun b1 g1 s z Q q => h1 b1 g1 s z _ fun v b2 g2 F D => by
  cases D
  exact ⟨x, rfl, q _ b2 g2 F (.bl _)⟩
theorem d_if {c : Bool} (h : EvB t σ b c) (h1 : c = true → EvD K ta σ b d) (h2 : c = false → EvD K tb σ b d) : EvD K (tIf t ta tb) σ b d := fun b1 g1 s z Q q => h b1 g1 s z _ fun b2 g2 F => by
  cases c with
  | true => exact h1 rfl b2 g2 (s.trans F.base) F.sub Q fun v b3 g3 F2 D2 => q v b3 g3 (F.trans F2) D2
  | false => exact h2 rfl b2 g2 (s.trans F.base) F.sub Q fun v b3 g3 F2 D2 => q v b3 g3 (F.trans F2) D2
theorem d_chain {x y : Bool} (ha : EvD K ta σ b d1) (hb : EvD K tb σ b d2) (hc : EvD K tc σ b d3) (hr : RvD K r d1 d2 (.bool x)) (hr' : RvD K r' d2 d3 (.bool y)) : EvD K (tChain r r' ta tb tc) σ b (.bool (x && y)) := fun b1 h1 s z Q q =>
  ha b1 h1 s z _ fun v1 b2 h2 F1 D1 => hb b2 h2 (s.trans F1.base) F1.sub _ fun v2 b3 h3 F2 D2 => hr b3 h3 F2.sub v1 v2 (D1.mono F2.base) D2 _ fun w b4 h4 F3 D3 => by
    cases D3
    refine ⟨x, rfl, ?_⟩
    cases x with
    | true => exact hc b4 h4 (((s.trans F1.base).trans F2.base).trans F3.base) F3.sub _ fun v3 b5 h5 F4 D4 => hr' b5 h5 F4.sub v2 v3 (D2.mono (F3.base.trans F4.base)) D4 Q fun v b6 h6 F5 D5 => q v b6 h6 ((((F1.trans F2).trans F3).trans F4).trans F5) D5
    | false => exact q _ b4 h4 ((F1.trans F2).trans F3) (.bl _)
/-! pieces of slices -/
theorem o_none : EvO tNoPart σ b none := fun b1 h1 _ z Q q => q b1 h1 (Fr.rfl' z)
theorem o_some (h : EvD K te σ b (.int i)) : EvO (tPart te) σ b (some i) := fun b1 h1 s z Q q => h b1 h1 s z _ fun v b2 h2 F D => by
  cases D
  exact ⟨i, rfl, q b2 h2 F⟩
/-! calls of defs that change nothing -/
def spD (K : PySem.W.Frag) (R : List PyData → PyData → Prop) : Sp := fun vs H Q _ => ∃ b ds d, Same b H ∧ DaAll K b vs ds ∧ R ds d ∧ ∀ v b2 h2, Fr [] b H b2 h2 → Da K b2 v d → Q v h2
theorem d_call {R : List PyData → PyData → Prop} {E : XK} {tA : TA} {ds : List PyData} (h : EvDs K tA σ b ds) (hr : R ds d) : EvD K (tCall (spD K R) [] E tA) σ b d := fun b1 h1 s z Q q =>
  h b1 h1 s z _ fun vs b2 h2 F D => by
    show spD K R (vs ++ []) h2 Q E
    rw [List.append_nil]
    exact ⟨b2, ds, d, F.sub, D, hr, fun v b3 h3 F2 D2 => q v b3 h3 (F.trans F2) D2⟩
end
end DV

namespace DV
open PySem L2
section
variable {K : PySem.W.Frag} {σ : St} {b b' : Hp} {te ta tb tc : TE} {d d1 d2 d3 : PyData} {Δ : List SD} {t u : TT} {r r' : R2} {i j : Int}
theorem b_yes : EvB tYes σ b true := fun b1 h1 _ z Q q => q b1 h1 (Fr.rfl' z)
/-! built-ins -/
theorem rc_lenL {ds : List PyData} : RcD K (fun xs H Q => ∃ x n, xs = [x] ∧ LenV K x H n ∧ Q (.int n) H) [.list ds] (.int ds.length) := fun b1 h1 z xs X Q q => by
  cases X with
  | cons x r =>
    cases r
    cases x with
    | lst s a => exact ⟨_, ds.length, rfl, .inl ⟨_, .inl (.inl (z _ _ s)), a.length.symm⟩, q _ b1 h1 (Fr.rfl' z) (.int _)⟩
theorem rc_lenT {ds : List PyData} : RcD K (fun xs H Q => ∃ x n, xs = [x] ∧ LenV K x H n ∧ Q (.int n) H) [.tuple ds] (.int ds.length) := fun b1 h1 z xs X Q q => by
  cases X with
  | cons x r =>
    cases r
    cases x with
    | tup s a => exact ⟨_, ds.length, rfl, .inr ⟨_, sqT_mono z s, a.length.symm⟩, q _ b1 h1 (Fr.rfl' z) (.int _)⟩
theorem rc_lenS {x : Str} (h : x.length ≤ sizeLine) : RcD K (fun xs H Q => ∃ x n, xs = [x] ∧ LenV K x H n ∧ Q (.int n) H) [.str x] (.int x.length) := fun b1 h1 z xs X Q q => by
  cases X with
  | cons y r =>
    cases r
    cases y
    exact ⟨_, x.length, rfl, ⟨h, rfl⟩, q _ b1 h1 (Fr.rfl' z) (.int _)⟩
theorem rc_all {bs : List Bool} : RcD K (rAll K) [.list (bs.map .bool)] (.bool (bs.all id)) := fun b1 h1 z xs X Q q => by
  cases X with
  | cons x r =>
    cases r
    cases x with
    | lst s a =>
      rw [a.bools] at s
      exact ⟨_, bs, rfl, .inl (.inl (z _ _ s)), q _ b1 h1 (Fr.rfl' z) (.bl _)⟩
theorem rc_max : RcD K (fun xs H Q => ∃ i j, xs = [.int i, .int j] ∧ Q (.int (if j > i then j else i)) H) [.int i, .int j] (.int (max i j)) := fun b1 h1 z xs X Q q => by
  cases X with
  | cons x r =>
    cases r with
    | cons y r =>
      cases r; cases x; cases y
      refine ⟨i, j, rfl, q _ b1 h1 (Fr.rfl' z) ?_⟩
      have e : (if j > i then j else i) = max i j := by rw [Int.max_def]; split <;> split <;> omega
      rw [e]
      exact .int _
theorem rc_min : RcD K (fun xs H Q => ∃ i j, xs = [.int i, .int j] ∧ Q (.int (if j < i then j else i)) H) [.int i, .int j] (.int (min i j)) := fun b1 h1 z xs X Q q => by
  cases X with
  | cons x r =>
    cases r with
    | cons y r =>
      cases r; cases x; cases y
      refine ⟨i, j, rfl, q _ b1 h1 (Fr.rfl' z) ?_⟩
      have e : (if j < i then j else i) = min i j := by rw [Int.min_def]; split <;> split <;> omega
      rw [e]
      exact .int _
theorem rc_abs : RcD K (fun xs H Q => ∃ i, xs = [.int i] ∧ Q (.int (if i < 0 then -i else i)) H) [.int i] (.int (if i < 0 then -i else i)) := fun b1 h1 z xs X Q q => by
  cases X with
  | cons x r => cases r; cases x; exact ⟨i, rfl, q _ b1 h1 (Fr.rfl' z) (.int _)⟩
theorem rc_int : RcD K (fun xs H Q => (∃ i, xs = [.int i] ∧ Q (.int i) H) ∨ ∃ k, xs = [.bl k] ∧ Q (.int (if k then 1 else 0)) H) [.int i] (.int i) := fun b1 h1 z xs X Q q => by
  cases X with
  | cons x r => cases r; cases x; exact .inl ⟨i, rfl, q _ b1 h1 (Fr.rfl' z) (.int _)⟩
theorem rc_intB {k : Bool} : RcD K (fun xs H Q => (∃ i, xs = [.int i] ∧ Q (.int i) H) ∨ ∃ k, xs = [.bl k] ∧ Q (.int (if k then 1 else 0)) H) [.bool k] (.int (if k then 1 else 0)) := fun b1 h1 z xs X Q q => by
  cases X with
  | cons x r => cases r; cases x; exact .inr ⟨k, rfl, q _ b1 h1 (Fr.rfl' z) (.int _)⟩
theorem rc_tupL {ds : List PyData} : RcD K (fun xs H Q => ∃ p ys, xs = [.ref p] ∧ ((SqL K H p ys ∧ ∀ l, H l = none → Q (.ref l) (upd H l (.tup ys))) ∨ (SqT K H p ys ∧ Q (.ref p) H))) [.list ds] (.tuple ds) := fun b1 h1 z xs X Q q => by
  cases X with
  | cons x r =>
    cases r
    cases x with
    | lst s a =>
      refine ⟨_, _, rfl, .inl ⟨.inl (.inl (z _ _ s)), fun l hl => ?_⟩⟩
      exact q _ (upd b1 l (.tup _)) _ (Fr.laid z hl) (.tup (.inl (.inl upd_same)) (a.mono (Fr.laid (B := []) z hl).base))
theorem rc_tupT {ds : List PyData} : RcD K (fun xs H Q => ∃ p ys, xs = [.ref p] ∧ ((SqL K H p ys ∧ ∀ l, H l = none → Q (.ref l) (upd H l (.tup ys))) ∨ (SqT K H p ys ∧ Q (.ref p) H))) [.tuple ds] (.tuple ds) := fun b1 h1 z xs X Q q => by
  cases X with
  | cons x r =>
    cases r
    cases x with
    | tup s a => exact ⟨_, _, rfl, .inr ⟨sqT_mono z s, q _ b1 h1 (Fr.rfl' z) (.tup s a)⟩⟩
theorem rc_listT {ds : List PyData} : RcD K (fun xs H Q => ∃ p ys, xs = [.ref p] ∧ (SqL K H p ys ∨ SqT K H p ys) ∧ ∀ l, H l = none → Q (.ref l) (upd H l (.lst ys))) [.tuple ds] (.list ds) := fun b1 h1 z xs X Q q => by
  cases X with
  | cons x r =>
    cases r
    cases x with
    | tup s a =>
      refine ⟨_, _, rfl, .inr (sqT_mono z s), fun l hl => ?_⟩
      exact q _ (upd b1 l (.lst _)) _ (Fr.laid z hl) (.lst upd_same (a.mono (Fr.laid (B := []) z hl).base))
theorem rc_listL {ds : List PyData} : RcD K (fun xs H Q => ∃ p ys, xs = [.ref p] ∧ (SqL K H p ys ∨ SqT K H p ys) ∧ ∀ l, H l = none → Q (.ref l) (upd H l (.lst ys))) [.list ds] (.list ds) := fun b1 h1 z xs X Q q => by
  cases X with
  | cons x r =>
    cases r
    cases x with
    | lst s a =>
      refine ⟨_, _, rfl, .inl (.inl (.inl (z _ _ s))), fun l hl => ?_⟩
      exact q _ (upd b1 l (.lst _)) _ (Fr.laid z hl) (.lst upd_same (a.mono (Fr.laid (B := []) z hl).base))
/-! isinstance -/
def tyN : PyData → String
  | .none => "NoneType" | .bool _ => "bool" | .int _ => "int" | .str _ => "str" | .list _ => "list" | .tuple _ => "tuple" | .dict _ => "dict"
theorem tyx_of {v : V} (h : Da K b v d) : TyX K b v (.type (tyN d)) := by
  cases h with
  | non => exact .base .non
  | bl x => exact .base (.bl x)
  | int x => exact .base (.int x)
  | str x => exact .base (.str x)
  | lst s a => exact .base (.lst s)
  | tup s a =>
    rcases s with (s | ⟨o, s⟩) | ⟨o, its, n, e, c, _⟩
    · exact .base (.tup s)
    · exact .fTuple s
    · exact .kTuple e c
theorem d_isi {T : String} {r : Bool} (h : EvD K te σ b d) (hk : kitB (tyN d) T = some r) : EvD K (tCB (rIsi K) (tCons te (tCons (tC (.ty T)) tNil))) σ b (.bool r) := fun b1 h1 s z Q q =>
  h b1 h1 s z _ fun v b2 h2 F D => ⟨v, .ty T, _, _, r, rfl, .ty T, tyx_of (D.mono F.sub), kit_ty hk, q _ b2 h2 F (.bl r)⟩
theorem d_isi2 {T U : String} {r1 r2 : Bool} (h : EvD K te σ b d) (h1 : kitB (tyN d) T = some r1) (h2 : kitB (tyN d) U = some r2) :
    EvD K (tCB (rIsiT K) (tCons te (tCons (tTup (tCons (tC (.ty T)) (tCons (tC (.ty U)) tNil))) tNil))) σ b (.bool (r1 || r2)) := fun b1 g1 s z Q q =>
  h b1 g1 s z _ fun v b2 g2 F D => ⟨by show 2 ≤ sizeLine; decide, fun p hp => by
    have F2 : Fr [] b2 g2 (upd b2 p (.tup [.ty T, .ty U])) (upd g2 p (.tup [.ty T, .ty U])) := Fr.laid F.sub hp
    refine ⟨v, p, [.ty T, .ty U], _, [.type T, .type U], r1 || r2, rfl, upd_same, .cons (.ty T) (.cons (.ty U) .nil), tyx_of ((D.mono F2.base).mono F2.sub), ?_, q _ _ _ (F.trans F2) (.bl _)⟩
    refine kitAny_cons (kit_ty h1) (fun e => ?_) (fun e => by rw [e]; rfl)
    subst e
    refine kitAny_cons (kit_ty h2) (fun e => ?_) (fun e => by rw [e]; rfl)
    subst e
    exact kitAny_nil⟩
/-! comprehensions -/
def upto (f : PyData → Bool) (g : PyData → PyData) (ds : List PyData) (n : Nat) : List PyData := ((ds.take n).filter f).map g
theorem upto_yes {f : PyData → Bool} {g : PyData → PyData} {ds : List PyData} {n : Nat} (h : ds[n]? = some d) (hf : f d = true) : upto f g ds (n + 1) = upto f g ds n ++ [g d] := by
  unfold upto
  rw [List.take_add_one, h, List.filter_append, List.map_append]
  simp [hf]
theorem upto_no {f : PyData → Bool} {g : PyData → PyData} {ds : List PyData} {n : Nat} (h : ds[n]? = some d) (hf : f d = false) : upto f g ds (n + 1) = upto f g ds n := by
  unfold upto
  rw [List.take_add_one, h, List.filter_append, List.map_append]
  simp [hf]
theorem upto_len (f : PyData → Bool) (g : PyData → PyData) (ds : List PyData) (n : Nat) : (upto f g ds n).length ≤ ds.length := by
  unfold upto
  rw [List.length_map]
  exact Nat.le_trans (List.length_filter_le _ _) (by rw [List.length_take]; omega)
def Cv (K : PySem.W.Frag) (b h : Hp) (es : Nat → List PyData) (Dl : Addr) (n : Nat) (h' : Hp) : Prop := h Dl = none ∧ ∃ b' acc, Fr [] b h b' h' ∧ b' Dl = none ∧ h' Dl = some (.lst acc) ∧ DaAll K b' acc (es n)
theorem cv_0 {h : Hp} {es : Nat → List PyData} {Dl : Addr} (z : Same b h) (hD : h Dl = none) (h0 : es 0 = []) : Cv K b h es Dl 0 (upd h Dl (.lst [])) :=
  ⟨hD, b, [], Fr.fresh z hD, z.free hD, upd_same, by rw [h0]; exact .nil⟩
theorem cv_turn {h h' : Hp} {es : Nat → List PyData} {Dl : Addr} {n : Nat} {σ2 : St} {f : Bool} (p : Cv K b h es Dl n h')
    (ht : ∀ b2, Fr [] b h b2 h' → EvB t σ2 b2 f) (he : ∀ b2, Fr [] b h b2 h' → f = true → ∃ d, EvD K te σ2 b2 d ∧ es (n + 1) = es n ++ [d]) (hn : f = false → es (n + 1) = es n) (hl : (es n).length < 100000) :
    t σ2 h' fun c h3 => if c = true then te σ2 h3 fun y h4 => ∃ acc, h4 Dl = some (.lst acc) ∧ acc.length < sizeLine ∧ Cv K b h es Dl (n + 1) (upd h4 Dl (.lst (acc ++ [y]))) else Cv K b h es Dl (n + 1) h3 := by
  obtain ⟨hD, b', acc, F, bD, hA, DA⟩ := p
  refine ht b' F b' h' (Same.refl b') F.sub _ fun b3 h3 F3 => ?_
  have a3 : h3 Dl = some (.lst acc) := F3.keep Dl _ bD (by intro q; cases q) hA
  have n3 : b3 Dl = none := F3.out Dl bD (by rw [hA]; rfl)
  cases f with
  | true =>
    obtain ⟨d, hd, e⟩ := he b' F rfl
    refine hd b3 h3 F3.base F3.sub _ fun y b4 h4 F4 D4 => ⟨acc, F4.keep Dl _ n3 (by intro q; cases q) a3, ?_, hD, b4, acc ++ [y], ?_, ?_, upd_same, ?_⟩
    · rw [DA.length]; exact Nat.lt_of_lt_of_le hl (by decide)
    · exact ((F.trans F3).trans F4).new (Fr.mut F4.sub (F4.out Dl n3 (by rw [a3]; rfl))) fun a m => .inr (by
        have : a = Dl := by simpa using m
        rw [this]; exact hD)
    · exact F4.out Dl n3 (by rw [a3]; rfl)
    · rw [e]
      exact (DA.mono (F3.base.trans F4.base)).append (.cons D4 .nil)
  | false =>
    exact ⟨hD, b3, acc, F.trans F3, n3, a3, by rw [hn rfl]; exact DA.mono F3.base⟩
theorem wipe1 {v : Nat} {x : Option V} : wipe ((wipe σ [v]).set v x) [v] = wipe σ [v] := by
  show ((σ.set v none).set v x).set v none = σ.set v none
  rw [List.set_set, List.set_set]
theorem d_lcL {tl : TE} {n : Nat} {vs : List Nat} {ds : List PyData} (f : PyData → Bool) (g : PyData → PyData) (S : Slots K b σ Δ) (h : EvD K tl σ b (.list ds)) (hz : ds.length ≤ 90000) (hw : ∀ x, wipe ((wipe σ vs).set n (some x)) vs = wipe σ vs)
    (ht : ∀ (m : Nat) d σ2 b2, ds[m]? = some d → Same b b2 → Slots K b2 σ2 ((wipeD Δ vs).set n (.dat d)) → EvB t σ2 b2 (f d) ∧ (f d = true → EvD K te σ2 b2 (g d))) :
    EvD K (tLc (iList K tl) (gName n) t te vs) σ b (.list ((ds.filter f).map g)) := fun b1 h1 s z Q q =>
  h b1 h1 s z _ fun v b2 h2 F D => by
    cases D with
    | @lst a xs _ sa da =>
      refine ⟨a, rfl, ⟨xs, .inl (.inl (F.sub _ _ sa))⟩, fun Dl hD => ?_⟩
      refine lc_list (xs := xs) (Cv K b2 h2 (upto f g ds) Dl) (cv_0 F.sub hD (by unfold upto; rfl)) (fun i H' _ p => ?_) (fun i x H' hi p => ⟨hw x, ?_⟩) (fun H' p => ?_)
      · obtain ⟨_, b', acc, F2, _⟩ := p
        exact .inl (.inl (F2.sub _ _ (F2.base _ _ sa)))
      · obtain ⟨d, e, dd⟩ := da.at hi
        have hl : (upto f g ds i).length < 100000 := by have := upto_len f g ds i; omega
        have SS : ∀ b3, Fr [] b2 h2 b3 H' → EvB t ((wipe σ vs).set n (some x)) b3 (f d) ∧ (f d = true → EvD K te ((wipe σ vs).set n (some x)) b3 (g d)) := fun b3 F3 =>
          ht i d _ b3 e ((s.trans F.base).trans F3.base) (((S.mono ((s.trans F.base).trans F3.base)).wipe vs).set (z := .dat d) ⟨x, rfl, dd.mono F3.base⟩ n)
        exact cv_turn p (fun b3 F3 => (SS b3 F3).1) (fun b3 F3 hf => ⟨g d, (SS b3 F3).2 hf, upto_yes e hf⟩) (fun hf => upto_no e hf) hl
      · obtain ⟨_, b', acc, F2, bD, hA, DA⟩ := p
        have e : upto f g ds xs.length = (ds.filter f).map g := by unfold upto; rw [da.length, List.take_length]
        rw [e] at DA
        obtain ⟨s1, s2⟩ := Fr.seal F2.sub bD hA
        refine q (.ref Dl) (upd b' Dl (.lst acc)) H' (F.trans ⟨F2.base.trans s1, s2, fun c n m => ?_, F2.keep, F2.live⟩) (.lst upd_same (DA.mono s1))
        have hc : c ≠ Dl := by intro e; subst e; rw [hD] at m; cases m
        rw [upd_ne hc]
        exact F2.out c n m
theorem d_lcT {tl : TE} {n : Nat} {vs : List Nat} {ds : List PyData} (f : PyData → Bool) (g : PyData → PyData) (S : Slots K b σ Δ) (h : EvD K tl σ b (.tuple ds)) (hz : ds.length ≤ 90000) (hw : ∀ x, wipe ((wipe σ vs).set n (some x)) vs = wipe σ vs)
    (ht : ∀ (m : Nat) d σ2 b2, ds[m]? = some d → Same b b2 → Slots K b2 σ2 ((wipeD Δ vs).set n (.dat d)) → EvB t σ2 b2 (f d) ∧ (f d = true → EvD K te σ2 b2 (g d))) :
    EvD K (tLc (iTup K tl) (gName n) t te vs) σ b (.list ((ds.filter f).map g)) := fun b1 h1 s z Q q =>
  h b1 h1 s z _ fun v b2 h2 F D => by
    cases D with
    | @tup a xs _ sa da =>
      refine ⟨a, rfl, ⟨xs, sqT_mono F.sub sa⟩, fun Dl hD => ?_⟩
      refine lc_tup (xs := xs) (Cv K b2 h2 (upto f g ds) Dl) (cv_0 F.sub hD (by unfold upto; rfl)) (fun i H' _ p => ?_) (fun i x H' hi p => ⟨hw x, ?_⟩) (fun H' p => ?_)
      · obtain ⟨_, b', acc, F2, _⟩ := p
        exact sqT_mono (F2.base.trans F2.sub) sa
      · obtain ⟨d, e, dd⟩ := da.at hi
        have hl : (upto f g ds i).length < 100000 := by have := upto_len f g ds i; omega
        have SS : ∀ b3, Fr [] b2 h2 b3 H' → EvB t ((wipe σ vs).set n (some x)) b3 (f d) ∧ (f d = true → EvD K te ((wipe σ vs).set n (some x)) b3 (g d)) := fun b3 F3 =>
          ht i d _ b3 e ((s.trans F.base).trans F3.base) (((S.mono ((s.trans F.base).trans F3.base)).wipe vs).set (z := .dat d) ⟨x, rfl, dd.mono F3.base⟩ n)
        exact cv_turn p (fun b3 F3 => (SS b3 F3).1) (fun b3 F3 hf => ⟨g d, (SS b3 F3).2 hf, upto_yes e hf⟩) (fun hf => upto_no e hf) hl
      · obtain ⟨_, b', acc, F2, bD, hA, DA⟩ := p
        have e : upto f g ds xs.length = (ds.filter f).map g := by unfold upto; rw [da.length, List.take_length]
        rw [e] at DA
        obtain ⟨s1, s2⟩ := Fr.seal F2.sub bD hA
        refine q (.ref Dl) (upd b' Dl (.lst acc)) H' (F.trans ⟨F2.base.trans s1, s2, fun c n m => ?_, F2.keep, F2.live⟩) (.lst upd_same (DA.mono s1))
        have hc : c ≠ Dl := by intro e; subst e; rw [hD] at m; cases m
        rw [upd_ne hc]
        exact F2.out c n m
def rng (lo : Int) (n : Nat) : List PyData := (List.range n).map fun (i : Nat) => PyData.int (lo + (i : Int))
theorem rng_len (lo : Int) (n : Nat) : (rng lo n).length = n := by unfold rng; rw [List.length_map, List.length_range]
theorem rng_at {lo : Int} {n m : Nat} (h : m < n) : (rng lo n)[m]? = some (.int (lo + (m : Int))) := by
  unfold rng
  rw [List.getElem?_map, List.getElem?_range h]
  rfl
theorem lcR_core {lo : Int} {k n : Nat} {vs : List Nat} (f : PyData → Bool) (g : PyData → PyData) (S : Slots K b σ Δ) (hz : k ≤ 90000) (hw : ∀ x, wipe ((wipe σ vs).set n (some x)) vs = wipe σ vs)
    (ht : ∀ (m : Nat) σ2 b2, m < k → Same b b2 → Slots K b2 σ2 ((wipeD Δ vs).set n (.dat (.int (lo + (m : Int))))) → EvB t σ2 b2 (f (.int (lo + (m : Int)))) ∧ (f (.int (lo + (m : Int))) = true → EvD K te σ2 b2 (g (.int (lo + (m : Int))))))
    {b1 h1 : Hp} (s : Same b b1) (z : Same b1 h1) {Q : VK} (q : ∀ v b2 h2, Fr [] b1 h1 b2 h2 → Da K b2 v (.list (((rng lo k).filter f).map g)) → Q v h2) {b2 h2 : Hp} (F : Fr [] b1 h1 b2 h2) (Dl : Addr) (hD : h2 Dl = none) :
    ∃ W : Nat → Nat → Hp → Prop, (∃ m, W 0 m (upd h2 Dl (.lst []))) ∧ ∀ i m H, W i m H →
      ((Itr lo k).stop i H ∧ Q (.ref Dl) H) ∨ ((Itr lo k).go i H ∧ ∃ Nx : Hp → Prop, (∀ H', Nx H' → ∃ m', m' < m ∧ W (i + 1) m' H') ∧ ∀ x H', (Itr lo k).yld i H x H' → gName n x (wipe σ vs) H' fun σ2 H2 => wipe σ2 vs = wipe σ vs ∧ t σ2 H2 fun b H3 =>
        if b = true then te σ2 H3 fun y H4 => ∃ acc, H4 Dl = some (.lst acc) ∧ acc.length < sizeLine ∧ Nx (upd H4 Dl (.lst (acc ++ [y]))) else Nx H3) := by
  refine lc_range (Cv K b2 h2 (upto f g (rng lo k)) Dl) (cv_0 F.sub hD (by unfold upto; rfl)) (fun i H' hi p => ⟨hw _, ?_⟩) (fun H' p => ?_)
  · have hl : (upto f g (rng lo k) i).length < 100000 := by have := upto_len f g (rng lo k) i; rw [rng_len] at this; omega
    have e := rng_at (lo := lo) hi
    have SS : ∀ b3, Fr [] b2 h2 b3 H' → EvB t ((wipe σ vs).set n (some (.int (lo + (i : Int))))) b3 (f (.int (lo + (i : Int)))) ∧ (f (.int (lo + (i : Int))) = true → EvD K te ((wipe σ vs).set n (some (.int (lo + (i : Int))))) b3 (g (.int (lo + (i : Int))))) := fun b3 F3 =>
      ht i _ b3 hi ((s.trans F.base).trans F3.base) (((S.mono ((s.trans F.base).trans F3.base)).wipe vs).set (z := .dat (.int (lo + (i : Int)))) ⟨_, rfl, .int _⟩ n)
    exact cv_turn p (fun b3 F3 => (SS b3 F3).1) (fun b3 F3 hf => ⟨_, (SS b3 F3).2 hf, upto_yes e hf⟩) (fun hf => upto_no e hf) hl
  · obtain ⟨_, b', acc, F2, bD, hA, DA⟩ := p
    have e : upto f g (rng lo k) k = ((rng lo k).filter f).map g := by
      unfold upto
      rw [show (rng lo k).take k = rng lo k by rw [List.take_of_length_le (by rw [rng_len]; exact Nat.le_refl _)]]
    rw [e] at DA
    obtain ⟨s1, s2⟩ := Fr.seal F2.sub bD hA
    refine q (.ref Dl) (upd b' Dl (.lst acc)) H' (F.trans ⟨F2.base.trans s1, s2, fun c n m => ?_, F2.keep, F2.live⟩) (.lst upd_same (DA.mono s1))
    have hc : c ≠ Dl := by intro e; subst e; rw [hD] at m; cases m
    rw [upd_ne hc]
    exact F2.out c n m
theorem d_lcR1 {tA : TA} {n : Nat} {vs : List Nat} {k : Int} (f : PyData → Bool) (g : PyData → PyData) (S : Slots K b σ Δ) (h : EvDs K tA σ b [.int k]) (hz : k ≤ 90000) (hk : -90000 ≤ k) (hw : ∀ x, wipe ((wipe σ vs).set n (some x)) vs = wipe σ vs)
    (ht : ∀ (m : Nat) σ2 b2, (m : Int) < k → Same b b2 → Slots K b2 σ2 ((wipeD Δ vs).set n (.dat (.int (0 + (m : Int))))) → EvB t σ2 b2 (f (.int (0 + (m : Int)))) ∧ (f (.int (0 + (m : Int))) = true → EvD K te σ2 b2 (g (.int (0 + (m : Int)))))) :
    EvD K (tLc (iRng1 tA) (gName n) t te vs) σ b (.list (((rng 0 k.toNat).filter f).map g)) := fun b1 h1 s z Q q =>
  h b1 h1 s z _ fun v b2 h2 F D => by
    cases D with
    | cons x r =>
      cases r; cases x
      refine ⟨k, rfl, by omega, by omega, fun Dl hD => lcR_core f g S (by omega) hw (fun m σ2 b2 hm => ht m σ2 b2 (by omega)) s z q F Dl hD⟩
theorem d_lcR2 {tA : TA} {n : Nat} {vs : List Nat} {lo k : Int} (f : PyData → Bool) (g : PyData → PyData) (S : Slots K b σ Δ) (h : EvDs K tA σ b [.int lo, .int k]) (hz : k - lo ≤ 90000) (hk : -1000000 ≤ lo ∧ lo ≤ 1000000 ∧ -1000000 ≤ k ∧ k ≤ 1000000) (hw : ∀ x, wipe ((wipe σ vs).set n (some x)) vs = wipe σ vs)
    (ht : ∀ (m : Nat) σ2 b2, lo + (m : Int) < k → Same b b2 → Slots K b2 σ2 ((wipeD Δ vs).set n (.dat (.int (lo + (m : Int))))) → EvB t σ2 b2 (f (.int (lo + (m : Int)))) ∧ (f (.int (lo + (m : Int))) = true → EvD K te σ2 b2 (g (.int (lo + (m : Int)))))) :
    EvD K (tLc (iRng2 tA) (gName n) t te vs) σ b (.list (((rng lo (k - lo).toNat).filter f).map g)) := fun b1 h1 s z Q q =>
  h b1 h1 s z _ fun v b2 h2 F D => by
    cases D with
    | cons x r =>
      cases r with
      | cons y r =>
        cases r; cases x; cases y
        refine ⟨lo, k, rfl, ⟨by omega, by omega, by omega, by omega⟩, fun Dl hD => lcR_core f g S (by omega) hw (fun m σ2 b2 hm => ht m σ2 b2 (by omega)) s z q F Dl hD⟩
end
end DV

namespace DV
open PySem L2
/-! the state of a body: from (b0, h0) on with the things at B changed -/
structure S (K : PySem.W.Frag) (B : List Addr) (b0 h0 : Hp) (σ : St) (b h : Hp) (Δ : List SD) : Prop where
  fr : Fr B b0 h0 b h
  sl : Slots K b σ Δ
section
variable {K : PySem.W.Frag} {B : List Addr} {b0 h0 : Hp} {σ : St} {b b' h : Hp} {te ta tb tc : TE} {d d1 d2 d3 : PyData} {Δ : List SD} {t u : TT} {r r' : R2} {i j : Int} {D : Ends} {tu tw tz : TS}
theorem S.sub (Z : S K B b0 h0 σ b h Δ) : Same b h := Z.fr.sub
theorem S.go {b2 h2 : Hp} (Z : S K B b0 h0 σ b h Δ) (F : Fr [] b h b2 h2) : S K B b0 h0 σ b2 h2 Δ := ⟨Z.fr.trans F.any, Z.sl.mono F.base⟩
theorem S.set {n : Nat} {v : V} {b2 h2 : Hp} (Z : S K B b0 h0 σ b h Δ) (F : Fr [] b h b2 h2) (dd : Da K b2 v d) : S K B b0 h0 (σ.set n (some v)) b2 h2 (Δ.set n (.dat d)) :=
  ⟨Z.fr.trans F.any, (Z.sl.mono F.base).set (z := .dat d) ⟨v, rfl, dd⟩ n⟩
theorem S.init {vs : List V} {ds : List PyData} (e : Same b h) (hd : DaAll K b vs ds) (N : List Str) : S K B b h (start N vs) b h (ds.map .dat ++ List.replicate (N.length - ds.length) .un) := ⟨Fr.rfl' e, Slots.start hd N⟩
theorem s_asg {n : Nat} (Z : S K B b0 h0 σ b h Δ) (he : EvD K te σ b d) (k : ∀ σ2 b2 h2, Fr [] b h b2 h2 → S K B b0 h0 σ2 b2 h2 (Δ.set n (.dat d)) → D.nx σ2 h2) : tAsg te (gName n) D σ h :=
  he.go Z.sub fun v b2 h2 F dd => k _ b2 h2 F (Z.set F dd)
theorem q_asg {n : Nat} (Z : S K B b0 h0 σ b h Δ) (he : EvD K te σ b d) (k : ∀ σ2 b2 h2, Fr [] b h b2 h2 → S K B b0 h0 σ2 b2 h2 (Δ.set n (.dat d)) → tz D σ2 h2) : tSeq (tAsg te (gName n)) tz D σ h :=
  s_asg (D := { D with nx := tz D }) Z he k
theorem s_if {c : Bool} (Z : S K B b0 h0 σ b h Δ) (hb : EvB t σ b c) (h1 : c = true → ∀ b2 h2, Fr [] b h b2 h2 → S K B b0 h0 σ b2 h2 Δ → tu D σ h2) (h2 : c = false → ∀ b2 h2, Fr [] b h b2 h2 → S K B b0 h0 σ b2 h2 Δ → tw D σ h2) : tIfS t tu tw D σ h :=
  hb b h (Same.refl b) Z.sub _ fun b2 g2 F => by
    cases c with
    | true => exact h1 rfl b2 g2 F (Z.go F)
    | false => exact h2 rfl b2 g2 F (Z.go F)
theorem q_if {c : Bool} (Z : S K B b0 h0 σ b h Δ) (hb : EvB t σ b c) (h1 : c = true → ∀ b2 h2, Fr [] b h b2 h2 → S K B b0 h0 σ b2 h2 Δ → tu { D with nx := tz D } σ h2) (h2 : c = false → ∀ b2 h2, Fr [] b h b2 h2 → S K B b0 h0 σ b2 h2 Δ → tw { D with nx := tz D } σ h2) : tSeq (tIfS t tu tw) tz D σ h :=
  s_if (D := { D with nx := tz D }) Z hb h1 h2
/-- an if without else -/
theorem q_when {c : Bool} (Z : S K B b0 h0 σ b h Δ) (hb : EvB t σ b c) (h1 : c = true → ∀ b2 h2, Fr [] b h b2 h2 → S K B b0 h0 σ b2 h2 Δ → tu { D with nx := tz D } σ h2) (h2 : c = false → ∀ b2 h2, Fr [] b h b2 h2 → S K B b0 h0 σ b2 h2 Δ → tz D σ h2) : tSeq (tIfS t tu tNext) tz D σ h :=
  q_if Z hb h1 h2
theorem s_when {c : Bool} (Z : S K B b0 h0 σ b h Δ) (hb : EvB t σ b c) (h1 : c = true → ∀ b2 h2, Fr [] b h b2 h2 → S K B b0 h0 σ b2 h2 Δ → tu D σ h2) (h2 : c = false → ∀ b2 h2, Fr [] b h b2 h2 → S K B b0 h0 σ b2 h2 Δ → D.nx σ h2) : tIfS t tu tNext D σ h :=
  s_if Z hb h1 h2
theorem s_ret (Z : S K B b0 h0 σ b h Δ) (he : EvD K te σ b d) (k : ∀ v b2 h2, Fr B b0 h0 b2 h2 → Da K b2 v d → D.rt v h2) : tRet te D σ h := he.go Z.sub fun v b2 h2 F dd => k v b2 h2 (Z.fr.trans F.any) dd
/-- a, b, c = a tuple -/
theorem g_tup3 {n1 n2 n3 : Nat} {v : V} {Q : St → Hp → Prop} (Z : S K B b0 h0 σ b h Δ) (dd : Da K b v (.tuple [d1, d2, d3])) (k : ∀ σ2, S K B b0 h0 σ2 b h (((Δ.set n1 (.dat d1)).set n2 (.dat d2)).set n3 (.dat d3)) → Q σ2 h) : gTup K 3 (gCons (gName n1) (gCons (gName n2) (gCons (gName n3) gNil))) v σ h Q := by
  cases dd with
  | tup s a =>
    cases a with
    | cons x1 r =>
      cases r with
      | cons x2 r =>
        cases r with
        | cons x3 r =>
          cases r
          exact ⟨_, _, rfl, sqT_mono Z.sub s, rfl, _, _, rfl, _, _, rfl, _, _, rfl, rfl, k _ ⟨Z.fr, ((Z.sl.set (z := .dat d1) ⟨_, rfl, x1⟩ n1).set (z := .dat d2) ⟨_, rfl, x2⟩ n2).set (z := .dat d3) ⟨_, rfl, x3⟩ n3⟩⟩
theorem g_tup2 {n1 n2 : Nat} {v : V} {Q : St → Hp → Prop} (Z : S K B b0 h0 σ b h Δ) (dd : Da K b v (.tuple [d1, d2])) (k : ∀ σ2, S K B b0 h0 σ2 b h ((Δ.set n1 (.dat d1)).set n2 (.dat d2)) → Q σ2 h) : gTup K 2 (gCons (gName n1) (gCons (gName n2) gNil)) v σ h Q := by
  cases dd with
  | tup s a =>
    cases a with
    | cons x1 r =>
      cases r with
      | cons x2 r =>
        cases r
        exact ⟨_, _, rfl, sqT_mono Z.sub s, rfl, _, _, rfl, _, _, rfl, rfl, k _ ⟨Z.fr, (Z.sl.set (z := .dat d1) ⟨_, rfl, x1⟩ n1).set (z := .dat d2) ⟨_, rfl, x2⟩ n2⟩⟩
theorem q_tup3 {n1 n2 n3 : Nat} (Z : S K B b0 h0 σ b h Δ) (he : EvD K te σ b (.tuple [d1, d2, d3])) (k : ∀ σ2 b2 h2, Fr [] b h b2 h2 → S K B b0 h0 σ2 b2 h2 (((Δ.set n1 (.dat d1)).set n2 (.dat d2)).set n3 (.dat d3)) → tz D σ2 h2) :
    tSeq (tAsg te (gTup K 3 (gCons (gName n1) (gCons (gName n2) (gCons (gName n3) gNil))))) tz D σ h :=
  he.go Z.sub fun v b2 h2 F dd => g_tup3 (Z.go F) dd fun σ2 Z2 => k σ2 b2 h2 F Z2
theorem q_tup2 {n1 n2 : Nat} (Z : S K B b0 h0 σ b h Δ) (he : EvD K te σ b (.tuple [d1, d2])) (k : ∀ σ2 b2 h2, Fr [] b h b2 h2 → S K B b0 h0 σ2 b2 h2 ((Δ.set n1 (.dat d1)).set n2 (.dat d2)) → tz D σ2 h2) :
    tSeq (tAsg te (gTup K 2 (gCons (gName n1) (gCons (gName n2) gNil)))) tz D σ h :=
  he.go Z.sub fun v b2 h2 F dd => g_tup2 (Z.go F) dd fun σ2 Z2 => k σ2 b2 h2 F Z2
theorem q_par {n1 n2 : Nat} {tA : TA} (Z : S K B b0 h0 σ b h Δ) (he : EvDs K tA σ b [d1, d2]) (k : ∀ σ2 b2 h2, Fr [] b h b2 h2 → S K B b0 h0 σ2 b2 h2 ((Δ.set n1 (.dat d1)).set n2 (.dat d2)) → tz D σ2 h2) : tSeq (tPar n1 n2 tA) tz D σ h :=
  he b h (Same.refl b) Z.sub _ fun vs b2 h2 F dd => by
    cases dd with
    | cons x1 r =>
      cases r with
      | cons x2 r =>
        cases r
        exact ⟨_, _, rfl, k _ b2 h2 F ⟨Z.fr.trans F.any, ((Z.sl.mono F.base).set (z := .dat d1) ⟨_, rfl, x1⟩ n1).set (z := .dat d2) ⟨_, rfl, x2⟩ n2⟩⟩
theorem s_par {n1 n2 : Nat} {tA : TA} (Z : S K B b0 h0 σ b h Δ) (he : EvDs K tA σ b [d1, d2]) (k : ∀ σ2 b2 h2, Fr [] b h b2 h2 → S K B b0 h0 σ2 b2 h2 ((Δ.set n1 (.dat d1)).set n2 (.dat d2)) → D.nx σ2 h2) : tPar n1 n2 tA D σ h :=
  he b h (Same.refl b) Z.sub _ fun vs b2 h2 F dd => by
    cases dd with
    | cons x1 r =>
      cases r with
      | cons x2 r =>
        cases r
        exact ⟨_, _, rfl, k _ b2 h2 F ⟨Z.fr.trans F.any, ((Z.sl.mono F.base).set (z := .dat d1) ⟨_, rfl, x1⟩ n1).set (z := .dat d2) ⟨_, rfl, x2⟩ n2⟩⟩
theorem s_aug {n : Nat} {f : Int → Int → Int} {x y : Int} (Z : S K B b0 h0 σ b h Δ) (hx : Δ[n]? = some (.dat (.int x))) (he : EvD K te σ b (.int y)) (k : ∀ σ2 b2 h2, Fr [] b h b2 h2 → S K B b0 h0 σ2 b2 h2 (Δ.set n (.dat (.int (f x y)))) → D.nx σ2 h2) : tAug n te (ipI f) D σ h := by
  obtain ⟨w, e1, v, e2, e3⟩ := Z.sl.get hx
  cases e3
  refine ⟨.int x, by rw [e1, e2], he.go Z.sub fun v b2 h2 F dd => ?_⟩
  cases dd
  exact ⟨x, y, rfl, rfl, k _ b2 h2 F (Z.set F (.int _))⟩
/-- a new list that is going to be changed -/
theorem q_new {n : Nat} (Z : S K B b0 h0 σ b h Δ) (k : ∀ p σ2 h2, h p = none → b p = none → h2 p = some (.lst []) → Fr [] b h b h2 → S K B b0 h0 σ2 b h2 (Δ.set n (.adr p)) → tz D σ2 h2) : tSeq (tAsg (tLst tNil) (gName n)) tz D σ h :=
  ⟨Nat.zero_le _, fun p hp => k p _ _ hp (Z.sub.free hp) upd_same (Fr.fresh Z.sub hp) ⟨Z.fr.trans (Fr.fresh Z.sub hp), Z.sl.set (z := .adr p) rfl n⟩⟩
/-- x.append(e) -/
theorem s_app {n : Nat} {p : Addr} {xs : List V} (Z : S K B b0 h0 σ b h Δ) (hs : Δ[n]? = some (.adr p)) (hb : b p = none) (hB : p ∈ B ∨ h0 p = none) (hp : h p = some (.lst xs)) (hl : xs.length < 100000) (he : EvD K te σ b d)
    (k : ∀ v b2 h2 h3, Fr [] b h b2 h2 → Da K b2 v d → b2 p = none → h3 p = some (.lst (xs ++ [v])) → Fr [p] b h b2 h3 → S K B b0 h0 σ b2 h3 Δ → D.nx σ h3) : tDrop (tBM K "list" rAppend (tVar n) (tCons te tNil)) D σ h := by
  obtain ⟨x, e1, e2⟩ := Z.sl.get hs
  cases e2
  refine ⟨.ref p, e1, .inl ⟨rfl, xs, .inl (.inl hp)⟩, he.go Z.sub fun v b2 h2 F dd => ?_⟩
  have h2p : h2 p = some (.lst xs) := F.keep p _ hb (by intro q; cases q) hp
  have b2p : b2 p = none := F.out p hb (by rw [hp]; rfl)
  have M : Fr [p] b h b2 (upd h2 p (.lst (xs ++ [v]))) := (F.any (B := [p])).trans (Fr.mut F.sub b2p)
  refine ⟨p, xs, v, rfl, rfl, h2p, Nat.lt_of_lt_of_le hl (by decide), k v b2 h2 _ F dd b2p upd_same M ⟨Z.fr.new M fun a m => ?_, Z.sl.mono F.base⟩⟩
  have e : a = p := by simpa using m
  rw [e]
  exact hB
theorem q_app {n : Nat} {p : Addr} {xs : List V} (Z : S K B b0 h0 σ b h Δ) (hs : Δ[n]? = some (.adr p)) (hb : b p = none) (hB : p ∈ B ∨ h0 p = none) (hp : h p = some (.lst xs)) (hl : xs.length < 100000) (he : EvD K te σ b d)
    (k : ∀ v b2 h2 h3, Fr [] b h b2 h2 → Da K b2 v d → b2 p = none → h3 p = some (.lst (xs ++ [v])) → Fr [p] b h b2 h3 → S K B b0 h0 σ b2 h3 Δ → tz D σ h3) : tSeq (tDrop (tBM K "list" rAppend (tVar n) (tCons te tNil))) tz D σ h :=
  s_app (D := { D with nx := tz D }) Z hs hb hB hp hl he k
/-- such a list becomes data -/
theorem S.seal {p : Addr} {xs : List V} {ds : List PyData} (Z : S K B b0 h0 σ b h Δ) (hb : b p = none) (h00 : h0 p = none) (hp : h p = some (.lst xs)) (da : DaAll K b xs ds) : S K B b0 h0 σ (upd b p (.lst xs)) h Δ ∧ Da K (upd b p (.lst xs)) (.ref p) (.list ds) := by
  obtain ⟨s1, s2⟩ := Fr.seal Z.sub hb hp
  refine ⟨⟨⟨Z.fr.base.trans s1, s2, fun a n m => ?_, Z.fr.keep, Z.fr.live⟩, Z.sl.mono s1⟩, .lst upd_same (da.mono s1)⟩
  have ha : a ≠ p := by intro e; subst e; rw [h00] at m; cases m
  rw [upd_ne ha]
  exact Z.fr.out a n m
/-- a slot that held its address holds data -/
theorem Slots.turn {p : Addr} : ∀ {σ : St} {Δ : List SD} {n : Nat}, Slots K b σ Δ → Δ[n]? = some (.adr p) → Da K b (.ref p) d → Slots K b σ (Δ.set n (.dat d))
  | _, _, _, .nil, e, _ => by simp at e
  | _, _, 0, .cons h t, e, q => by
    simp at e; subst e
    exact .cons ⟨_, h, q⟩ t
  | _, _, n + 1, .cons h t, e, q => .cons h (Slots.turn (n := n) t (by simpa using e) q)
theorem S.turn {p : Addr} {n : Nat} (Z : S K B b0 h0 σ b h Δ) (hs : Δ[n]? = some (.adr p)) (q : Da K b (.ref p) d) : S K B b0 h0 σ b h (Δ.set n (.dat d)) := ⟨Z.fr, Z.sl.turn hs q⟩
/-! loops -/
theorem q_forR1 {tA : TA} {n : Nat} {m : Int} (Z : S K B b0 h0 σ b h Δ) (he : EvDs K tA σ b [.int m]) (hm : -1000000 ≤ m ∧ m ≤ 1000000) (Pv : Nat → St → Hp → Prop) (hi : ∀ b2 h2, Fr [] b h b2 h2 → S K B b0 h0 σ b2 h2 Δ → Pv 0 σ h2)
    (hs : ∀ (i : Nat) σ' h', (i : Int) < m → Pv i σ' h' → tu { D with nx := Pv (i + 1), ct := Pv (i + 1), bk := tz D } (σ'.set n (some (.int (0 + (i : Int))))) h') (hd : ∀ σ' h', Pv m.toNat σ' h' → tz D σ' h') : tSeq (tFor (iRng1 tA) (gName n) tu) tz D σ h :=
  he b h (Same.refl b) Z.sub _ fun vs b2 h2 F dd => by
    cases dd with
    | cons x r =>
      cases r; cases x
      exact ⟨m, rfl, by omega, by omega, for_range (lo := 0) (n := m.toNat) Pv (hi b2 h2 F (Z.go F)) (fun i σ' h' hi p => hs i σ' h' (by omega) p) hd⟩
theorem q_forR2 {tA : TA} {n : Nat} {lo m : Int} (Z : S K B b0 h0 σ b h Δ) (he : EvDs K tA σ b [.int lo, .int m]) (hm : -1000000 ≤ lo ∧ lo ≤ 1000000 ∧ -1000000 ≤ m ∧ m ≤ 1000000) (Pv : Nat → St → Hp → Prop) (hi : ∀ b2 h2, Fr [] b h b2 h2 → S K B b0 h0 σ b2 h2 Δ → Pv 0 σ h2)
    (hs : ∀ (i : Nat) σ' h', lo + (i : Int) < m → Pv i σ' h' → tu { D with nx := Pv (i + 1), ct := Pv (i + 1), bk := tz D } (σ'.set n (some (.int (lo + (i : Int))))) h') (hd : ∀ σ' h', Pv (m - lo).toNat σ' h' → tz D σ' h') : tSeq (tFor (iRng2 tA) (gName n) tu) tz D σ h :=
  he b h (Same.refl b) Z.sub _ fun vs b2 h2 F dd => by
    cases dd with
    | cons x r =>
      cases r with
      | cons y r =>
        cases r; cases x; cases y
        exact ⟨lo, m, rfl, ⟨by omega, by omega, by omega, by omega⟩, for_range (lo := lo) (n := (m - lo).toNat) Pv (hi b2 h2 F (Z.go F)) (fun i σ' h' hi p => hs i σ' h' (by omega) p) hd⟩
/-- over a list, a tuple of data -/
theorem q_forL {tl : TE} {n : Nat} {ds : List PyData} (Z : S K B b0 h0 σ b h Δ) (he : EvD K tl σ b (.list ds)) (Pv : Nat → St → Hp → Hp → Prop) (hi : ∀ b2 h2, Fr [] b h b2 h2 → S K B b0 h0 σ b2 h2 Δ → Pv 0 σ b2 h2) (hsub : ∀ i σ' b' h', Pv i σ' b' h' → Same b' h')
    (hs : ∀ (bb : Hp) (i : Nat) d σ' b' h' v, Same bb b' → ds[i]? = some d → Pv i σ' b' h' → Da K b' v d → tu { D with nx := fun s g => ∃ b'', Same bb b'' ∧ Pv (i + 1) s b'' g, ct := fun s g => ∃ b'', Same bb b'' ∧ Pv (i + 1) s b'' g, bk := tz D } (σ'.set n (some v)) h') (hd : ∀ σ' b' h', Pv ds.length σ' b' h' → tz D σ' h') : tSeq (tFor (iList K tl) (gName n) tu) tz D σ h :=
  he.go Z.sub fun v b2 h2 F dd => by
    cases dd with
    | @lst a xs _ sa da =>
      refine ⟨a, rfl, ⟨xs, .inl (.inl (F.sub _ _ sa))⟩, for_list (xs := xs) (fun i s g => ∃ b', Same b2 b' ∧ Pv i s b' g) ⟨b2, Same.refl _, hi b2 h2 F (Z.go F)⟩ (fun i s g _ p => ?_) (fun i x s g hx p => ?_) (fun s g p => ?_)⟩
      · obtain ⟨b', e, p⟩ := p
        exact .inl (.inl (hsub _ _ _ _ p _ _ (e _ _ sa)))
      · obtain ⟨b', e, p⟩ := p
        obtain ⟨d, e1, e2⟩ := da.at hx
        exact hs b2 i d s b' g x e e1 p (e2.mono e)
      · obtain ⟨b', e, p⟩ := p
        rw [da.length] at p
        exact hd s b' g p
theorem q_forT {tl : TE} {n : Nat} {ds : List PyData} (Z : S K B b0 h0 σ b h Δ) (he : EvD K tl σ b (.tuple ds)) (Pv : Nat → St → Hp → Hp → Prop) (hi : ∀ b2 h2, Fr [] b h b2 h2 → S K B b0 h0 σ b2 h2 Δ → Pv 0 σ b2 h2) (hsub : ∀ i σ' b' h', Pv i σ' b' h' → Same b' h')
    (hs : ∀ (bb : Hp) (i : Nat) d σ' b' h' v, Same bb b' → ds[i]? = some d → Pv i σ' b' h' → Da K b' v d → tu { D with nx := fun s g => ∃ b'', Same bb b'' ∧ Pv (i + 1) s b'' g, ct := fun s g => ∃ b'', Same bb b'' ∧ Pv (i + 1) s b'' g, bk := tz D } (σ'.set n (some v)) h') (hd : ∀ σ' b' h', Pv ds.length σ' b' h' → tz D σ' h') : tSeq (tFor (iTup K tl) (gName n) tu) tz D σ h :=
  he.go Z.sub fun v b2 h2 F dd => by
    cases dd with
    | @tup a xs _ sa da =>
      refine ⟨a, rfl, ⟨xs, sqT_mono F.sub sa⟩, for_tup (xs := xs) (fun i s g => ∃ b', Same b2 b' ∧ Pv i s b' g) ⟨b2, Same.refl _, hi b2 h2 F (Z.go F)⟩ (fun i s g _ p => ?_) (fun i x s g hx p => ?_) (fun s g p => ?_)⟩
      · obtain ⟨b', e, p⟩ := p
        exact sqT_mono (e.trans (hsub _ _ _ _ p)) sa
      · obtain ⟨b', e, p⟩ := p
        obtain ⟨d, e1, e2⟩ := da.at hx
        exact hs b2 i d s b' g x e e1 p (e2.mono e)
      · obtain ⟨b', e, p⟩ := p
        rw [da.length] at p
        exact hd s b' g p
end
end DV

namespace DV
open PySem L2
section
variable {K : PySem.W.Frag} {B : List Addr} {b0 h0 : Hp} {σ : St} {b b' h : Hp} {te ta tb tc : TE} {d d1 d2 d3 : PyData} {Δ : List SD} {t u : TT} {r r' : R2} {i j : Int} {D : Ends} {tu tw tz : TS}
/-! comprehensions over zip -/
theorem walk_zipT {a c : Addr} {xs ys : List V} {n : Nat} (hn : n = min xs.length ys.length) : Walk (RZ.ItzT K a c) n (fun H => SqT K H a xs ∧ SqT K H c ys) (YPair (fun i => xs[i]?) (fun i => ys[i]?)) := by
  subst hn
  constructor
  · intro m _ lt both
    exact ⟨xs, ys, xs[m]'(by omega), ys[m]'(by omega), both.1, both.2, List.getElem?_eq_getElem _, List.getElem?_eq_getElem _⟩
  · exact fun _ both => ⟨xs, ys, both.1, both.2, by omega⟩
  · rintro m G y G' _ both ⟨P, p, q, e1, e2, e3, e4, e5⟩
    exact ⟨P, p, q, e1, e2, e3, e4 xs both.1, e5 ys both.2⟩
theorem Cv.laid {es : Nat → List PyData} {Dl T : Addr} {n : Nat} {h' : Hp} {o : HO} (p : Cv K b h es Dl n h') (hT : h' T = none) : Cv K b h es Dl n (upd h' T o) := by
  obtain ⟨hD, b', acc, F, bD, hA, DA⟩ := p
  exact ⟨hD, b', acc, F.trans (Fr.fresh F.sub hT), bD, by rw [upd_ne (ne_of_none hA hT)]; exact hA, DA⟩
theorem wipe2 {v w : Nat} {x y : Option V} (hvw : v ≠ w) : wipe (((wipe σ [v, w]).set v x).set w y) [v, w] = wipe σ [v, w] := by
  show (((((σ.set w none).set v none).set v x).set w y).set w none).set v none = (σ.set w none).set v none
  rw [List.set_set, List.set_set, List.set_comm _ _ (Ne.symm hvw), List.set_set, List.set_comm (i := v) (j := w) _ _ hvw, List.set_set]
theorem zl_core {xs ys : List V} {ds es : List PyData} {J : It} {G : Hp → Prop} (w : Walk J (min xs.length ys.length) G (YPair (fun i => xs[i]?) (fun i => ys[i]?)))
    {n1 n2 : Nat} {vs : List Nat} (g : PyData → PyData → PyData) (Sl : Slots K b σ Δ) (hw : ∀ x y, wipe (((wipe σ vs).set n1 (some x)).set n2 (some y)) vs = wipe σ vs) (hzz : ds.length ≤ 90000)
    (ht : ∀ (m : Nat) d e σ2 b2, ds[m]? = some d → es[m]? = some e → Same b b2 → Slots K b2 σ2 (((wipeD Δ vs).set n1 (.dat d)).set n2 (.dat e)) → EvD K te σ2 b2 (g d e))
    {b1 h1 : Hp} (s : Same b b1) {Q : VK} {b2 h2 : Hp} (F : Fr [] b1 h1 b2 h2) (dx : DaAll K b2 xs ds) (dy : DaAll K b2 ys es) (hG : ∀ b' h', Fr [] b2 h2 b' h' → G h')
    (q : ∀ v b2 h2, Fr [] b1 h1 b2 h2 → Da K b2 v (.list (List.zipWith g ds es)) → Q v h2) (Dl : Addr) (hD : h2 Dl = none) :
    ∃ W : Nat → Nat → Hp → Prop, (∃ m, W 0 m (upd h2 Dl (.lst []))) ∧ ∀ i m H, W i m H →
      (J.stop i H ∧ Q (.ref Dl) H) ∨ (J.go i H ∧ ∃ Nx : Hp → Prop, (∀ H', Nx H' → ∃ m', m' < m ∧ W (i + 1) m' H') ∧ ∀ x H', J.yld i H x H' → gTup K 2 (gCons (gName n1) (gCons (gName n2) gNil)) x (wipe σ vs) H' fun σ2 H2 => wipe σ2 vs = wipe σ vs ∧ tYes σ2 H2 fun b H3 =>
        if b = true then te σ2 H3 fun y H4 => ∃ acc, H4 Dl = some (.lst acc) ∧ acc.length < sizeLine ∧ Nx (upd H4 Dl (.lst (acc ++ [y]))) else Nx H3) := by
  refine lc_it w (Cv K b2 h2 (fun i => List.zipWith g (ds.take i) (es.take i)) Dl) (cv_0 F.sub hD (by simp)) (fun i H' _ p => ?_) (fun i v H H' hi p y => ?_) (fun H' p => ?_)
  · obtain ⟨_, b', acc, F2, _⟩ := p
    exact hG b' H' F2
  · obtain ⟨T, x, z, rfl, hT, rfl, e1, e2⟩ := y
    obtain ⟨d, f1, dd⟩ := dx.at e1
    obtain ⟨e, f2, de⟩ := dy.at e2
    refine ⟨T, [x, z], rfl, .inl (.inl upd_same), rfl, x, [z], rfl, z, [], rfl, rfl, hw x z, ?_⟩
    have hl : (List.zipWith g (ds.take i) (es.take i)).length < 100000 := by rw [List.length_zipWith, List.length_take, List.length_take]; omega
    have C := p.laid (o := .tup [x, z]) hT
    refine cv_turn (te := te) (t := tYes) (f := true) C (fun b3 _ => b_yes) (fun b3 F3 _ => ⟨g d e, ht i d e _ b3 f1 f2 ((s.trans F.base).trans F3.base) ((((Sl.mono ((s.trans F.base).trans F3.base)).wipe vs).set (z := .dat d) ⟨x, rfl, dd.mono F3.base⟩ n1).set (z := .dat e) ⟨z, rfl, de.mono F3.base⟩ n2), ?_⟩) (fun z => by cases z) hl
    show List.zipWith g (ds.take (i + 1)) (es.take (i + 1)) = List.zipWith g (ds.take i) (es.take i) ++ [g d e]
    rw [List.take_add_one, List.take_add_one, f1, f2]
    have h1 : i < ds.length := by rw [← dx.length]; omega
    have h2 : i < es.length := by rw [← dy.length]; omega
    rw [List.zipWith_append (by rw [List.length_take, List.length_take]; omega)]
    rfl
  · obtain ⟨_, b', acc, F2, bD, hA, DA⟩ := p
    have e : List.zipWith g (ds.take (min xs.length ys.length)) (es.take (min xs.length ys.length)) = List.zipWith g ds es := by
      rw [dx.length, dy.length, ← List.take_zipWith]
      exact List.take_of_length_le (by rw [List.length_zipWith]; exact Nat.le_refl _)
    have DA : DaAll K b' acc (List.zipWith g ds es) := e ▸ (show DaAll K b' acc (List.zipWith g (ds.take (min xs.length ys.length)) (es.take (min xs.length ys.length))) from DA)
    obtain ⟨s1, s2⟩ := Fr.seal F2.sub bD hA
    refine q (.ref Dl) (upd b' Dl (.lst acc)) H' (F.trans ⟨F2.base.trans s1, s2, fun c n m => ?_, F2.keep, F2.live⟩) (.lst upd_same (DA.mono s1))
    have hc : c ≠ Dl := by intro e; subst e; rw [hD] at m; cases m
    rw [upd_ne hc]
    exact F2.out c n m
theorem d_lcZL {tA : TA} {n1 n2 : Nat} {vs : List Nat} {ds es : List PyData} (g : PyData → PyData → PyData) (Sl : Slots K b σ Δ) (h : EvDs K tA σ b [.list ds, .list es]) (hz : ds.length ≤ 90000) (hw : ∀ x y, wipe (((wipe σ vs).set n1 (some x)).set n2 (some y)) vs = wipe σ vs)
    (ht : ∀ (m : Nat) d e σ2 b2, ds[m]? = some d → es[m]? = some e → Same b b2 → Slots K b2 σ2 (((wipeD Δ vs).set n1 (.dat d)).set n2 (.dat e)) → EvD K te σ2 b2 (g d e)) :
    EvD K (tLc (RZ.iZipA K tA) (gTup K 2 (gCons (gName n1) (gCons (gName n2) gNil))) tYes te vs) σ b (.list (List.zipWith g ds es)) := fun b1 h1 s z Q q =>
  h b1 h1 s z _ fun v b2 h2 F dd => by
    cases dd with
    | cons x r =>
      cases r with
      | cons y r =>
        cases r
        cases x with
        | @lst a xs _ sa da =>
          cases y with
          | @lst c ys _ sc dc =>
            refine ⟨a, c, xs, ys, rfl, .inl ⟨.inl (.inl (F.sub _ _ sa)), .inl (.inl (F.sub _ _ sc)), fun Dl hD => ?_⟩⟩
            exact zl_core (walk_zip rfl) g Sl hw hz ht s F da dc (fun b' h' F2 => ⟨.inl (.inl (F2.sub _ _ (F2.base _ _ sa))), .inl (.inl (F2.sub _ _ (F2.base _ _ sc)))⟩) q Dl hD
theorem d_lcZT {tA : TA} {n1 n2 : Nat} {vs : List Nat} {ds es : List PyData} (g : PyData → PyData → PyData) (Sl : Slots K b σ Δ) (h : EvDs K tA σ b [.tuple ds, .tuple es]) (hz : ds.length ≤ 90000) (hw : ∀ x y, wipe (((wipe σ vs).set n1 (some x)).set n2 (some y)) vs = wipe σ vs)
    (ht : ∀ (m : Nat) d e σ2 b2, ds[m]? = some d → es[m]? = some e → Same b b2 → Slots K b2 σ2 (((wipeD Δ vs).set n1 (.dat d)).set n2 (.dat e)) → EvD K te σ2 b2 (g d e)) :
    EvD K (tLc (RZ.iZipA K tA) (gTup K 2 (gCons (gName n1) (gCons (gName n2) gNil))) tYes te vs) σ b (.list (List.zipWith g ds es)) := fun b1 h1 s z Q q =>
  h b1 h1 s z _ fun v b2 h2 F dd => by
    cases dd with
    | cons x r =>
      cases r with
      | cons y r =>
        cases r
        cases x with
        | @tup a xs _ sa da =>
          cases y with
          | @tup c ys _ sc dc =>
            refine ⟨a, c, xs, ys, rfl, .inr ⟨sqT_mono F.sub sa, sqT_mono F.sub sc, fun Dl hD => ?_⟩⟩
            exact zl_core (walk_zipT rfl) g Sl hw hz ht s F da dc (fun b' h' F2 => ⟨sqT_mono (F2.base.trans F2.sub) sa, sqT_mono (F2.base.trans F2.sub) sc⟩) q Dl hD
/-! draws: the box at a, of at most n draws so far -/
def Tin (a : Addr) (n : Int) (h : Hp) : Prop := ∃ x y z : Int, h a = some (.lst [.int x, .int y, .int z]) ∧ 0 ≤ x ∧ y.natAbs < 2 ^ 70 ∧ 0 ≤ z ∧ z ≤ n
def mostDraws : Int := 1000000000
/-- a def whose first argument is the box; at most c draws; what it gives is one of R -/
def spT (K : PySem.W.Frag) (c : Int) (R : List PyData → PyData → Prop) (P : List PyData → Prop) : Sp := fun vs H Q _ => ∃ b a ws ds n, vs = .ref a :: ws ∧ Same b H ∧ b a = none ∧ Tin a n H ∧ n + c ≤ mostDraws ∧ DaAll K b ws ds ∧ P ds ∧
  ∀ v d b2 h2, R ds d → Fr [a] b H b2 h2 → b2 a = none → Tin a (n + c) h2 → Da K b2 v d → Q v h2
theorem Tin.keep {a : Addr} {n : Int} {b2 h2 : Hp} (T : Tin a n h) (F : Fr [] b h b2 h2) (hb : b a = none) : Tin a n h2 ∧ b2 a = none := by
  obtain ⟨x, y, z, e, q⟩ := T
  exact ⟨⟨x, y, z, F.keep a _ hb (by intro q; cases q) e, q⟩, F.out a hb (by rw [e]; rfl)⟩
theorem Tin.le {a : Addr} {n m : Int} (T : Tin a n h) (e : n ≤ m) : Tin a m h := by
  obtain ⟨x, y, z, q, w1, w2, w3, w4⟩ := T
  exact ⟨x, y, z, q, w1, w2, w3, Int.le_trans w4 e⟩
theorem c_callT {a : Addr} {n c : Int} {m : Nat} {R : List PyData → PyData → Prop} {P : List PyData → Prop} {E : XK} {tr : TA} {ds : List PyData} {Q : VK} (Z : S K B b0 h0 σ b h Δ) (hs : Δ[m]? = some (.adr a)) (hb : b a = none) (hB : a ∈ B ∨ h0 a = none) (T : Tin a n h) (hn : n + c ≤ mostDraws) (ha : EvDs K tr σ b ds) (hP : P ds)
    (k : ∀ v d b2 h2, R ds d → S K B b0 h0 σ b2 h2 Δ → Fr [a] b h b2 h2 → b2 a = none → Tin a (n + c) h2 → Da K b2 v d → Q v h2) : tCall (spT K c R P) [] E (tCons (tVar m) tr) σ h Q := by
  obtain ⟨x, e1, e2⟩ := Z.sl.get hs
  cases e2
  refine ⟨.ref a, e1, ha b h (Same.refl b) Z.sub _ fun ws b2 h2 F dd => ?_⟩
  obtain ⟨T2, hb2⟩ := T.keep F hb
  refine ⟨b2, a, ws, ds, n, by rw [List.append_nil], F.sub, hb2, T2, hn, dd, hP, fun v d b3 h3 r F3 hb3 T3 D3 => ?_⟩
  have G : Fr [a] b h b3 h3 := F.any.trans F3
  refine k v d b3 h3 r ⟨Z.fr.new G fun c m => ?_, Z.sl.mono G.base⟩ G hb3 T3 D3
  have e : c = a := by simpa using m
  rw [e]
  exact hB
/-- reading the box as data for a moment: a scalar comes of it -/
theorem Fr.back {a : Addr} {o : HO} {b2 h2 : Hp} (z : Same b h) (hb : b a = none) (ha : h a = some o) (F : Fr [] (upd b a o) h b2 h2) : Fr [] b h b h2 ∧ h2 a = some o := by
  have s1 := (Fr.seal z hb ha).1
  have e : h2 a = some o := F.sub _ _ (F.base _ _ upd_same)
  refine ⟨⟨Same.refl b, s1.trans (F.base.trans F.sub), fun _ q _ => q, fun c u q _ w => ?_, F.live⟩, e⟩
  by_cases hc : c = a
  · subst hc
    rw [ha] at w
    cases w
    exact e
  · exact F.keep c u (by rw [upd_ne hc]; exact q) (by intro q; cases q) w
end
end DV

namespace DV
open PySem L2
/-! operators for whatever comes -/
def rAddA (K : PySem.W.Frag) : R2 := fun x y H Q => rI0 (fun i j => .int (i + j)) x y H Q ∨ (fun x y H Q => (fun x y H Q => ∃ i j, x = .str i ∧ y = .str j ∧ i.length + j.length ≤ sizeLine ∧ Q (.str (i ++ j)) H) x y H Q ∨ (fun x y H Q => rCat x y H Q ∨ rCatT K x y H Q) x y H Q) x y H Q
def rMulA : R2 := fun x y H Q => rI CMulW (fun i j => .int (i * j)) x y H Q ∨ (fun x y H Q => rI CMul (fun i j => .int (i * j)) x y H Q ∨ rRep x y H Q) x y H Q
def rEqA (K : PySem.W.Frag) : R2 := fun x y H Q => rEq x y H Q ∨ rEqD K x y H Q
def rNeA (K : PySem.W.Frag) : R2 := fun x y H Q => rNe x y H Q ∨ rNeD K x y H Q
section
variable {X : Cx}
theorem op_addA : OpR X (binaryOp .Add) (rAddA X.K) := OpR.or op_add (OpR.or op_add_str (OpR.or op_cat op_catT))
theorem op_mulA : OpR X (binaryOp .Mult) rMulA := OpR.or op_mulW (OpR.or op_mul op_rep)
theorem op_eqA (hu : X.A.units + 64 < cLine) : OpR X (compareOp .Eq) (rEqA X.K) := OpR.or op_eq (op_eqD hu)
theorem op_neA (hu : X.A.units + 64 < cLine) : OpR X (compareOp .NotEq) (rNeA X.K) := OpR.or op_ne (op_neD hu)
end
section
variable {K : PySem.W.Frag} {B : List Addr} {b0 h0 : Hp} {σ : St} {b b' h : Hp} {te ta tb tc : TE} {d d1 d2 d3 : PyData} {Δ : List SD} {t u : TT} {r r' : R2} {i j : Int} {D : Ends} {tu tw tz : TS}
theorem rv_addI : RvD K (rAddA K) (.int i) (.int j) (.int (i + j)) := rv_or1 rv_I0
theorem rv_addL {ds es : List PyData} (hz : ds.length + es.length ≤ 100000) : RvD K (rAddA K) (.list ds) (.list es) (.list (ds ++ es)) := rv_or2 (rv_or2 (rv_or1 (rv_catL hz)))
theorem rv_addT {ds es : List PyData} (h1 : ds ≠ []) (h2 : es ≠ []) (hz : ds.length + es.length ≤ 100000) : RvD K (rAddA K) (.tuple ds) (.tuple es) (.tuple (ds ++ es)) := rv_or2 (rv_or2 (rv_or2 (rv_catT h1 h2 hz)))
theorem rv_addS {x y : Str} (hz : x.length + y.length ≤ 100000) : RvD K (rAddA K) (.str x) (.str y) (.str (x ++ y)) := rv_or2 (rv_or1 fun b1 h1 z _ _ X Y Q q => by
  cases X; cases Y
  exact ⟨x, y, rfl, rfl, Nat.le_trans hz (by decide), q _ b1 h1 (Fr.rfl' z) (.str _)⟩)
theorem rv_subI : RvD K (rI0 fun i j => .int (i - j)) (.int i) (.int j) (.int (i - j)) := rv_I0
theorem rv_mulI (h1 : i.natAbs < 2 ^ 200) (h2 : j.natAbs < 2 ^ 200) : RvD K rMulA (.int i) (.int j) (.int (i * j)) := rv_or1 (rv_I (wide_mul h1 h2 (by decide) (by decide) (by decide)))
theorem rv_mulS (h2 : CMul i j) : RvD K rMulA (.int i) (.int j) (.int (i * j)) := rv_or2 (rv_or1 (rv_I h2))
theorem rv_modI (h : 0 < j) : RvD K (rI (fun _ j => 0 < j) fun i j => .int (i % j)) (.int i) (.int j) (.int (i % j)) := rv_I h
theorem rv_divI (h : 0 < j) (h2 : j.natAbs < 2 ^ 200) : RvD K (rI CDivW fun i j => .int (i / j)) (.int i) (.int j) (.int (i / j)) := rv_I (wide_div h h2 (by decide) (by decide))
theorem rv_ltI : RvD K (rI0 fun i j => .bl (decide (i < j))) (.int i) (.int j) (.bool (decide (i < j))) := rv_B0
theorem rv_leI : RvD K (rI0 fun i j => .bl (decide (i ≤ j))) (.int i) (.int j) (.bool (decide (i ≤ j))) := rv_B0
theorem rv_gtI : RvD K (rI0 fun i j => .bl (decide (j < i))) (.int i) (.int j) (.bool (decide (j < i))) := rv_B0
theorem rv_geI : RvD K (rI0 fun i j => .bl (decide (j ≤ i))) (.int i) (.int j) (.bool (decide (j ≤ i))) := rv_B0
theorem rv_eqAI : RvD K (rEqA K) (.int i) (.int j) (.bool (decide (i = j))) := rv_or1 rv_eqI
theorem rv_eqAB {x y : Bool} : RvD K (rEqA K) (.bool x) (.bool y) (.bool (x == y)) := rv_or1 rv_eqB
theorem rv_eqAS {x y : Str} : RvD K (rEqA K) (.str x) (.str y) (.bool (decide (x = y))) := rv_or1 rv_eqS
theorem rv_eqAN : RvD K (rEqA K) .none .none (.bool true) := rv_or1 rv_eqN
theorem rv_eqAD (h1 : SeqAt.shaped d1 = true) (h2 : SeqAt.shaped d2 = true) : RvD K (rEqA K) d1 d2 (.bool (PyData.eqv d1 d2)) := rv_or2 (rv_eqD h1 h2)
theorem rv_neAI : RvD K (rNeA K) (.int i) (.int j) (.bool (!decide (i = j))) := rv_or1 rv_neI
theorem rv_neAB {x y : Bool} : RvD K (rNeA K) (.bool x) (.bool y) (.bool (!(x == y))) := rv_or1 rv_neB
theorem rv_neAD (h1 : SeqAt.shaped d1 = true) (h2 : SeqAt.shaped d2 = true) : RvD K (rNeA K) d1 d2 (.bool (!PyData.eqv d1 d2)) := rv_or2 (rv_neD h1 h2)
theorem d_varZ {n : Nat} (Z : S K B b0 h0 σ b h Δ) (e : Δ[n]? = some (.dat d)) : EvD K (tVar n) σ b d := d_var Z.sl e
/-- with defaults -/
theorem d_callD {R : List PyData → PyData → Prop} {E : XK} {tA : TA} {ds es : List PyData} {dvs : List V} (h : EvDs K tA σ b ds) (hd : ∀ H, DaAll K H dvs es) (hr : R (ds ++ es) d) : EvD K (tCall (spD K R) dvs E tA) σ b d := fun b1 h1 s z Q q =>
  h b1 h1 s z _ fun vs b2 h2 F D => ⟨b2, ds ++ es, d, F.sub, D.append (hd b2), hr, fun v b3 h3 F2 D2 => q v b3 h3 (F.trans F2) D2⟩
theorem d_call0 {R : List PyData → PyData → Prop} {E : XK} (hr : R [] d) : EvD K (tCall (spD K R) [] E tNil) σ b d := d_call ds_nil hr
/-- a def in a slot -/
theorem d_callL {n : Nat} {f : Addr} {R : List PyData → PyData → Prop} {E : XK} {tA : TA} {ds : List PyData} (Sl : Slots K b σ Δ) (e : Δ[n]? = some (.adr f)) (h : EvDs K tA σ b ds) (hr : R ds d) : EvD K (tCallL n f (spD K R) [] E tA) σ b d := fun b1 h1 s z Q q => by
  obtain ⟨x, e1, e2⟩ := Sl.get e
  cases e2
  refine ⟨e1, ?_⟩
  exact d_call (E := E) h hr b1 h1 s z Q q
theorem s_retE (Z : S K B b0 h0 σ b h Δ) (he : EvD K te σ b d) (e : d = d1) (k : ∀ v b2 h2, Fr B b0 h0 b2 h2 → Da K b2 v d1 → D.rt v h2) : tRet te D σ h := s_ret Z (he.is e) k
theorem q_whenT {c : Bool} (Z : S K B b0 h0 σ b h Δ) (hb : EvB t σ b c) (e : c = true) (k : ∀ b2 h2, Fr [] b h b2 h2 → S K B b0 h0 σ b2 h2 Δ → tu { D with nx := tz D } σ h2) : tSeq (tIfS t tu tw) tz D σ h := by
  subst e
  exact q_if Z hb (fun _ => k) fun z => by cases z
theorem q_whenF {c : Bool} (Z : S K B b0 h0 σ b h Δ) (hb : EvB t σ b c) (e : c = false) (k : ∀ b2 h2, Fr [] b h b2 h2 → S K B b0 h0 σ b2 h2 Δ → tz D σ h2) : tSeq (tIfS t tu tNext) tz D σ h := by
  subst e
  exact q_when Z hb (fun z => by cases z) fun _ => k
theorem s_whenT {c : Bool} (Z : S K B b0 h0 σ b h Δ) (hb : EvB t σ b c) (e : c = true) (k : ∀ b2 h2, Fr [] b h b2 h2 → S K B b0 h0 σ b2 h2 Δ → tu D σ h2) : tIfS t tu tw D σ h := by
  subst e
  exact s_if Z hb (fun _ => k) fun z => by cases z
theorem s_whenF {c : Bool} (Z : S K B b0 h0 σ b h Δ) (hb : EvB t σ b c) (e : c = false) (k : ∀ b2 h2, Fr [] b h b2 h2 → S K B b0 h0 σ b2 h2 Δ → tw D σ h2) : tIfS t tu tw D σ h := by
  subst e
  exact s_if Z hb (fun z => by cases z) fun _ => k
theorem d_is (h : EvD K te σ b d) (e : d = d1) : EvD K te σ b d1 := h.is e
/-! data: how deep, how it is with tuples for lists -/
def fine : Nat → PyData → Bool
  | _, .none => true | _, .bool _ => true | _, .int _ => true | _, .str _ => true
  | 0, _ => false
  | n + 1, .list xs => decide (xs.length ≤ 90000) && xs.all (fine n)
  | n + 1, .tuple xs => decide (xs.length ≤ 90000) && xs.all (fine n)
  | _ + 1, .dict _ => false
def tupN : Nat → PyData → PyData
  | n + 1, .list xs => .tuple (xs.map (tupN n))
  | n + 1, .tuple xs => .tuple (xs.map (tupN n))
  | _, d => d
def isNum : PyData → Bool
  | .int _ => true
  | _ => false
theorem all_ints {ds : List PyData} {p : PyData → Bool} : ((ds.filter fun _ => true).map fun d => PyData.bool (p d)) = (ds.map p).map PyData.bool := by
  rw [List.filter_eq_self.mpr (fun _ _ => rfl), List.map_map]
  rfl
theorem filt (ds : List PyData) : (ds.filter fun _ => true) = ds := List.filter_eq_self.mpr fun _ _ => rfl
end
/-- a def that hands its second argument back with tuples for lists, if the first one is true of that -/
def spSuch (K : PySem.W.Frag) (f : Addr) (R : List PyData → PyData → Prop) : Sp := fun vs H Q _ => ∃ b v x, vs = [.ref f, v] ∧ Same b H ∧ Da K b v x ∧ fine 6 x = true ∧ R [tupN 6 x] (.bool true) ∧ ∀ v b2 h2, Fr [] b H b2 h2 → Da K b2 v (tupN 6 x) → Q v h2
theorem d_such {K : PySem.W.Frag} {σ : St} {b : Hp} {te : TE} {x : PyData} {f : Addr} {R : List PyData → PyData → Prop} {E : XK} (h : EvD K te σ b x) (hf : fine 6 x = true) (hr : R [tupN 6 x] (.bool true)) : EvD K (tCall (spSuch K f R) [] E (tCons (tC (.ref f)) (tCons te tNil))) σ b (tupN 6 x) := fun b1 h1 s z Q q =>
  h b1 h1 s z _ fun v b2 h2 F D => ⟨b2, v, x, rfl, F.sub, D, hf, hr, fun v b3 h3 F2 D2 => q v b3 h3 (F.trans F2) D2⟩
end DV

namespace DV
open PySem L2
section
variable {K : PySem.W.Frag} {B : List Addr} {b0 h0 : Hp} {σ : St} {b b' h : Hp} {te ta tb tc : TE} {d d1 d2 d3 : PyData} {Δ : List SD} {t u : TT} {r r' : R2} {i j : Int} {D : Ends} {tu tw tz : TS}
theorem ixN_nat {n j : Nat} (lt : j < n) : ixN n (j : Int) = some j := by
  have lt' : (j : Int) < (n : Int) := Int.ofNat_lt.mpr lt
  simp [ixN, lt']
/-! the box (a list that is changed) read for a moment -/
theorem d_ixA {n : Nat} {a : Addr} {xs : List V} {v : V} (Sl : Slots K b σ Δ) (e : Δ[n]? = some (.adr a)) (ha : b a = some (.lst xs)) (hi : EvD K tb σ b (.int i)) (hv : atI xs i = some v) (hd : ∀ b, Da K b v d) : EvD K (tOp (rIx K) (tVar n) tb) σ b d := fun b1 h1 s z Q q => by
  obtain ⟨x, e1, e2⟩ := Sl.get e
  cases e2
  refine ⟨.ref a, e1, hi b1 h1 s z _ fun y b2 h2 F dd => ?_⟩
  cases dd
  exact .inl ⟨a, xs, i, v, rfl, rfl, .inl (.inl (F.sub _ _ (F.base _ _ (s _ _ ha)))), hv, q v b2 h2 F (hd b2)⟩
theorem q_asgB {n : Nat} {a : Addr} {xs : List V} (Z : S K B b0 h0 σ b h Δ) (hb : b a = none) (hp : h a = some (.lst xs)) (he : EvD K te σ (upd b a (.lst xs)) (.int i)) (k : ∀ σ2 h2, S K B b0 h0 σ2 b h2 (Δ.set n (.dat (.int i))) → h2 a = some (.lst xs) → tz D σ2 h2) : tSeq (tAsg te (gName n)) tz D σ h := by
  obtain ⟨s1, s2⟩ := Fr.seal Z.sub hb hp
  refine he.go s2 fun v b2 h2 F dd => ?_
  obtain ⟨F2, e⟩ := Fr.back Z.sub hb hp F
  cases dd
  exact k _ h2 (Z.set F2 (.int i)) e
theorem q_asgBP {n : Nat} {a : Addr} {xs : List V} {i : Int} (Pr : Int → Prop) (Z : S K B b0 h0 σ b h Δ) (hb : b a = none) (hp : h a = some (.lst xs)) (he : EvD K te σ (upd b a (.lst xs)) (.int i)) (hP : Pr i) (k : ∀ i, Pr i → ∀ σ2 h2, S K B b0 h0 σ2 b h2 (Δ.set n (.dat (.int i))) → h2 a = some (.lst xs) → tz D σ2 h2) : tSeq (tAsg te (gName n)) tz D σ h :=
  q_asgB Z hb hp he fun σ2 h2 => k i hP σ2 h2
theorem q_setB {n m : Nat} {a : Addr} {xs : List V} (Z : S K B b0 h0 σ b h Δ) (hs : Δ[n]? = some (.adr a)) (hb : b a = none) (hB : a ∈ B ∨ h0 a = none) (hp : h a = some (.lst xs)) (he : EvD K te σ (upd b a (.lst xs)) (.int i)) (hm : m < xs.length) (k : ∀ h2, S K B b0 h0 σ b h2 Δ → h2 a = some (.lst (xs.set m (.int i))) → tz D σ h2) :
    tSeq (tAsg te (gSub (tVar n) (tC (.int (m : Int))) rSetL)) tz D σ h := by
  obtain ⟨s1, s2⟩ := Fr.seal Z.sub hb hp
  refine he.go s2 fun v b2 h2 F dd => ?_
  obtain ⟨F2, e⟩ := Fr.back Z.sub hb hp F
  cases dd
  have Z2 := Z.go F2
  obtain ⟨x, e1, e2⟩ := Z2.sl.get hs
  cases e2
  refine ⟨.ref a, e1, a, xs, (m : Int), m, rfl, rfl, e, ixN_nat hm, ?_⟩
  exact k _ ⟨Z2.fr.new (Fr.mut Z2.sub hb) fun c z => by
    have q : c = a := by simpa using z
    rw [q]; exact hB, Z2.sl⟩ upd_same
theorem q_ifB {a : Addr} {xs : List V} {c : Bool} (Z : S K B b0 h0 σ b h Δ) (hb : b a = none) (hp : h a = some (.lst xs)) (he : EvB t σ (upd b a (.lst xs)) c) (k1 : c = true → ∀ h2, S K B b0 h0 σ b h2 Δ → h2 a = some (.lst xs) → tu { D with nx := tz D } σ h2) (k2 : c = false → ∀ h2, S K B b0 h0 σ b h2 Δ → h2 a = some (.lst xs) → tz D σ h2) : tSeq (tIfS t tu tNext) tz D σ h := by
  obtain ⟨s1, s2⟩ := Fr.seal Z.sub hb hp
  refine he _ h (Same.refl _) s2 _ fun b2 h2 F => ?_
  obtain ⟨F2, e⟩ := Fr.back Z.sub hb hp F
  cases c with
  | true => exact k1 rfl h2 (Z.go F2) e
  | false => exact k2 rfl h2 (Z.go F2) e
theorem s_retB {a : Addr} {xs : List V} (Z : S K B b0 h0 σ b h Δ) (hb : b a = none) (hp : h a = some (.lst xs)) (he : EvD K te σ (upd b a (.lst xs)) (.int i)) (k : ∀ h2, S K B b0 h0 σ b h2 Δ → h2 a = some (.lst xs) → D.rt (.int i) h2) : tRet te D σ h := by
  obtain ⟨s1, s2⟩ := Fr.seal Z.sub hb hp
  refine he.go s2 fun v b2 h2 F dd => ?_
  obtain ⟨F2, e⟩ := Fr.back Z.sub hb hp F
  cases dd
  exact k h2 (Z.go F2) e
theorem sl_box {a : Addr} {xs : List V} (Z : S K B b0 h0 σ b h Δ) (hb : b a = none) (hp : h a = some (.lst xs)) : Slots K (upd b a (.lst xs)) σ Δ := Z.sl.mono (Fr.seal Z.sub hb hp).1
/-! in a list of ints -/
theorem eqV_int {i j : Int} : eqV (.int i) (.int j) = decide (i = j) := by
  unfold eqV
  by_cases h : i = j
  · subst h; simp
  · simp [h]
theorem rv_inI {ns : List Int} : RvD K (rIn K false) (.int i) (.list (ns.map .int)) (.bool (decide (i ∈ ns))) := fun b1 h1 z x y X Y Q q => by
  cases X
  cases Y with
  | @lst p xs _ s a =>
    rw [a.ints] at s
    refine ⟨p, ns.map V.int, rfl, .inl (.inl (.inl (z _ _ s))), rfl, ?_, ?_⟩
    · rw [List.all_eq_true]
      intro v hv
      obtain ⟨n, _, rfl⟩ := List.mem_map.mp hv
      rfl
    · have e : (if false = true then !inV (V.int i) (ns.map V.int) else inV (V.int i) (ns.map V.int)) = decide (i ∈ ns) := by
        show inV (V.int i) (ns.map V.int) = _
        unfold inV
        rw [List.any_map]
        by_cases hm : i ∈ ns
        · rw [decide_eq_true hm, List.any_eq_true]
          exact ⟨i, hm, by show eqV (V.int i) (V.int i) = true; rw [eqV_int]; simp⟩
        · rw [decide_eq_false hm]
          refine Bool.eq_false_iff.mpr fun z => ?_
          obtain ⟨n, h1, h2⟩ := List.any_eq_true.mp z
          have h3 : eqV (V.int n) (V.int i) = true := h2
          rw [eqV_int] at h3
          have := of_decide_eq_true h3
          subst this
          exact hm h1
      rw [e]
      exact q _ b1 h1 (Fr.rfl' z) (.bl _)
theorem rv_powI (h : CPow i j) : RvD K (rI CPow fun i j => .int (i ^ j.toNat)) (.int i) (.int j) (.int (i ^ j.toNat)) := rv_I h
/-- a def whose value is one of several -/
def spN (K : PySem.W.Frag) (P : List PyData → Prop) (R : List PyData → PyData → Prop) : Sp := fun vs H Q _ => ∃ b ds, Same b H ∧ DaAll K b vs ds ∧ P ds ∧ ∀ v d b2 h2, R ds d → Fr [] b H b2 h2 → Da K b2 v d → Q v h2
theorem Slots.adr {n : Nat} {a : Addr} (Sl : Slots K b σ Δ) (e : Δ[n]? = some (.adr a)) : σ[n]? = some (some (.ref a)) := by
  obtain ⟨x, e1, e2⟩ := Sl.get e
  rw [e1, e2]
end
end DV

namespace DV
open PySem L2
/-! what evaluates with draws from the box at a: at most c of them, to one of R -/
def EvT (K : PySem.W.Frag) (te : TE) (σ : St) (b : Hp) (a : Addr) (c : Int) (R : PyData → Prop) : Prop := ∀ b1 h1 n, Same b b1 → Same b1 h1 → b1 a = none → Tin a n h1 → n + c ≤ mostDraws → ∀ Q : VK,
  (∀ v d b2 h2, R d → Fr [a] b1 h1 b2 h2 → b2 a = none → Tin a (n + c) h2 → Da K b2 v d → Q v h2) → te σ h1 Q
def EvTs (K : PySem.W.Frag) (ta : TA) (σ : St) (b : Hp) (a : Addr) (c : Int) (R : List PyData → Prop) : Prop := ∀ b1 h1 n, Same b b1 → Same b1 h1 → b1 a = none → Tin a n h1 → n + c ≤ mostDraws → ∀ Q : List V → Hp → Prop,
  (∀ vs ds b2 h2, R ds → Fr [a] b1 h1 b2 h2 → b2 a = none → Tin a (n + c) h2 → DaAll K b2 vs ds → Q vs h2) → ta σ h1 Q
def EvBT (t : TT) (σ : St) (b : Hp) (a : Addr) (c : Int) (R : Bool → Prop) : Prop := ∀ b1 h1 n, Same b b1 → Same b1 h1 → b1 a = none → Tin a n h1 → n + c ≤ mostDraws → ∀ Q : Bool → Hp → Prop,
  (∀ d b2 h2, R d → Fr [a] b1 h1 b2 h2 → b2 a = none → Tin a (n + c) h2 → Q d h2) → t σ h1 Q
section
variable {K : PySem.W.Frag} {B : List Addr} {b0 h0 : Hp} {σ : St} {b b' h : Hp} {te ta tb tc : TE} {d d1 d2 d3 : PyData} {Δ : List SD} {t u : TT} {r r' : R2} {i j : Int} {D : Ends} {tu tw tz : TS} {a : Addr} {c c1 c2 n : Int} {R R1 R2 : PyData → Prop}
theorem t_pure (hd : EvD K te σ b d) : EvT K te σ b a 0 (· = d) := fun b1 h1 n s z hb T _ Q q => hd b1 h1 s z Q fun v b2 h2 F dd => by
  obtain ⟨T2, hb2⟩ := T.keep F hb
  exact q v d b2 h2 rfl F.any hb2 (by rw [Int.add_zero]; exact T2) dd
theorem t_mono (h : EvT K te σ b a c R) (e : ∀ d, R d → R1 d) : EvT K te σ b a c R1 := fun b1 h1 n s z hb T hn Q q => h b1 h1 n s z hb T hn Q fun v d b2 h2 r => q v d b2 h2 (e d r)
theorem t_le (h : EvT K te σ b a c R) (e : c ≤ c1) : EvT K te σ b a c1 R := fun b1 h1 n s z hb T hn Q q => h b1 h1 n s z hb T (by omega) Q fun v d b2 h2 r F hb2 T2 => q v d b2 h2 r F hb2 (T2.le (by omega))
theorem t_op {R1 R2 : PyData → Prop} {r : L2.R2} (ha : EvT K ta σ b a c1 R1) (hb : EvT K tb σ b a c2 R2) (h1 : 0 ≤ c1) (h2 : 0 ≤ c2) (hr : ∀ d1 d2, R1 d1 → R2 d2 → ∃ d, RvD K r d1 d2 d ∧ R d) : EvT K (tOp r ta tb) σ b a (c1 + c2) R := fun b1 g1 n s z hb1 T hn Q q =>
  ha b1 g1 n s z hb1 T (by omega) _ fun x dx b2 g2 rx F1 hb2 T2 D1 => hb b2 g2 (n + c1) (s.trans F1.base) F1.sub hb2 T2 (by omega) _ fun y dy b3 g3 ry F2 hb3 T3 D2 => by
    obtain ⟨d, rv, rd⟩ := hr dx dy rx ry
    refine rv b3 g3 F2.sub x y (D1.mono F2.base) D2 Q fun v b4 g4 F3 D3 => ?_
    obtain ⟨T4, hb4⟩ := T3.keep F3 hb3
    exact q v d b4 g4 rd ((F1.trans F2).trans F3.any) hb4 (by rw [← Int.add_assoc]; exact T4) D3
theorem t_callT {m : Nat} {R : List PyData → PyData → Prop} {P : List PyData → Prop} {E : XK} {tr : TA} {ds : List PyData} (Sl : Slots K b σ Δ) (e : Δ[m]? = some (.adr a)) (ha : EvDs K tr σ b ds) (hP : P ds) : EvT K (tCall (spT K c R P) [] E (tCons (tVar m) tr)) σ b a c (R ds) := fun b1 h1 n s z hb T hn Q q => by
  refine ⟨.ref a, Sl.adr e, ha b1 h1 s z _ fun ws b2 h2 F dd => ?_⟩
  obtain ⟨T2, hb2⟩ := T.keep F hb
  exact ⟨b2, a, ws, ds, n, by rw [List.append_nil], F.sub, hb2, T2, hn, dd, hP, fun v d b3 h3 r F3 hb3 T3 D3 => q v d b3 h3 r (F.any.trans F3) hb3 T3 D3⟩
theorem t_callT1 {m : Nat} {R : List PyData → PyData → Prop} {P : List PyData → Prop} {E : XK} (Sl : Slots K b σ Δ) (e : Δ[m]? = some (.adr a)) (hP : P []) : EvT K (tCall (spT K c R P) [] E (tCons (tVar m) tNil)) σ b a c (R []) := t_callT Sl e ds_nil hP
theorem ts_nil : EvTs K tNil σ b a 0 (· = []) := fun b1 h1 n s z hb T _ Q q => q _ _ b1 h1 rfl (Fr.rfl' z) hb (by rw [Int.add_zero]; exact T) .nil
theorem ts_cons {tr : TA} {Rs : List PyData → Prop} (ha : EvT K te σ b a c1 R) (hr : EvTs K tr σ b a c2 Rs) (h1 : 0 ≤ c1) (h2 : 0 ≤ c2) : EvTs K (tCons te tr) σ b a (c1 + c2) (fun ds => ∃ d es, ds = d :: es ∧ R d ∧ Rs es) := fun b1 g1 n s z hb T hn Q q =>
  ha b1 g1 n s z hb T (by omega) _ fun v d b2 g2 rd F hb2 T2 D2 => hr b2 g2 (n + c1) (s.trans F.base) F.sub hb2 T2 (by omega) _ fun vs ds b3 g3 rs F2 hb3 T3 D3 =>
    q _ _ b3 g3 ⟨d, ds, rfl, rd, rs⟩ (F.trans F2) hb3 (by rw [← Int.add_assoc]; exact T3) (.cons (D2.mono F2.base) D3)
theorem t_tup {tA : TA} {Rs : List PyData → Prop} (h : EvTs K tA σ b a c Rs) (hl : ∀ ds, Rs ds → ds.length ≤ 100000) : EvT K (tTup tA) σ b a c (fun d => ∃ ds, d = .tuple ds ∧ Rs ds) := fun b1 h1 n s z hb T hn Q q =>
  h b1 h1 n s z hb T hn _ fun vs ds b2 h2 rs F hb2 T2 D2 => ⟨Nat.le_trans (by rw [D2.length]; exact hl ds rs) (by decide), fun p hp => by
    have L : Fr [a] b2 h2 (upd b2 p (.tup vs)) (upd h2 p (.tup vs)) := Fr.laid F.sub hp
    obtain ⟨T3, hb3⟩ := T2.keep (Fr.laid (B := []) F.sub hp) hb2
    exact q _ _ _ _ ⟨ds, rfl, rs⟩ (F.trans L) hb3 T3 (.tup (.inl (.inl upd_same)) (D2.mono L.base))⟩
theorem t_lst {tA : TA} {Rs : List PyData → Prop} (h : EvTs K tA σ b a c Rs) (hl : ∀ ds, Rs ds → ds.length ≤ 100000) : EvT K (tLst tA) σ b a c (fun d => ∃ ds, d = .list ds ∧ Rs ds) := fun b1 h1 n s z hb T hn Q q =>
  h b1 h1 n s z hb T hn _ fun vs ds b2 h2 rs F hb2 T2 D2 => ⟨Nat.le_trans (by rw [D2.length]; exact hl ds rs) (by decide), fun p hp => by
    have L : Fr [a] b2 h2 (upd b2 p (.lst vs)) (upd h2 p (.lst vs)) := Fr.laid F.sub hp
    obtain ⟨T3, hb3⟩ := T2.keep (Fr.laid (B := []) F.sub hp) hb2
    exact q _ _ _ _ ⟨ds, rfl, rs⟩ (F.trans L) hb3 T3 (.lst upd_same (D2.mono L.base))⟩
theorem S.draw {b2 h2 : Hp} (Z : S K B b0 h0 σ b h Δ) (hB : a ∈ B ∨ h0 a = none) (F : Fr [a] b h b2 h2) : S K B b0 h0 σ b2 h2 Δ := ⟨Z.fr.new F fun q m => by
  have e : q = a := by simpa using m
  rw [e]; exact hB, Z.sl.mono F.base⟩
theorem q_asgT {m : Nat} (Z : S K B b0 h0 σ b h Δ) (hb : b a = none) (hB : a ∈ B ∨ h0 a = none) (T : Tin a n h) (hn : n + c ≤ mostDraws) (he : EvT K te σ b a c R) (k : ∀ d σ2 b2 h2, R d → S K B b0 h0 σ2 b2 h2 (Δ.set m (.dat d)) → b2 a = none → Tin a (n + c) h2 → tz D σ2 h2) : tSeq (tAsg te (gName m)) tz D σ h :=
  he b h n (Same.refl b) Z.sub hb T hn _ fun v d b2 h2 rd F hb2 T2 D2 => k d _ b2 h2 rd ⟨(Z.draw hB F).fr, (Z.draw hB F).sl.set (z := .dat d) ⟨v, rfl, D2⟩ m⟩ hb2 T2
theorem q_parT {m1 m2 : Nat} {tA : TA} {Rs : List PyData → Prop} (Z : S K B b0 h0 σ b h Δ) (hb : b a = none) (hB : a ∈ B ∨ h0 a = none) (T : Tin a n h) (hn : n + c ≤ mostDraws) (he : EvTs K tA σ b a c Rs) (hl : ∀ ds, Rs ds → ∃ d1 d2, ds = [d1, d2])
    (k : ∀ d1 d2 σ2 b2 h2, Rs [d1, d2] → S K B b0 h0 σ2 b2 h2 ((Δ.set m1 (.dat d1)).set m2 (.dat d2)) → b2 a = none → Tin a (n + c) h2 → tz D σ2 h2) : tSeq (tPar m1 m2 tA) tz D σ h :=
  he b h n (Same.refl b) Z.sub hb T hn _ fun vs ds b2 h2 rd F hb2 T2 D2 => by
    obtain ⟨d1, d2, rfl⟩ := hl ds rd
    cases D2 with
    | cons x1 r =>
      cases r with
      | cons x2 r =>
        cases r
        exact ⟨_, _, rfl, k d1 d2 _ b2 h2 rd ⟨(Z.draw hB F).fr, ((Z.draw hB F).sl.set (z := .dat d1) ⟨_, rfl, x1⟩ m1).set (z := .dat d2) ⟨_, rfl, x2⟩ m2⟩ hb2 T2⟩
theorem s_retT (Z : S K B b0 h0 σ b h Δ) (hb : b a = none) (hB : a ∈ B ∨ h0 a = none) (T : Tin a n h) (hn : n + c ≤ mostDraws) (he : EvT K te σ b a c R) (k : ∀ v d b2 h2, R d → Fr B b0 h0 b2 h2 → b2 a = none → Tin a (n + c) h2 → Da K b2 v d → D.rt v h2) : tRet te D σ h :=
  he b h n (Same.refl b) Z.sub hb T hn _ fun v d b2 h2 rd F hb2 T2 D2 => k v d b2 h2 rd (Z.draw hB F).fr hb2 T2 D2
/-- what changes nothing, the box beside -/
theorem q_asgK {m : Nat} (Z : S K B b0 h0 σ b h Δ) (hb : b a = none) (T : Tin a n h) (he : EvD K te σ b d) (k : ∀ σ2 b2 h2, S K B b0 h0 σ2 b2 h2 (Δ.set m (.dat d)) → b2 a = none → Tin a n h2 → Fr [] b h b2 h2 → tz D σ2 h2) : tSeq (tAsg te (gName m)) tz D σ h :=
  q_asg Z he fun σ2 b2 h2 F Z2 => by
    obtain ⟨T2, hb2⟩ := T.keep F hb
    exact k σ2 b2 h2 Z2 hb2 T2 F
theorem q_whenFK {c : Bool} (Z : S K B b0 h0 σ b h Δ) (hb : b a = none) (T : Tin a n h) (he : EvB t σ b c) (e : c = false) (k : ∀ b2 h2, S K B b0 h0 σ b2 h2 Δ → b2 a = none → Tin a n h2 → Fr [] b h b2 h2 → tz D σ h2) : tSeq (tIfS t tu tNext) tz D σ h :=
  q_whenF Z he e fun b2 h2 F Z2 => by
    obtain ⟨T2, hb2⟩ := T.keep F hb
    exact k b2 h2 Z2 hb2 T2 F
theorem s_retK (Z : S K B b0 h0 σ b h Δ) (hb : b a = none) (T : Tin a n h) (he : EvD K te σ b d) (k : ∀ v b2 h2, Fr B b0 h0 b2 h2 → b2 a = none → Tin a n h2 → Da K b2 v d → D.rt v h2) : tRet te D σ h :=
  he.go Z.sub fun v b2 h2 F dd => by
    obtain ⟨T2, hb2⟩ := T.keep F hb
    exact k v b2 h2 (Z.fr.trans F.any) hb2 T2 dd
end
end DV

namespace DV
open PySem L2
section
variable {K : PySem.W.Frag} {B : List Addr} {b0 h0 : Hp} {σ : St} {b b' h : Hp} {te ta tb tc : TE} {d d1 d2 d3 : PyData} {Δ : List SD} {t u : TT} {r r' : R2} {i j : Int} {D : Ends} {tu tw tz : TS} {a : Addr} {c c1 c2 n : Int} {R R1 R2 : PyData → Prop}
/-- a new list, its first items given, that is going to be changed -/
theorem q_newL {m : Nat} {tA : TA} {ds : List PyData} (Z : S K B b0 h0 σ b h Δ) (he : EvDs K tA σ b ds) (hl : ds.length ≤ 100000) (k : ∀ p vs σ2 b2 h2, Fr [] b h b2 h2 → h p = none → b2 p = none → h2 p = some (.lst vs) → DaAll K b2 vs ds → S K B b0 h0 σ2 b2 h2 (Δ.set m (.adr p)) → tz D σ2 h2) : tSeq (tAsg (tLst tA) (gName m)) tz D σ h :=
  he b h (Same.refl b) Z.sub _ fun vs b2 h2 F dd => ⟨Nat.le_trans (by rw [dd.length]; exact hl) (by decide), fun p hp => by
    have L : Fr [] b2 h2 b2 (upd h2 p (.lst vs)) := Fr.fresh F.sub hp
    refine k p vs _ b2 _ (F.trans L) ?_ (F.sub.free hp) upd_same dd ⟨(Z.fr.trans F.any).trans L.any, (Z.sl.mono F.base).set (z := .adr p) rfl m⟩
    cases e : h p with
    | none => rfl
    | some o =>
      have := F.live p (by rw [e]; rfl)
      rw [hp] at this
      cases this⟩
/-- x, y, z = [], e, e' with a new list first -/
theorem q_par3L {n1 n2 n3 : Nat} (Z : S K B b0 h0 σ b h Δ) (e2 : EvD K ta σ b d2) (e3 : EvD K tb σ b d3) (k : ∀ p σ2 b2 h2, Fr [] b h b2 h2 → h p = none → b2 p = none → h2 p = some (.lst []) → S K B b0 h0 σ2 b2 h2 (((Δ.set n1 (.adr p)).set n2 (.dat d2)).set n3 (.dat d3)) → tz D σ2 h2) :
    tSeq (tPar3 n1 n2 n3 (tCons (tLst tNil) (tCons ta (tCons tb tNil)))) tz D σ h :=
  ⟨Nat.zero_le _, fun p hp => by
    have L : Fr [] b h b (upd h p (.lst [])) := Fr.fresh Z.sub hp
    have bp : b p = none := Z.sub.free hp
    refine e2 b _ (Same.refl b) L.sub _ fun v2 b2 g2 F2 D2 => e3 b2 g2 F2.base F2.sub _ fun v3 b3 g3 F3 D3 => ?_
    have p2 := F2.keep p _ bp (by intro q; cases q) upd_same
    have q2 := F2.out p bp (by rw [upd_same]; rfl)
    have p3 := F3.keep p _ q2 (by intro q; cases q) p2
    have q3 := F3.out p q2 (by rw [p2]; rfl)
    have G : Fr [] b h b3 g3 := (L.trans F2).trans F3
    exact ⟨_, _, _, rfl, k p _ b3 g3 G hp q3 p3 ⟨Z.fr.trans G.any, (((Z.sl.mono G.base).set (z := .adr p) rfl n1).set (z := .dat d2) ⟨_, rfl, D2.mono F3.base⟩ n2).set (z := .dat d3) ⟨_, rfl, D3⟩ n3⟩⟩⟩
/-- a comprehension over a range whose element draws -/
theorem t_lcR1 {tA : TA} {m : Nat} {vs : List Nat} {k : Int} (Sl : Slots K b σ Δ) (he : EvDs K tA σ b [.int k]) (hk : 0 ≤ k ∧ k ≤ 90000) (hc : 0 ≤ c) (hw : ∀ x, wipe ((wipe σ vs).set m (some x)) vs = wipe σ vs)
    (ht : ∀ (i : Nat) σ2 b2, (i : Int) < k → Same b b2 → Slots K b2 σ2 ((wipeD Δ vs).set m (.dat (.int (0 + (i : Int))))) → EvT K te σ2 b2 a c R) :
    EvT K (tLc (iRng1 tA) (gName m) tYes te vs) σ b a (k * c) (fun d => ∃ ds, d = .list ds ∧ (ds.length : Int) = k ∧ ∀ d ∈ ds, R d) := fun b1 h1 n s z hb T hn Q q =>
  he b1 h1 s z _ fun v b2 h2 F dd => by
    cases dd with
    | cons x r =>
      cases r; cases x
      obtain ⟨T2, hb2⟩ := T.keep F hb
      refine ⟨k, rfl, by omega, by omega, fun Dl hD => ?_⟩
      have hDa : Dl ≠ a := by
        intro e; subst e
        obtain ⟨_, _, _, e, _⟩ := T2
        rw [hD] at e; cases e
      refine lc_range (lo := 0) (n := k.toNat) (fun i H => ∃ b' acc ds, Fr [a] b2 h2 b' H ∧ b' Dl = none ∧ b' a = none ∧ Tin a (n + (i : Int) * c) H ∧ H Dl = some (.lst acc) ∧ DaAll K b' acc ds ∧ ds.length = i ∧ ∀ d ∈ ds, R d)
        ⟨b2, [], [], Fr.fresh F.sub hD, F.sub.free hD, hb2, ?_, upd_same, .nil, rfl, fun _ z => by cases z⟩ (fun i H hi p => ⟨hw _, ?_⟩) (fun H p => ?_)
      · obtain ⟨x, y, z, e, w⟩ := T2
        have e0 : n + ((0 : Nat) : Int) * c = n := by simp
        rw [e0]
        exact ⟨x, y, z, by rw [upd_ne hDa.symm]; exact e, w⟩
      · obtain ⟨b', acc, ds, F3, bD, ba, T3, hA, DA, hlen, hR⟩ := p
        have hi' : (i : Int) < k := by omega
        have hnn : n + (i : Int) * c + c ≤ mostDraws := by
          have h1 : ((i : Int) + 1) * c ≤ k * c := Int.mul_le_mul_of_nonneg_right (by omega) hc
          have h2 : ((i : Int) + 1) * c = (i : Int) * c + c := by rw [Int.add_mul, Int.one_mul]
          omega
        refine ht i _ b' hi' ((s.trans F.base).trans F3.base) (((Sl.mono ((s.trans F.base).trans F3.base)).wipe vs).set (z := .dat (.int (0 + (i : Int)))) ⟨_, rfl, .int _⟩ m) b' H (n + (i : Int) * c) (Same.refl b') F3.sub ba T3 hnn _ fun v d b4 h4 rd F4 ba4 T4 D4 => ?_
        have a4 : h4 Dl = some (.lst acc) := F4.keep Dl _ bD (by intro q; exact hDa (by simpa using q)) hA
        have bD4 : b4 Dl = none := F4.out Dl bD (by rw [hA]; rfl)
        refine ⟨acc, a4, ?_, b4, acc ++ [v], ds ++ [d], (F3.trans F4).new (Fr.mut F4.sub bD4) (fun q m => .inr ?_), bD4, ba4, ?_, upd_same, (DA.mono F4.base).append (.cons D4 .nil), ?_, ?_⟩
        · rw [DA.length, hlen]
          have : i < 90000 := by omega
          exact Nat.lt_of_lt_of_le this (by decide)
        · have e : q = Dl := by simpa using m
          rw [e]; exact hD
        · obtain ⟨x, y, z, e, w1, w2, w3, w4⟩ := T4
          have e1 : n + (((i + 1 : Nat) : Int)) * c = n + (i : Int) * c + c := by
            have : (((i + 1 : Nat) : Int)) = (i : Int) + 1 := by omega
            rw [this, Int.add_mul, Int.one_mul]
            omega
          rw [e1]
          exact ⟨x, y, z, by rw [upd_ne hDa.symm]; exact e, w1, w2, w3, w4⟩
        · rw [List.length_append, hlen]; rfl
        · intro d' hd'
          rcases List.mem_append.mp hd' with q | q
          · exact hR d' q
          · have : d' = d := by simpa using q
            rw [this]; exact rd
      · obtain ⟨b', acc, ds, F3, bD, ba, T3, hA, DA, hlen, hR⟩ := p
        obtain ⟨s1, s2⟩ := Fr.seal F3.sub bD hA
        have e1 : ((k.toNat : Nat) : Int) = k := by omega
        rw [e1] at T3
        refine q (.ref Dl) _ (upd b' Dl (.lst acc)) H ⟨ds, rfl, by omega, hR⟩ (F.any.trans ⟨F3.base.trans s1, s2, fun q n m => ?_, F3.keep, F3.live⟩) (by rw [upd_ne hDa.symm]; exact ba) T3 (.lst upd_same (DA.mono s1))
        have hc : q ≠ Dl := by intro e; subst e; rw [hD] at m; cases m
        rw [upd_ne hc]
        exact F3.out q n m
/-- a built-in on what was drawn -/
theorem t_cb1 {r : List V → Hp → VK → Prop} (h : EvT K te σ b a c R) (hr : ∀ d, R d → ∃ e, RcD K r [d] e ∧ R1 e) : EvT K (tCB r (tCons te tNil)) σ b a c R1 := fun b1 h1 n s z hb T hn Q q =>
  h b1 h1 n s z hb T hn _ fun v d b2 h2 rd F hb2 T2 D2 => by
    obtain ⟨e, rc, re⟩ := hr d rd
    refine rc b2 h2 F.sub [v] (.cons D2 .nil) Q fun v b3 h3 F3 D3 => ?_
    obtain ⟨T3, hb3⟩ := T2.keep F3 hb2
    exact q v e b3 h3 re (F.trans F3.any) hb3 T3 D3
theorem q_par3T {m1 m2 m3 : Nat} {tA : TA} {Rs : List PyData → Prop} (Z : S K B b0 h0 σ b h Δ) (hb : b a = none) (hB : a ∈ B ∨ h0 a = none) (T : Tin a n h) (hn : n + c ≤ mostDraws) (he : EvTs K tA σ b a c Rs) (hl : ∀ ds, Rs ds → ∃ d1 d2 d3, ds = [d1, d2, d3])
    (k : ∀ d1 d2 d3 σ2 b2 h2, Rs [d1, d2, d3] → S K B b0 h0 σ2 b2 h2 (((Δ.set m1 (.dat d1)).set m2 (.dat d2)).set m3 (.dat d3)) → b2 a = none → Tin a (n + c) h2 → tz D σ2 h2) : tSeq (tPar3 m1 m2 m3 tA) tz D σ h :=
  he b h n (Same.refl b) Z.sub hb T hn _ fun vs ds b2 h2 rd F hb2 T2 D2 => by
    obtain ⟨d1, d2, d3, rfl⟩ := hl ds rd
    cases D2 with
    | cons x1 r =>
      cases r with
      | cons x2 r =>
        cases r with
        | cons x3 r =>
          cases r
          exact ⟨_, _, _, rfl, k d1 d2 d3 _ b2 h2 rd ⟨(Z.draw hB F).fr, (((Z.draw hB F).sl.set (z := .dat d1) ⟨_, rfl, x1⟩ m1).set (z := .dat d2) ⟨_, rfl, x2⟩ m2).set (z := .dat d3) ⟨_, rfl, x3⟩ m3⟩ hb2 T2⟩
theorem q_tupT3 {m1 m2 m3 : Nat} (Z : S K B b0 h0 σ b h Δ) (hb : b a = none) (hB : a ∈ B ∨ h0 a = none) (T : Tin a n h) (hn : n + c ≤ mostDraws) (he : EvT K te σ b a c R) (hl : ∀ d, R d → ∃ d1 d2 d3, d = .tuple [d1, d2, d3])
    (k : ∀ d1 d2 d3 σ2 b2 h2, R (.tuple [d1, d2, d3]) → S K B b0 h0 σ2 b2 h2 (((Δ.set m1 (.dat d1)).set m2 (.dat d2)).set m3 (.dat d3)) → b2 a = none → Tin a (n + c) h2 → tz D σ2 h2) : tSeq (tAsg te (gTup K 3 (gCons (gName m1) (gCons (gName m2) (gCons (gName m3) gNil))))) tz D σ h :=
  he b h n (Same.refl b) Z.sub hb T hn _ fun v d b2 h2 rd F hb2 T2 D2 => by
    obtain ⟨d1, d2, d3, rfl⟩ := hl d rd
    exact g_tup3 (Z.draw hB F) D2 fun σ2 Z2 => k d1 d2 d3 σ2 b2 h2 rd Z2 hb2 T2
theorem q_tupT2 {m1 m2 : Nat} (Z : S K B b0 h0 σ b h Δ) (hb : b a = none) (hB : a ∈ B ∨ h0 a = none) (T : Tin a n h) (hn : n + c ≤ mostDraws) (he : EvT K te σ b a c R) (hl : ∀ d, R d → ∃ d1 d2, d = .tuple [d1, d2])
    (k : ∀ d1 d2 σ2 b2 h2, R (.tuple [d1, d2]) → S K B b0 h0 σ2 b2 h2 ((Δ.set m1 (.dat d1)).set m2 (.dat d2)) → b2 a = none → Tin a (n + c) h2 → tz D σ2 h2) : tSeq (tAsg te (gTup K 2 (gCons (gName m1) (gCons (gName m2) gNil)))) tz D σ h :=
  he b h n (Same.refl b) Z.sub hb T hn _ fun v d b2 h2 rd F hb2 T2 D2 => by
    obtain ⟨d1, d2, rfl⟩ := hl d rd
    exact g_tup2 (Z.draw hB F) D2 fun σ2 Z2 => k d1 d2 σ2 b2 h2 rd Z2 hb2 T2
theorem S.new0 {p : Addr} (Z : S K B b0 h0 σ b h Δ) (hp : h p = none) : h0 p = none := by
  cases e : h0 p with
  | none => rfl
  | some o =>
    have := Z.fr.live p (by rw [e]; rfl)
    rw [hp] at this
    cases this
theorem Tin.keepB {p : Addr} {b2 h2 : Hp} (T : Tin a n h) (F : Fr [p] b h b2 h2) (hb : b a = none) (hne : a ≠ p) : Tin a n h2 ∧ b2 a = none := by
  obtain ⟨x, y, z, e, q⟩ := T
  exact ⟨⟨x, y, z, F.keep a _ hb (by simpa using hne) e, q⟩, F.out a hb (by rw [e]; rfl)⟩
theorem Tin.ne {p : Addr} (T : Tin a n h) (hp : h p = none) : a ≠ p := by
  obtain ⟨x, y, z, e, q⟩ := T
  intro z; subst z; rw [hp] at e; cases e
theorem keepL {p : Addr} {xs : List V} {b2 h2 : Hp} (hx : h p = some (.lst xs)) (hb : b p = none) (F : Fr [] b h b2 h2) : h2 p = some (.lst xs) ∧ b2 p = none := ⟨F.keep p _ hb (by intro q; cases q) hx, F.out p hb (by rw [hx]; rfl)⟩
theorem rng_ints (lo : Int) (n : Nat) : rng lo n = ((List.range n).map fun (i : Nat) => lo + (i : Int)).map PyData.int := by
  unfold rng
  rw [List.map_map]
  rfl
theorem filt_ints (L : List Int) (f : PyData → Bool) : ((L.map PyData.int).filter f).map (fun d => d) = (L.filter fun i => f (.int i)).map PyData.int := by
  rw [List.map_id', List.filter_map]
  rfl
theorem canAll_ints : ∀ L : List Int, PyData.canLayAll0 (L.map PyData.int) = true
  | [] => rfl
  | i :: L => by
    show (PyData.canLay0 (.int i) && PyData.canLayAll0 (L.map PyData.int)) = true
    rw [canAll_ints L]
    rfl
theorem depAll_ints : ∀ L : List Int, PyData.depthAll (L.map PyData.int) = 0
  | [] => rfl
  | i :: L => by
    show max (PyData.depth (.int i)) (PyData.depthAll (L.map PyData.int)) = 0
    rw [depAll_ints L]
    rfl
theorem shaped_ints (L : List Int) : SeqAt.shaped (.list (L.map PyData.int)) = true := by
  show (PyData.canLay0 (.list (L.map PyData.int)) && decide (PyData.depth (.list (L.map PyData.int)) ≤ 64)) = true
  have h1 : PyData.canLay0 (.list (L.map PyData.int)) = true := canAll_ints L
  have h2 : PyData.depth (.list (L.map PyData.int)) = 1 := by
    show PyData.depthAll (L.map PyData.int) + 1 = 1
    rw [depAll_ints L]
  rw [h1, h2]
  rfl
def optD : Option Int → PyData
  | some i => .int i
  | none => .none
theorem fineB (L : List Int) : (!PyData.eqv (.list (L.map PyData.int)) (.list [])) = !L.isEmpty := by
  cases L with
  | nil => rfl
  | cons x r => rfl
/-- xs[0] if xs != [] else None, xs[-1] likewise -/
theorem d_first {m : Nat} {L : List Int} (Z : S K B b0 h0 σ b h Δ) (e : Δ[m]? = some (.dat (.list (L.map PyData.int)))) : EvD K (tIf (tTest (tOp (rNeA K) (tVar m) (tLst tNil))) (tOp (rIx K) (tVar m) (tC (.int 0))) (tC .non)) σ b (optD L.head?) := by
  refine d_if (c := !L.isEmpty) (EvB.is (b_test (d_op (d_varZ Z e) (d_lst ds_nil (Nat.zero_le _)) (rv_neAD (shaped_ints L) rfl))) (fineB L)) (fun hc => ?_) (fun hc => ?_)
  · cases L with
    | nil => cases hc
    | cons x r => exact d_op (d_varZ Z e) (d_int 0) (rv_ixL (atI_nat (j := 0) rfl))
  · cases L with
    | nil => exact d_non
    | cons x r => cases hc
theorem d_last {m : Nat} {L : List Int} (Z : S K B b0 h0 σ b h Δ) (e : Δ[m]? = some (.dat (.list (L.map PyData.int)))) : EvD K (tIf (tTest (tOp (rNeA K) (tVar m) (tLst tNil))) (tOp (rIx K) (tVar m) (tUn (rU fun i => .int (-i)) (tC (.int 1)))) (tC .non)) σ b (optD L.getLast?) := by
  refine d_if (c := !L.isEmpty) (EvB.is (b_test (d_op (d_varZ Z e) (d_lst ds_nil (Nat.zero_le _)) (rv_neAD (shaped_ints L) rfl))) (fineB L)) (fun hc => ?_) (fun hc => ?_)
  · cases hL : L with
    | nil => rw [hL] at hc; cases hc
    | cons x r =>
      rw [← hL]
      have hne : L ≠ [] := by rw [hL]; exact List.cons_ne_nil _ _
      have e1 : L = L.dropLast ++ [L.getLast hne] := (List.dropLast_concat_getLast hne).symm
      have e2 : L.getLast? = some (L.getLast hne) := List.getLast?_eq_getLast hne
      rw [e2]
      refine d_op (d_varZ Z e) (d_neg (d_int 1)) (rv_ixL ?_)
      have e3 : L.map PyData.int = L.dropLast.map PyData.int ++ [.int (L.getLast hne)] := by
        conv => lhs; rw [e1]
        rw [List.map_append]
        rfl
      rw [e3]
      exact atI_last _ _
  · cases L with
    | nil => exact d_non
    | cons x r => cases hc
end
end DV

namespace DV
open PySem L2
/-! t[::-1], t a tuple -/
section
variable {prog : Program} {w : World} {A : Around} {E : Value → Shared → Prop} {s : Shared}
theorem adj_back (n : Nat) : Builtin.Slice.sliceAdjust none none (-1) (n : Int) = ((n : Int) - 1, -1) := by
  unfold Builtin.Slice.sliceAdjust
  simp
theorem plc_back (n : Nat) : Builtin.Slice.slicePlaces ((n : Int) - 1) (-1) (-1) = n := by
  unfold Builtin.Slice.slicePlaces
  simp
  omega
theorem app_back {sl : Addr} {q : Value} {n : Nat} {Q : Int × Int × Nat → Shared → Prop} (hs : s.heap.IsSliceOf sl .none .none q) (pq : IsPart q (some (-1))) (h : Q ((n : Int) - 1, -1, n) s) :
    wpAny (model prog w) A (Builtin.Slice.sliceApplied (.ref sl) (pure (n : Int))) Q E s := by
  obtain ⟨os, c1, c2, c3⟩ := id hs
  unfold Builtin.Slice.sliceApplied Builtin.Slice.sliceFields
  refine wpAny_bind (wpAny_bind (wpAny_field c1 c3 (x := .none) rfl (wpAny_bind (wpAny_field c1 c3 (x := .none) rfl (wpAny_bind (wpAny_field c1 c3 (x := q) rfl (wpAny_pure ?g)))))))
  refine wpAny_bind (HT.slicePart_ pq ?_)
  show wpAny _ _ (if ((-1 : Int) == 0) = true then _ else _) _ _ s
  rw [if_neg (show ¬ ((-1 : Int) == 0) = true by decide)]
  refine wpAny_bind (HT.slicePart_ .none (wpAny_bind (HT.slicePart_ .none (wpAny_bind (wpAny_pure ?_)))))
  show wpAny _ _ (match Builtin.Slice.sliceAdjust none none (-1) (n : Int) with | (a, b) => pure (a, (-1 : Int), Builtin.Slice.slicePlaces a b (-1))) _ _ s
  rw [adj_back n]
  show wpAny _ _ (pure ((n : Int) - 1, (-1 : Int), Builtin.Slice.slicePlaces ((n : Int) - 1) (-1) (-1))) _ _ s
  rw [plc_back]
  exact wpAny_pure h
theorem fm_congr {α β : Type} {f g : α → Option β} : ∀ {l : List α}, (∀ a ∈ l, f a = g a) → l.filterMap f = l.filterMap g
  | [], _ => rfl
  | a :: l, h => by
    rw [List.filterMap_cons, List.filterMap_cons, h a (List.mem_cons_self ..), fm_congr fun x hx => h x (List.mem_cons_of_mem _ hx)]
theorem pick_back (xs : Array Value) : ((List.range xs.size).filterMap fun (m : Nat) => xs[(((xs.size : Int) - 1) + (m : Int) * -1).toNat]?).toArray = xs.toList.reverse.toArray := by
  have e : ∀ m ∈ List.range xs.size, (fun (m : Nat) => xs[(((xs.size : Int) - 1) + (m : Int) * -1).toNat]?) m = ((fun k => xs[k]?) ∘ fun k => xs.size - 1 - k) m := fun m hm => by
    have h1 := List.mem_range.mp hm
    have h2 : (((xs.size : Int) - 1) + (m : Int) * -1).toNat = xs.size - 1 - m := by omega
    show xs[(((xs.size : Int) - 1) + (m : Int) * -1).toNat]? = xs[xs.size - 1 - m]?
    rw [h2]
  rw [fm_congr e, ← List.filterMap_map, PySem.W.krv_range, List.filterMap_reverse, PySem.W.krv_all]
theorem get_back {t sl : Addr} {items : Array Value} {q : Value} {Q : Value → Shared → Prop} (ht : PyProof.Rows.IsTup s.heap t items) (hs : s.heap.IsSliceOf sl .none .none q) (pq : IsPart q (some (-1))) (hz : items.size ≤ sizeLine)
    (h : Q (.ref s.heap.objs.size) { s with heap := s.heap.push { cls := .type "tuple", data := .seq items.toList.reverse.toArray } }) : wpAny (model prog w) A (getItem (.ref t) (.ref sl)) Q E s := by
  have z2 : sizeOk (.seq items.toList.reverse.toArray) := by
    show items.toList.reverse.toArray.size ≤ sizeLine
    simpa using hz
  obtain ⟨os, c1, c2, c3⟩ := id hs
  have tS : s.TypeIs (.ref sl) "slice" := ⟨os, c1, c2⟩
  unfold getItem
  try with_reducible refine wpAny_holding ?_
  first | refine wpAny_bind (wpAny_pure ?_) | skip
  refine wpAny_bind (wpAny_sequenceKey ht.typeIs (by decide) ?_)
  refine wpAny_bind (wpAny_callSpecial?_slot (name := Str.ofString "__getitem__") ht.typeIs PyProof.Rows.slot_tuple_getitem (wpAny_call_entry PyProof.Rows.slot_tuple_getitem ht.typeIs PyProof.Rows.entry_tuple_getitem ?g (PyProof.Rows.args_tuple_getitem _ _)))
  show wpAny _ _ (Builtin.Tuple.tupleItemsOf (.ref t) >>= _) _ _ s
  refine wpAny_bind (PyProof.Rows.tupleItemsOf_ ht ?_)
  refine wpAny_bind (wpAny_typeOf tS ?_)
  rw [if_pos (by decide)]
  refine wpAny_bind (app_back hs pq ?_)
  have no : ¬ ((((items.size : Int) - 1) == 0 && (-1 : Int) == 1 && items.size == items.size) = true) := by simp
  show wpAny _ _ (if (((items.size : Int) - 1) == 0 && (-1 : Int) == 1 && items.size == items.size) = true then _ else _) _ _ s
  rw [if_neg no, pick_back]
  first
    | exact wpAny_bind (m := Builtin.Tuple.tupleExact _) (wpAny_newObj_type (wpAny_pure ⟨_, rfl, wpAny_pure h⟩) z2)
    | exact wpAny_bind (m := Builtin.Tuple.tupleExact _) (wpAny_newObj_type (wpAny_bind (wpAny_pure (wpAny_pure ⟨_, rfl, wpAny_pure h⟩))) z2)
    | exact wpAny_bind (wpAny_bind (m := Builtin.Tuple.tupleExact _) (wpAny_newObj_type (wpAny_pure (wpAny_pure ⟨_, rfl, wpAny_pure h⟩)) z2))
    | exact wpAny_bind (wpAny_bind (m := Builtin.Tuple.tupleExact _) (wpAny_newObj_type (wpAny_pure ⟨_, rfl, wpAny_pure h⟩) z2))
end
end DV
namespace DV
open PySem L2
section
variable {X : Cx}
end
end DV
namespace DV
open PySem PySem.Spec PyProof.Rows L2
section
variable {X : Cx}
def tBackT (K : PySem.W.Frag) (te : TE) : TE := fun σ H Q => te σ H fun x H1 => ∃ a xs, x = .ref a ∧ SqT K H1 a xs ∧ ∀ p, H1 p = none → Q (.ref p) (upd H1 p (.tup xs.reverse))
theorem pe_backT {e : Expr} {te : TE} {k : Nat} {p1 p2 p3 pos : Pos} (he : PE X e te) : PE X (.Subscript e (.Slice none none (some (.UnaryOp .USub (.Constant (.int 1) k p1) p2)) p3) pos) (tBackT X.K te) := by
  refine ⟨fun pins s σ H Q I hq => ?_⟩
  refine Subscript_ (thn (he.run pins s σ H _ I hq) fun v t1 ⟨x, H1, J1, r1, q1⟩ => ?_)
  obtain ⟨a, xs, rfl, hx, q⟩ := q1
  cases r1
  have hst : PO X (some (.UnaryOp .USub (.Constant (.int 1) k p1) p2)) (tPart (tUn (rU fun i => .int (-i)) (tC (.int 1)))) := po_some (pe_un un_neg pe_int)
  refine wpAny_Slice (thn (po_none.run pins t1 σ H1 (fun o G => o = none ∧ G = H1) J1 ⟨rfl, rfl⟩) fun v1 t2 ⟨l, H2, J2, w1, el, e2⟩ => ?_)
  subst el e2
  refine thn (po_none.run pins t2 σ H2 (fun o G => o = none ∧ G = H2) J2 ⟨rfl, rfl⟩) fun v2 t3 ⟨u, H3, J3, w2, eu, e3⟩ => ?_
  subst eu e3
  refine thn (hst.run pins t3 σ H3 (fun o G => o = some (-1) ∧ G = H3) J3 ⟨1, rfl, -1, rfl, rfl, rfl⟩) fun v3 t4 ⟨o, H4, J4, w3, eo, e4⟩ => ?_
  subst eo e4
  cases w1
  cases w2
  have J5 : Inv X pins σ H4 { t4 with heap := t4.heap.push { cls := .type "slice", data := .fields #[.none, .none, v3] } } := J4.kept (t' := t4.toks) fun b ob q => Heap.get?_push_of_some _ q
  obtain ⟨its, r, ht, hz⟩ := J5.tuple hx
  have hlen := r.length
  show wpAny (model X.prog X.w) X.A (subscriptTail e (.Slice none none (some (.UnaryOp .USub (.Constant (.int 1) k p1) p2)) p3) (.ref a) (.ref t4.heap.objs.size)) (EP X pins σ Q) X.xe { t4 with heap := t4.heap.push { cls := .type "slice", data := .fields #[.none, .none, v3] } }
  refine tail_any (ops := [.ref a, .ref t4.heap.objs.size]) ht.typeIs PyProof.Rows.slot_tuple_getitem.lookup ?_ (by with_unfolding_all rfl)
  refine get_back ht (Heap.IsSliceOf.new _ .none .none v3) w3 (by rw [List.size_toArray]; omega) ?_
  refine ⟨.ref _, _, J5.laid (t' := t4.toks) (o := .tup xs.reverse) (fun b ob q => Heap.get?_push_of_some _ q) (Nat.le_refl _) ?_, rfl, q _ (J5.hok.fresh (Nat.le_refl _))⟩
  exact ⟨by rw [List.length_reverse]; exact hz, its.reverse, r.reverse, IsTup.new _ _⟩
end
end DV

namespace DV
open PySem L2 PySem.Spec PyProof.Rows
/-! enumerate(t), t a tuple: as the library has it for lists, by its rules for what an iterator draws -/
/-- the object that enumerate makes over the iterator at n -/
abbrev enumObj (n : Addr) : Obj := { cls := .type "enumerate", data := .fields #[.none, .bool false, .ref n, rawInt 0, .none, .none] }
abbrev tupIt (a : Addr) : Obj := { cls := .type "tuple_iterator", data := .fields #[.ref a, .int 0 0] }
abbrev enumHeap (g : Heap) (a : Addr) : Heap := (g.push (tupIt a)).push (enumObj g.objs.size)
theorem meets_enumT (a : Addr) (its : Array Value) :
    Meets (Builtin.«enumerate.__new__» ⟨[.type "enumerate", .ref a], []⟩) (fun _ R z => z.heap.IsTuple a its ∧ R (.ok (.ret (.ref (z.heap.push (tupIt a)).objs.size))) { z with heap := enumHeap z.heap a }) := by
  refine .of_wp fun pr wd ar R z hz => ?_
  obtain ⟨g, ge, dr, tk, ot⟩ := z
  obtain ⟨ht, goal⟩ := hz
  have sub := sub_enumerate
  have begin' : ∀ {B : Around} {E' : Value → Shared → Prop} {Q' : Value → Shared → Prop}, Q' (.ref g.objs.size) ⟨g.push (tupIt a), ge, dr, tk, ot⟩ → wpAny (model pr wd) B (pyIter (.ref a)) Q' E' ⟨g, ge, dr, tk, ot⟩ := fun k => wpAny_pyIter_tuple ht k
  wp_walk using begin'
  refine wpAny_stack_any fun frames => wpAny_pure ?_
  split
  · next c _ _ _ _ _ => cases (c == Value.type "enumerate") <;> (wp_walk using begin'; exact ⟨_, rfl, goal⟩)
  · wp_walk using begin'
    exact ⟨_, rfl, goal⟩
theorem enum_tup {prog : Program} {w : World} {A : Around} {E : Value → Shared → Prop} {z : Shared} {a : Addr} {its : Array Value} {Q : Value → Shared → Prop} (ht : z.heap.IsTuple a its)
    (k : Q (.ref (z.heap.objs.size + 1)) { z with heap := enumHeap z.heap a }) : wpAny (model prog w) A (call (.type "enumerate") [.ref a]) Q E z := by
  have size1 : (z.heap.push (tupIt a)).objs.size = z.heap.objs.size + 1 := by rw [Heap.size_push]
  have there : (enumHeap z.heap a).get? (z.heap.objs.size + 1) = some (enumObj z.heap.objs.size) := by
    rw [← size1]
    exact Heap.get?_push_size _ rfl
  refine callType_new F.called_enumerate (by decide) (F.typeCall_enumerate_1 _) (F.newCall_enumerate_1 _) (fun ob => F.args_object_init_2 ob _) F.entry_enumerate_new (meets_enumT a its) ⟨ht, ?_⟩
  show _ ∧ _
  rw [size1]
  exact ⟨⟨_, there, rfl⟩, k⟩
/-- what the turns over enumerate of the tuple at a give: the index, the item, in a new pair -/
def IteT (K : PySem.W.Frag) (a : Addr) : It where
  go := fun n H => ∃ (vs : List V) (v : V), SqT K H a vs ∧ vs[n]? = some v
  yld := fun n H y H' => ∃ P v, y = .ref P ∧ H P = none ∧ H' = upd H P (.tup [.int (n : Nat), v]) ∧ ∀ vs, SqT K H a vs → vs[n]? = some v
  stop := fun n H => ∃ vs : List V, SqT K H a vs ∧ vs.length = n
def EnSt (a e t : Addr) (n : Nat) (g : Heap) : Prop := (∃ last, IsEnum g e t ((n : Nat) : Int) last) ∧ g.IsTupleIter t a n ∧ e ≠ t ∧ e ≠ a ∧ a ≠ t
theorem two_mem {e t b : Addr} (m : b ∈ [e, t]) : b = e ∨ b = t := by simpa using m
theorem turn_enumT {P : Program} {w : World} {K : PySem.W.Frag} {elts : List Expr} {kk : Nat} {tpos : Pos} (a e t : Addr) : Turn P w K (.Tuple elts kk tpos) (IteT K a) [e, t] e (EnSt a e t) := by
  refine { mem := by simp, obj := ?o, keep := ?k, item := ?i, done := ?d, self := ?s }
  case o =>
    rintro n g ⟨⟨last, q1⟩, ⟨ob, q2, q3, q4⟩, _⟩ b m
    rcases two_mem m with rfl | rfl
    · exact ⟨_, q1, fun _ z => nomatch z⟩
    · exact ⟨ob, q2, fun _ z => by rw [q4] at z; cases z⟩
  case k =>
    rintro n g g' ⟨⟨last, q1⟩, q2, q3⟩ old
    exact ⟨⟨last, old e (by simp) _ q1⟩, q2.at (fun ob z => old t (by simp) ob z), q3⟩
  case s =>
    rintro B n z Q E ⟨⟨_, q1⟩, _⟩ k
    exact wpAny_pyIter_enum q1 k
  case i =>
    intro X eP ew eK calm n pins z σ H E I apart st hg
    subst eP ew eK
    obtain ⟨⟨last, q1⟩, q2, ne1, ne2, ne3⟩ := st
    obtain ⟨vs, v, hv, at'⟩ := hg
    obtain ⟨us, rel, isT, small⟩ := I.tuple hv
    obtain ⟨u, atu, ru⟩ := rel.get at'
    have le : e < z.heap.objs.size := Heap.lt_size q1
    have lt : t < z.heap.objs.size := Heap.lt_size (id q2).choose_spec.1
    have inb : n < us.toArray.size := by rw [List.size_toArray, ← rel.length]; exact (List.getElem?_eq_some_iff.mp at').1
    have draws := Draws.tuple (prog := X.prog) (w := X.w) (A := X.A.in1) (show X.A.in1.handled = none from I.ok.hd calm) t a ne3 us.toArray
    refine wpAny_pyNext_enum_itemD draws q1 ⟨q2, isT⟩ inb ne1 (by simp [ne1, ne2]) fun u2 g tk e2 out it2 pair sz same => ?_
    obtain rfl : u2 = u := Option.some.inj (e2.symm.trans (show us.toArray[n]? = some u by simpa using atu))
    refine ⟨_, rfl, wpAny_letOwnedTupleGo_enum (s := { z with heap := g, toks := tk + 1 }) out fun g2 enum2 but => ?_⟩
    have pair2 := (but.2 _ (Nat.ne_of_gt le)).trans pair
    have fresh : H z.heap.objs.size = none := I.hok.fresh (Nat.le_refl _)
    have ok : ObjOk X.prog X.w (upd H z.heap.objs.size (.tup [.int (n : Nat), v])) g2 z.heap.objs.size (.tup [.int (n : Nat), v]) := ⟨show 2 ≤ sizeLine by decide, _, .cons ⟨_, rfl⟩ (.cons ru .nil), _, pair2, rfl, _, rfl⟩
    have keep : ∀ b ob, b ∉ [e, t] → z.heap.get? b = some ob → g2.get? b = some ob := fun b ob m q => (but.2 b fun y => m (by simp [y])).trans (same b ob (fun y => m (by simp [y])) (fun y => m (by simp [y])) q)
    have I2 : Inv X pins σ (upd H z.heap.objs.size (.tup [.int (n : Nat), v])) { z with heap := g2, toks := tk + 1 } := I.turnedNew (ch := [e, t]) keep apart (Nat.le_refl _) ok
    have next : IsEnum g2 e t ((n + 1 : Nat) : Int) u2 := by
      rw [show ((n + 1 : Nat) : Int) = (n : Int) + 1 by omega]
      exact enum2
    have yields : (IteT X.K a).yld n H (.ref z.heap.objs.size) (upd H z.heap.objs.size (.tup [.int (n : Nat), v])) := ⟨_, v, rfl, fresh, rfl, fun ws hw => by rw [I.tuple_inj hw hv]; exact at'⟩
    refine ⟨.ref z.heap.objs.size, _, I2, rfl, yields, ⟨⟨u2, next⟩, it2.1.at fun ob q => (but.2 t ne1.symm).trans q, ne1, ne2, ne3⟩, fun b m => ?_⟩
    have below : b < z.heap.objs.size := by rcases two_mem m with rfl | rfl <;> assumption
    rw [upd_ne (Nat.ne_of_lt below)]
    exact (apart b m).1
  case d =>
    intro X eP ew eK calm n pins z σ H E I apart st hg
    subst eP ew eK
    obtain ⟨⟨last, q1⟩, q2, ne1, ne2, ne3⟩ := st
    obtain ⟨vs, hv, rfl⟩ := hg
    obtain ⟨us, rel, isT, small⟩ := I.tuple hv
    have draws := Draws.tuple (prog := X.prog) (w := X.w) (A := X.A.in1) (show X.A.in1.handled = none from I.ok.hd calm) t a ne3 us.toArray
    have len : vs.length = us.toArray.size := by rw [List.size_toArray, rel.length]
    obtain ⟨a0, a1, a2, a3, a4, a5⟩ := apart t (by simp)
    refine wpAny_pyNext_enum_endD draws q1 ⟨by rw [← len]; exact q2, isT⟩ fun g same => ⟨rfl, ?_⟩
    exact I.turned (t' := z.toks) (fun b ob m q => same b ob m q) a0 a1 a3 a4 a5
def iEnumT (K : PySem.W.Frag) (ta : TA) : TI := fun σ H R => ta σ H fun us G => ∃ a vs, us = [.ref a] ∧ SqT K G a vs ∧ R (IteT K a) G
theorem pi_enumT {X : Cx} {e : Expr} {ta : TA} {p pos tpos : Pos} {elts : List Expr} {kk : Nat} (hg : Gl X "enumerate") (hm : X.mg "enumerate" = none) (ha : PA X [e] ta) (hs : starEach [e] X.env = [(false, eval e X.env)] := by rfl) : PI X (.Tuple elts kk tpos) (.Call (.Name "enumerate" p) [e] [] pos) (iEnumT X.K ta) := by
  constructor
  intro pins z σ H R I h
  refine Call_ (ld_blt I hg hm boot_enumerate (callWith_type1 (thn (ha.run pos pins z σ H _ I h) fun us y ⟨ws, G, J, rel, a, vs, ew, hv, k⟩ => ?_) hs rfl))
  subst ew
  cases rel with
  | cons r1 rest =>
    cases rest
    cases r1
    obtain ⟨its, _, isT, _⟩ := J.tuple hv
    have la : a < y.heap.objs.size := Heap.lt_size (id isT).choose_spec.1
    refine enum_tup (its := its.toArray) isT ?_
    have size1 : (y.heap.push (tupIt a)).objs.size = y.heap.objs.size + 1 := by rw [Heap.size_push]
    have there : (enumHeap y.heap a).get? (y.heap.objs.size + 1) = some (enumObj y.heap.objs.size) := by
      rw [← size1]
      exact Heap.get?_push_size _ rfl
    have iter : (enumHeap y.heap a).get? y.heap.objs.size = some (tupIt a) := Heap.get?_push_of_some _ (Heap.get?_push_size _ rfl)
    have J2 : Inv X pins σ G { y with heap := enumHeap y.heap a } := J.kept (t' := y.toks) fun b ob q => Heap.get?_push_of_some _ (Heap.get?_push_of_some _ q)
    have first : EnSt a (y.heap.objs.size + 1) y.heap.objs.size 0 (enumHeap y.heap a) := ⟨⟨.none, there⟩, ⟨_, iter, rfl, rfl⟩, Nat.succ_ne_self _, fun q => absurd la (by rw [← q]; exact Nat.not_lt.mpr (Nat.le_succ _)), Nat.ne_of_lt la⟩
    refine wpAny_pyIter_enum there ⟨_, [y.heap.objs.size + 1, y.heap.objs.size], _, _, G, rfl, J2, turn_enumT a (y.heap.objs.size + 1) y.heap.objs.size, first, fun b m => ?_, k⟩
    have above : y.heap.objs.size ≤ b := by
      rcases two_mem m with rfl | rfl
      · exact Nat.le_succ _
      · exact Nat.le_refl _
    exact J.fpOk above (J.hok.fresh above)
theorem walk_enumT {K : PySem.W.Frag} {a : Addr} {xs : List V} : Walk (IteT K a) xs.length (fun H => SqT K H a xs) (YPair (fun n => some (.int (n : Nat))) (fun n => xs[n]?)) := by
  constructor
  · exact fun n _ lt q => ⟨xs, xs[n], q, List.getElem?_eq_getElem lt⟩
  · exact fun _ q => ⟨xs, q, rfl⟩
  · rintro n H y H' _ q ⟨P, v, e1, e2, e3, e4⟩
    exact ⟨P, .int (n : Nat), v, e1, e2, e3, rfl, e4 xs q⟩
end DV

namespace DV
open PySem L2
theorem pe_globX {X : Cx} {x : Str} {v : V} {pos : Pos} (hg : Gl X x) (hm : ∃ u, X.mg x = some u ∧ RelV v u) (hd : (x == ("__debug__" : Str)) = false := by decide) : PE X (.Name x pos) (tC v) := by
  obtain ⟨u, h1, h2⟩ := hm
  exact pe_glob hg h1 h2 hd
theorem tup_size {vs : List V} {its : Array Value} (h : Vals vs its.toList) (hl : vs.length ≤ 1000) : its.size ≤ sizeLine := by
  have := h.length
  have e : its.toList.length = its.size := Array.length_toList
  exact Nat.le_trans (by omega) (show 1000 ≤ sizeLine by decide)
def rAddB (K : PySem.W.Frag) : R2 := fun x y H Q => rAddA K x y H Q ∨ rCatA K x y H Q
theorem op_addB {X : Cx} : OpR X (binaryOp .Add) (rAddB X.K) := OpR.or op_addA op_catA
theorem op_addAK {K : PySem.W.Frag} {X : Cx} (h : X.K = K) : OpR X (binaryOp .Add) (rAddA K) := by subst h; exact op_addA
theorem op_addBK {K : PySem.W.Frag} {X : Cx} (h : X.K = K) : OpR X (binaryOp .Add) (rAddB K) := by subst h; exact op_addB
theorem ix_seqK {K : PySem.W.Frag} {X : Cx} (h : X.K = K) : IxR X (rIx K) := by subst h; exact ix_seq
theorem sl_tupAK {K : PySem.W.Frag} {X : Cx} (h : X.K = K) : SlR X (rSlA K) := by subst h; exact sl_tupA
theorem sl_listK {K : PySem.W.Frag} {X : Cx} (h : X.K = K) : SlR X (rSlL K) := by subst h; exact sl_list
theorem pi_enumTK {K : PySem.W.Frag} {X : Cx} (hK : X.K = K) {e : Expr} {ta : TA} {p pos tpos : Pos} {elts : List Expr} {kk : Nat} (hg : Gl X "enumerate") (hm : X.mg "enumerate" = none) (ha : PA X [e] ta) (hs : starEach [e] X.env = [(false, eval e X.env)] := by rfl) : PI X (.Tuple elts kk tpos) (.Call (.Name "enumerate" p) [e] [] pos) (iEnumT K ta) := by subst hK; exact pi_enumT hg hm ha hs
def cutD (ds : List PyData) (lo hi : Option Int) : List PyData := (ds.drop (HT.sIx ds.length 0 lo)).take (HT.sIx ds.length ds.length hi - HT.sIx ds.length 0 lo)
section
variable {K : PySem.W.Frag} {B : List Addr} {b0 h0 : Hp} {σ : St} {b b' h : Hp} {te ta tb tc : TE} {d d1 d2 d3 : PyData} {Δ : List SD} {t u : TT} {r r' : L2.R2} {i j : Int} {D : Ends} {tu tw tz : TS} {a : Addr} {c c1 c2 n : Int} {R R1 R2 : PyData → Prop}
theorem rv_B (h : RvD K (rAddA K) d1 d2 d) : RvD K (rAddB K) d1 d2 d := rv_or1 h
theorem rv_addIB : RvD K (rAddB K) (.int i) (.int j) (.int (i + j)) := rv_B rv_addI
theorem rv_addLB {ds es : List PyData} (hz : ds.length + es.length ≤ 100000) : RvD K (rAddB K) (.list ds) (.list es) (.list (ds ++ es)) := rv_B (rv_addL hz)
theorem rv_addTB {ds es : List PyData} (hz : ds.length + es.length ≤ 100000) : RvD K (rAddB K) (.tuple ds) (.tuple es) (.tuple (ds ++ es)) := rv_or2 fun b1 h0 z x y X Y Q q => by
  cases X with
  | @tup a1 xs1 _ s a =>
    cases Y with
    | @tup a2 xs2 _ s2 aa =>
      refine ⟨_, _, _, _, rfl, rfl, sqT_mono z s, sqT_mono z s2, ?_, fun e => ?_, fun _ e => ?_, fun _ _ p hp => ?_⟩
      · rw [a.length, aa.length]; exact Nat.le_trans hz (by decide)
      · subst e; cases a; exact q _ b1 _ (Fr.rfl' z) (.tup s2 aa)
      · subst e; cases aa; rw [List.append_nil] at q; exact q _ b1 _ (Fr.rfl' z) (.tup s a)
      · exact q _ (upd b1 p (.tup _)) _ (Fr.laid z hp) (.tup (.inl (.inl upd_same)) ((a.append aa).mono (Fr.laid (B := []) z hp).base))
theorem cutD_all {ds : List PyData} {lo hi : Option Int} (h1 : HT.sIx ds.length 0 lo = 0) (h2 : HT.sIx ds.length ds.length hi = ds.length) : cutD ds lo hi = ds := by
  unfold cutD
  rw [h1, h2]
  simp
theorem d_slT {tl th : TO} {ds : List PyData} {lo hi : Option Int} (h : EvD K te σ b (.tuple ds)) (hl : EvO tl σ b lo) (hh : EvO th σ b hi) : EvD K (tSl (rSlA K) te tl th) σ b (.tuple (cutD ds lo hi)) := fun b1 h1 s z Q q =>
  h b1 h1 s z _ fun v b2 h2 F dd => hl b2 h2 (s.trans F.base) F.sub _ fun b3 h3 F3 => hh b3 h3 ((s.trans F.base).trans F3.base) F3.sub _ fun b4 h4 F4 => by
    have dd4 := dd.mono (F3.base.trans F4.base)
    cases dd4 with
    | @tup a xs _ sa da =>
      have G := (F.trans F3).trans F4
      refine ⟨a, xs, rfl, sqT_mono G.sub sa, fun e => ?_, fun _ p hp => ?_⟩
      · rw [da.length] at e
        rw [cutD_all e.1 e.2] at q
        exact q _ b4 h4 G (.tup sa da)
      · have e : DaAll K b4 (cutV xs lo hi) (cutD ds lo hi) := by
          unfold cutV cutD
          rw [da.length]
          exact DaAll.take _ (DaAll.drop _ da)
        exact q _ (upd b4 p (.tup _)) _ (G.trans (Fr.laid G.sub hp)) (.tup (.inl (.inl upd_same)) (e.mono (Fr.laid (B := []) G.sub hp).base))
theorem d_slL {tl th : TO} {ds : List PyData} {lo hi : Option Int} (h : EvD K te σ b (.list ds)) (hl : EvO tl σ b lo) (hh : EvO th σ b hi) : EvD K (tSl (rSlL K) te tl th) σ b (.list (cutD ds lo hi)) := fun b1 h1 s z Q q =>
  h b1 h1 s z _ fun v b2 h2 F dd => hl b2 h2 (s.trans F.base) F.sub _ fun b3 h3 F3 => hh b3 h3 ((s.trans F.base).trans F3.base) F3.sub _ fun b4 h4 F4 => by
    have dd4 := dd.mono (F3.base.trans F4.base)
    cases dd4 with
    | @lst a xs _ sa da =>
      have G := (F.trans F3).trans F4
      refine ⟨a, xs, rfl, .inl (.inl (G.sub _ _ sa)), fun p hp => ?_⟩
      have e : DaAll K b4 (cutV xs lo hi) (cutD ds lo hi) := by
        unfold cutV cutD
        rw [da.length]
        exact DaAll.take _ (DaAll.drop _ da)
      exact q _ (upd b4 p (.lst _)) _ (G.trans (Fr.laid G.sub hp)) (.lst upd_same (e.mono (Fr.laid (B := []) G.sub hp).base))
theorem d_slTh {ds : List PyData} (h : EvD K te σ b (.tuple ds)) (hh : EvD K tb σ b (.int j)) (e : .tuple (cutD ds none (some j)) = d) : EvD K (tSl (rSlA K) te tNoPart (tPart tb)) σ b d := EvD.is (d_slT h o_none (o_some hh)) e
theorem d_slTl {ds : List PyData} (h : EvD K te σ b (.tuple ds)) (hh : EvD K tb σ b (.int j)) (e : .tuple (cutD ds (some j) none) = d) : EvD K (tSl (rSlA K) te (tPart tb) tNoPart) σ b d := EvD.is (d_slT h (o_some hh) o_none) e
theorem d_slTb {ds : List PyData} (h : EvD K te σ b (.tuple ds)) (hl : EvD K ta σ b (.int i)) (hh : EvD K tb σ b (.int j)) (e : .tuple (cutD ds (some i) (some j)) = d) : EvD K (tSl (rSlA K) te (tPart ta) (tPart tb)) σ b d := EvD.is (d_slT h (o_some hl) (o_some hh)) e
theorem d_slLh {ds : List PyData} (h : EvD K te σ b (.list ds)) (hh : EvD K tb σ b (.int j)) (e : .list (cutD ds none (some j)) = d) : EvD K (tSl (rSlL K) te tNoPart (tPart tb)) σ b d := EvD.is (d_slL h o_none (o_some hh)) e
theorem d_slLl {ds : List PyData} (h : EvD K te σ b (.list ds)) (hh : EvD K tb σ b (.int j)) (e : .list (cutD ds (some j) none) = d) : EvD K (tSl (rSlL K) te (tPart tb) tNoPart) σ b d := EvD.is (d_slL h (o_some hh) o_none) e
theorem DaAll.rev : ∀ {vs : List V} {ds : List PyData}, DaAll K b vs ds → DaAll K b vs.reverse ds.reverse
  | _, _, .nil => .nil
  | _, _, .cons h t => by
    rw [List.reverse_cons, List.reverse_cons]
    exact (DaAll.rev t).append (.cons h .nil)
theorem d_backT {ds : List PyData} (h : EvD K te σ b (.tuple ds)) : EvD K (tBackT K te) σ b (.tuple ds.reverse) := fun b1 h1 s z Q q =>
  h b1 h1 s z _ fun v b2 h2 F dd => by
    cases dd with
    | @tup a xs _ sa da =>
      refine ⟨a, xs, rfl, sqT_mono F.sub sa, fun p hp => ?_⟩
      exact q _ (upd b2 p (.tup _)) _ (F.trans (Fr.laid F.sub hp)) (.tup (.inl (.inl upd_same)) ((DaAll.rev da).mono (Fr.laid (B := []) F.sub hp).base))
theorem rv_inS {m : Nat} {z : Str} : RvD K (fun x y H Q => ∃ (c : Nat) (z : Str), x = .str ⟨#[c]⟩ ∧ y = .str z ∧ Q (.bl (decide (c ∈ z.cps.toList))) H) (.str ⟨#[m]⟩) (.str z) (.bool (decide (m ∈ z.cps.toList))) := fun b1 h1 zz x y X Y Q q => by
  cases X; cases Y
  exact ⟨m, z, rfl, rfl, q _ b1 h1 (Fr.rfl' zz) (.bl _)⟩
theorem d_removeprefix {x y : Str} (h : EvD K te σ b (.str x)) (hl : x.length ≤ 100000) (h2 : EvD K ta σ b (.str y)) : EvD K (tBM K "str" (fun x xs H Q => ∃ a b, x = .str a ∧ xs = [.str b] ∧ a.length ≤ sizeLine ∧ Q (.str (Txt.removeprefix a b)) H) te (tCons ta tNil)) σ b (.str (Txt.removeprefix x y)) := fun b1 h1 s z Q q =>
  h b1 h1 s z _ fun v b2 g2 F dd => by
    cases dd
    refine ⟨?_, h2 b2 g2 (s.trans F.base) F.sub _ fun v3 b3 g3 F3 d3 => ?_⟩
    · trivial
    · cases d3
      exact ⟨x, y, rfl, rfl, Nat.le_trans hl (by decide), q _ b3 g3 (F.trans F3) (.str _)⟩
/-- over a text, sign by sign -/
theorem d_lcS {tl : TE} {n : Nat} {vs : List Nat} {x : Str} (g : Nat → PyData) (Sl : Slots K b σ Δ) (h : EvD K tl σ b (.str x)) (hz : x.cps.size ≤ 90000) (hw : ∀ x, wipe ((wipe σ vs).set n (some x)) vs = wipe σ vs)
    (ht : ∀ m σ2 b2, Same b b2 → Slots K b2 σ2 ((wipeD Δ vs).set n (.dat (.str ⟨#[m]⟩))) → EvD K te σ2 b2 (g m)) :
    EvD K (tLc (iStr tl) (gName n) tYes te vs) σ b (.list (x.cps.toList.map g)) := fun b1 h1 s z Q q =>
  h b1 h1 s z _ fun v b2 h2 F dd => by
    cases dd
    refine ⟨x, rfl, fun Dl hD => ?_⟩
    refine lc_it walk_str (Cv K b2 h2 (fun i => (x.cps.toList.take i).map g) Dl) (cv_0 F.sub hD (by simp)) (fun _ _ _ _ => trivial) (fun i v H H' hi p y => ⟨hw v, ?_⟩) (fun H' p => ?_)
    · obtain ⟨rfl, m, e1, rfl⟩ := y
      have e2 : x.cps.toList[i]? = some m := by simpa using e1
      have hl : ((x.cps.toList.take i).map g).length < 100000 := by rw [List.length_map, List.length_take]; omega
      refine cv_turn (te := te) (t := tYes) (f := true) p (fun b3 _ => b_yes) (fun b3 F3 _ => ⟨g m, ht m _ b3 ((s.trans F.base).trans F3.base) (((Sl.mono ((s.trans F.base).trans F3.base)).wipe vs).set (z := .dat (.str ⟨#[m]⟩)) ⟨_, rfl, .str _⟩ n), ?_⟩) (fun z => by cases z) hl
      show (x.cps.toList.take (i + 1)).map g = (x.cps.toList.take i).map g ++ [g m]
      rw [List.take_add_one, e2, List.map_append]
      rfl
    · obtain ⟨_, b', acc, F2, bD, hA, DA⟩ := p
      have e : (x.cps.toList.take x.cps.size).map g = x.cps.toList.map g := by
        rw [List.take_of_length_le (by simp)]
      have DA : DaAll K b' acc (x.cps.toList.map g) := e ▸ DA
      obtain ⟨s1, s2⟩ := Fr.seal F2.sub bD hA
      refine q (.ref Dl) (upd b' Dl (.lst acc)) H' (F.trans ⟨F2.base.trans s1, s2, fun c n m => ?_, F2.keep, F2.live⟩) (.lst upd_same (DA.mono s1))
      have hc : c ≠ Dl := by intro e; subst e; rw [hD] at m; cases m
      rw [upd_ne hc]
      exact F2.out c n m
/-- over enumerate of a tuple -/
theorem d_lcET {tA : TA} {n1 n2 : Nat} {vs : List Nat} {es : List PyData} (g : PyData → PyData → PyData) (Sl : Slots K b σ Δ) (h : EvDs K tA σ b [.tuple es]) (hz : es.length ≤ 90000) (hw : ∀ x y, wipe (((wipe σ vs).set n1 (some x)).set n2 (some y)) vs = wipe σ vs)
    (ht : ∀ (m : Nat) e σ2 b2, es[m]? = some e → Same b b2 → Slots K b2 σ2 (((wipeD Δ vs).set n1 (.dat (.int (0 + (m : Int))))).set n2 (.dat e)) → EvD K te σ2 b2 (g (.int (0 + (m : Int))) e)) :
    EvD K (tLc (iEnumT K tA) (gTup K 2 (gCons (gName n1) (gCons (gName n2) gNil))) tYes te vs) σ b (.list (List.zipWith g (rng 0 es.length) es)) := fun b1 h1 s z Q q =>
  h b1 h1 s z _ fun v b2 h2 F dd => by
    cases dd with
    | cons x r =>
      cases r
      cases x with
      | @tup a xs _ sa da =>
        refine ⟨a, xs, rfl, sqT_mono F.sub sa, fun Dl hD => ?_⟩
        have dx : DaAll K b2 ((List.range es.length).map fun (i : Nat) => V.int (0 + (i : Int))) (rng 0 es.length) := by
          have : ∀ l : List Nat, DaAll K b2 (l.map fun (i : Nat) => V.int (0 + (i : Int))) (l.map fun (i : Nat) => PyData.int (0 + (i : Int))) := fun l => by
            induction l with
            | nil => exact .nil
            | cons m l ih => exact .cons (.int _) ih
          exact this _
        have W : Walk (IteT K a) (min ((List.range es.length).map fun (i : Nat) => V.int (0 + (i : Int))).length xs.length) (fun H => SqT K H a xs) (YPair (fun i => ((List.range es.length).map fun (i : Nat) => V.int (0 + (i : Int)))[i]?) (fun i => xs[i]?)) := by
          have e : min ((List.range es.length).map fun (i : Nat) => V.int (0 + (i : Int))).length xs.length = xs.length := by
            rw [List.length_map, List.length_range, da.length]; omega
          rw [e]
          refine walk_enumT.mono (fun H q => q) (fun i H x H' hi q y => ?_)
          obtain ⟨T, x1, x2, w1, w2, w3, w4, w5⟩ := y
          refine ⟨T, x1, x2, w1, w2, w3, ?_, w5⟩
          show ((List.range es.length).map fun (i : Nat) => V.int (0 + (i : Int)))[i]? = some x1
          rw [List.getElem?_map, List.getElem?_range (by rw [← da.length]; exact hi)]
          cases w4
          simp
        refine zl_core (ds := rng 0 es.length) (es := es) W g Sl hw (by rw [rng_len]; exact hz) (fun m d e σ2 b3 e1 e2 e3 Sl3 => ?_) s F dx da (fun b' h' F2 => sqT_mono (F2.base.trans F2.sub) sa) q Dl hD
        have hm : m < es.length := (List.getElem?_eq_some_iff.mp e2).1
        rw [rng_at hm] at e1
        cases e1
        exact ht m e σ2 b3 e2 e3 Sl3
/-- for i, x in enumerate(t) -/
theorem q_forET {tA : TA} {n1 n2 : Nat} {es : List PyData} (Z : S K B b0 h0 σ b h Δ) (he : EvDs K tA σ b [.tuple es]) (Pv : Nat → St → Hp → Hp → Prop) (hi : ∀ b2 h2, Fr [] b h b2 h2 → S K B b0 h0 σ b2 h2 Δ → Pv 0 σ b2 h2) (hsub : ∀ i σ' b' h', Pv i σ' b' h' → Same b' h')
    (hnew : ∀ i σ' b' h' T o, Pv i σ' b' h' → h' T = none → Pv i σ' b' (upd h' T o))
    (hs : ∀ (bb : Hp) (i : Nat) d σ' b' h' v, Same bb b' → es[i]? = some d → Pv i σ' b' h' → Da K b' v d → tu { D with nx := fun s g => ∃ b'', Same bb b'' ∧ Pv (i + 1) s b'' g, ct := fun s g => ∃ b'', Same bb b'' ∧ Pv (i + 1) s b'' g, bk := tz D } ((σ'.set n1 (some (.int (i : Nat)))).set n2 (some v)) h') (hd : ∀ σ' b' h', Pv es.length σ' b' h' → tz D σ' h') :
    tSeq (tFor (iEnumT K tA) (gTup K 2 (gCons (gName n1) (gCons (gName n2) gNil))) tu) tz D σ h :=
  he b h (Same.refl b) Z.sub _ fun vs b2 h2 F dd => by
    cases dd with
    | cons x r =>
      cases r
      cases x with
      | @tup a xs _ sa da =>
        refine ⟨a, xs, rfl, sqT_mono F.sub sa, for_it (walk_enumT (xs := xs)) (fun i s g => ∃ b', Same b2 b' ∧ Pv i s b' g) ⟨b2, Same.refl _, hi b2 h2 F (Z.go F)⟩ (fun i s g _ p => ?_) (fun i x s g g' hx p y => ?_) (fun s g p => ?_)⟩
        · obtain ⟨b', e, p⟩ := p
          exact sqT_mono (e.trans (hsub _ _ _ _ p)) sa
        · obtain ⟨b', e, p⟩ := p
          obtain ⟨T, x1, x2, rfl, hT, rfl, w4, w5⟩ := y
          cases w4
          obtain ⟨d, e1, e2⟩ := da.at w5
          refine ⟨T, [.int (i : Nat), x2], rfl, .inl (.inl upd_same), rfl, _, [x2], rfl, x2, [], rfl, rfl, ?_⟩
          exact hs b2 i d s b' _ x2 e e1 (hnew _ _ _ _ T _ p hT) (e2.mono e)
        · obtain ⟨b', e, p⟩ := p
          rw [da.length] at p
          exact hd s b' g p
/-- while, with a measure -/
theorem q_while (Pv : Nat → St → Hp → Prop) {m0 : Nat} (h0' : Pv m0 σ h) (hs : ∀ m σ h, Pv m σ h → ∃ b Δ cc, S K B b0 h0 σ b h Δ ∧ EvB t σ b cc ∧ (cc = true → ∀ b2 h2, Fr [] b h b2 h2 → S K B b0 h0 σ b2 h2 Δ → ∃ m', m' < m ∧ tu { D with nx := Pv m', ct := Pv m', bk := tz D } σ h2) ∧ (cc = false → ∀ b2 h2, Fr [] b h b2 h2 → S K B b0 h0 σ b2 h2 Δ → tz D σ h2)) : tSeq (tWhile t tu) tz D σ h := by
  refine ⟨Pv, ⟨m0, h0'⟩, fun m σ H p => ?_⟩
  obtain ⟨b, Δ, cc, Z, hb, k1, k2⟩ := hs m σ H p
  refine hb b H (Same.refl b) Z.sub _ fun b2 h2 F => ?_
  cases cc with
  | true =>
    obtain ⟨m', e1, e2⟩ := k1 rfl b2 h2 F (Z.go F)
    exact ⟨Pv m', fun σ' H' p => ⟨m', e1, p⟩, e2⟩
  | false => exact k2 rfl b2 h2 F (Z.go F)
/-! draws -/
theorem t_if (h : EvT K te σ b a c1 (fun d => ∃ x : Bool, d = .bool x)) (h1 : EvT K ta σ b a c2 R) (h2 : EvT K tb σ b a c2 R) (e1 : 0 ≤ c1) (e2 : 0 ≤ c2) : EvT K (tIf (tTest te) ta tb) σ b a (c1 + c2) R := fun b1 g1 n s z hb T hn Q q =>
  h b1 g1 n s z hb T (by omega) _ fun v d b2 g2 rd F hb2 T2 D2 => by
    obtain ⟨x, rfl⟩ := rd
    cases D2
    refine ⟨x, rfl, ?_⟩
    cases x with
    | true => exact h1 b2 g2 (n + c1) (s.trans F.base) F.sub hb2 T2 (by omega) Q fun v d b3 g3 r F3 hb3 T3 D3 => q v d b3 g3 r (F.trans F3) hb3 (by rw [← Int.add_assoc]; exact T3) D3
    | false => exact h2 b2 g2 (n + c1) (s.trans F.base) F.sub hb2 T2 (by omega) Q fun v d b3 g3 r F3 hb3 T3 D3 => q v d b3 g3 r (F.trans F3) hb3 (by rw [← Int.add_assoc]; exact T3) D3
theorem q_whenT' (Z : S K B b0 h0 σ b h Δ) (hb : b a = none) (hB : a ∈ B ∨ h0 a = none) (T : Tin a n h) (hn : n + c ≤ mostDraws) (he : EvT K te σ b a c (fun d => ∃ x : Bool, d = .bool x))
    (k1 : ∀ b2 h2, S K B b0 h0 σ b2 h2 Δ → b2 a = none → Tin a (n + c) h2 → tu { D with nx := tz D } σ h2) (k2 : ∀ b2 h2, S K B b0 h0 σ b2 h2 Δ → b2 a = none → Tin a (n + c) h2 → tz D σ h2) : tSeq (tIfS (tTest te) tu tNext) tz D σ h :=
  he b h n (Same.refl b) Z.sub hb T hn _ fun v d b2 h2 rd F hb2 T2 D2 => by
    obtain ⟨x, rfl⟩ := rd
    cases D2
    refine ⟨x, rfl, ?_⟩
    cases x with
    | true => exact k1 b2 h2 (Z.draw hB F) hb2 T2
    | false => exact k2 b2 h2 (Z.draw hB F) hb2 T2
theorem t_callD1 {RD : List PyData → PyData → Prop} {E : XK} (h : EvT K te σ b a c R1) (hr : ∀ d, R1 d → ∃ e, RD [d] e ∧ R e) : EvT K (tCall (spD K RD) [] E (tCons te tNil)) σ b a c R := fun b1 h1 n s z hb T hn Q q =>
  h b1 h1 n s z hb T hn _ fun v d b2 h2 rd F hb2 T2 D2 => by
    obtain ⟨e, rc, re⟩ := hr d rd
    refine ⟨b2, [d], e, F.sub, .cons D2 .nil, rc, fun v b3 h3 F3 D3 => ?_⟩
    obtain ⟨T3, hb3⟩ := T2.keep F3 hb2
    exact q v e b3 h3 re (F.trans F3.any) hb3 T3 D3
/-- a comprehension over a range whose bound is drawn -/
theorem t_lcRT {tA : TA} {m : Nat} {vs : List Nat} {c0 lo hi : Int} (Sl : Slots K b σ Δ) (he : EvTs K tA σ b a c0 (fun ds => ∃ k : Int, ds = [.int k] ∧ lo ≤ k ∧ k ≤ hi)) (h0 : 0 ≤ c0) (hk : 0 ≤ lo ∧ hi ≤ 90000 ∧ lo ≤ hi) (hc : 0 ≤ c) (hw : ∀ x, wipe ((wipe σ vs).set m (some x)) vs = wipe σ vs)
    (ht : ∀ (i : Nat) σ2 b2, Same b b2 → Slots K b2 σ2 ((wipeD Δ vs).set m (.dat (.int (0 + (i : Int))))) → EvT K te σ2 b2 a c R) :
    EvT K (tLc (iRng1 tA) (gName m) tYes te vs) σ b a (c0 + hi * c) (fun d => ∃ ds, d = .list ds ∧ lo ≤ (ds.length : Int) ∧ (ds.length : Int) ≤ hi ∧ ∀ d ∈ ds, R d) := fun b1 h1 n s z hb T hn Q q =>
  he b1 h1 n s z hb T (by
    have : 0 ≤ hi * c := Int.mul_nonneg (by omega) hc
    omega) _ fun us ds b2 h2 rd F hb2 T2 D2 => by
    obtain ⟨k, rfl, k1, k2⟩ := rd
    cases D2 with
    | cons x r =>
      cases r; cases x
      have key : k * c ≤ hi * c := Int.mul_le_mul_of_nonneg_right k2 hc
      exact t_lcR1 (tA := tCons (tC (.int k)) tNil) (c := c) (R := R) (Sl.mono (s.trans F.base)) (ds_cons (d_int k) ds_nil) ⟨by omega, by omega⟩ hc hw (fun i σ2 b3 _ e3 Sl3 => ht i σ2 b3 ((s.trans F.base).trans e3) Sl3) b2 h2 (n + c0) (Same.refl b2) F.sub hb2 T2 (by omega) Q fun v d b4 h4 rd4 F4 hb4 T4 D4 => by
        obtain ⟨ds, rfl, hl, hR⟩ := rd4
        exact q v _ b4 h4 ⟨ds, rfl, by omega, by omega, hR⟩ (F.trans F4) hb4 (T4.le (by omega)) D4
/-- for over a range whose bound is drawn -/
theorem q_forRT {tA : TA} {m : Nat} {lo hi : Int} (Z : S K B b0 h0 σ b h Δ) (hb : b a = none) (hB : a ∈ B ∨ h0 a = none) (T : Tin a n h) (hn : n + c ≤ mostDraws) (he : EvTs K tA σ b a c (fun ds => ∃ k : Int, ds = [.int k] ∧ lo ≤ k ∧ k ≤ hi)) (hk : 0 ≤ lo ∧ hi ≤ 90000) (Pv : Nat → St → Hp → Prop)
    (hi' : ∀ b2 h2, S K B b0 h0 σ b2 h2 Δ → b2 a = none → Tin a (n + c) h2 → Pv 0 σ h2)
    (hs : ∀ (i : Nat) σ' h', (i : Int) < hi → Pv i σ' h' → tu { D with nx := Pv (i + 1), ct := Pv (i + 1), bk := tz D } (σ'.set m (some (.int (0 + (i : Int))))) h') (hd : ∀ (k : Nat) σ' h', lo ≤ (k : Int) → (k : Int) ≤ hi → Pv k σ' h' → tz D σ' h') : tSeq (tFor (iRng1 tA) (gName m) tu) tz D σ h :=
  he b h n (Same.refl b) Z.sub hb T hn _ fun us ds b2 h2 rd F hb2 T2 D2 => by
    obtain ⟨k, rfl, k1, k2⟩ := rd
    cases D2 with
    | cons x r =>
      cases r; cases x
      have Z2 := Z.draw hB F
      exact q_forR1 (tA := tCons (tC (.int k)) tNil) Z2 (ds_cons (d_int k) ds_nil) ⟨by omega, by omega⟩ Pv (fun b3 h3 F3 Z3 => by
        obtain ⟨T3, hb3⟩ := T2.keep F3 hb2
        exact hi' b3 h3 Z3 hb3 T3) (fun i σ' h' hi p => hs i σ' h' (by omega) p) (fun σ' h' p => hd k.toNat σ' h' (by omega) (by omega) p)
end
end DV

/-! tuples that are known to have no dict of their own -/
namespace EV
open PySem L2 PyProof.Rows
/-- a new tuple, laid with its object -/
def NewT (H : Hp) (xs : List V) (Q : VK) : Prop := ∀ p o, H p = none → o.dict = none → Q (.ref p) (upd H p (.frz o (.tup xs)))
section
variable {X : Cx} {pins : List (Addr × Obj)} {σ : L2.St} {H : Hp} {s : Shared} {xs : List V} {its : List Value} {Q : VK}
theorem newT {ob : Obj} {n : Nat} {tk : Nat} (I : Inv X pins σ H s) (vals : Vals xs its) (short : xs.length ≤ sizeLine) (cls : ob.cls = .type "tuple") (dict : ob.dict = none) (live : ob.isFreed = false) (data : ob.data = .seq its.toArray n) (q : NewT H xs Q) :
    EP X pins σ Q (.ref s.heap.objs.size) { s with heap := s.heap.push ob, toks := tk } := by
  have at_ : (s.heap.push ob).get? s.heap.objs.size = some ob := Heap.get?_push_size _ live
  exact ⟨.ref s.heap.objs.size, _, I.laid (t' := tk) (o := .frz ob (.tup xs)) (fun c u z => Heap.get?_push_of_some _ z) (Nat.le_refl _) ⟨at_, short, its, vals, ob, at_, cls, n, data⟩, rfl, q _ _ (I.hok.fresh (Nat.le_refl _)) dict⟩
/-- (e, ..) -/
def tTupF (t : TA) : TE := fun σ H Q => t σ H fun xs H1 => xs.length ≤ sizeLine ∧ NewT H1 xs Q
theorem pe_tupF {es : List Expr} {kk : Nat} {pos : Pos} {t : TA} (h : PA X es t) : PE X (.Tuple es kk pos) (tTupF t) where
  run pins s σ H Q I q := wpAny_Tuple_spliced (thn (h.run pos pins s σ H _ I q) fun us z ⟨xs, H1, J, vals, short, nt⟩ => ⟨by rw [← vals.length]; exact short, newT (tk := z.toks) J vals short rfl rfl rfl rfl nt⟩)
/-- t + u -/
def rCatF (K : PySem.W.Frag) : R2 := fun x y H Q => ∃ l r xs ys, x = .ref l ∧ y = .ref r ∧ SqT K H l xs ∧ SqT K H r ys ∧ xs.length + ys.length ≤ sizeLine ∧
  ((xs = [] ∧ Q (.ref r) H) ∨ (xs ≠ [] ∧ ys = [] ∧ Q (.ref l) H) ∨ (xs ≠ [] ∧ ys ≠ [] ∧ NewT H (xs ++ ys) Q))
theorem op_catF : OpR X (binaryOp .Add) (rCatF X.K) := by
  rintro pins s σ H x y v u Q I rx ry ⟨l, r, xs, ys, rfl, rfl, hl, hr, short, q⟩
  rcases q with ⟨e, q⟩ | ⟨e, e2, q⟩ | ⟨e, e2, q⟩
  · exact op_catA pins s σ H _ _ v u Q I rx ry ⟨l, r, xs, ys, rfl, rfl, hl, hr, short, fun _ => q, fun z => absurd e z, fun z => absurd e z⟩
  · exact op_catA pins s σ H _ _ v u Q I rx ry ⟨l, r, xs, ys, rfl, rfl, hl, hr, short, fun z => absurd z e, fun _ _ => q, fun _ z => absurd e2 z⟩
  · cases rx; cases ry
    obtain ⟨i1, v1, t1, _⟩ := I.tuple hl
    obtain ⟨i2, v2, t2, _⟩ := I.tuple hr
    exact HT.cat_tup t1 t2 (fun z => e (v1.nil_iff.mp z)) (fun z => absurd (v2.nil_iff.mp z) e2) (fun _ => newT (tk := s.toks) I (v1.append v2) (by rw [List.length_append]; exact short) rfl rfl rfl rfl q) (by rw [← v1.length, ← v2.length]; exact short)
/-- t[a:b] -/
def rSlF (K : PySem.W.Frag) : V → Option Int → Option Int → Hp → VK → Prop := fun x lo hi H Q => ∃ l xs, x = .ref l ∧ SqT K H l xs ∧
  ((HT.sIx xs.length 0 lo = 0 ∧ HT.sIx xs.length xs.length hi = xs.length) ∧ Q (.ref l) H ∨ ¬ (HT.sIx xs.length 0 lo = 0 ∧ HT.sIx xs.length xs.length hi = xs.length) ∧ NewT H (cutV xs lo hi) Q)
theorem sl_tupF : SlR X (rSlF X.K) := by
  rintro pins s σ H x v vl vu lo hi sl Q I rx hs pl pu ⟨l, xs, rfl, hx, ⟨e, q⟩ | ⟨e, q⟩⟩
  · exact sl_tupA pins s σ H _ v vl vu lo hi sl Q I rx hs pl pu ⟨l, xs, rfl, hx, fun _ => q, fun z => absurd e z⟩
  · cases rx
    obtain ⟨i1, v1, t1, short⟩ := I.tuple hx
    have size : i1.toArray.size = xs.length := by rw [List.size_toArray]; exact v1.length.symm
    refine ⟨"tuple", _, PyProof.Rows.slot_tuple_getitem.lookup, t1.typeIs, HT.getItem_tuple_cut t1 hs pl pu (by rw [size]; exact e) ?_ (by rw [size]; exact short)⟩
    rw [size]
    exact newT (tk := s.toks) I ((v1.drop (HT.sIx xs.length 0 lo)).take (HT.sIx xs.length xs.length hi - HT.sIx xs.length 0 lo)) (Nat.le_trans (cutV_length xs lo hi) short) rfl rfl rfl rfl q
/-- tuple(x) -/
def rTupF (K : PySem.W.Frag) : List V → Hp → VK → Prop := fun xs H Q => ∃ l ys, xs = [.ref l] ∧ ((SqL K H l ys ∧ NewT H ys Q) ∨ (SqT K H l ys ∧ Q (.ref l) H))
theorem call_tupleF : CallR X (.type "tuple") (rTupF X.K) := by
  rintro pins s σ H xs us Q I r ⟨l, ys, rfl, ⟨hl, q⟩ | ⟨hl, q⟩⟩
  · obtain ⟨u, rfl, ru⟩ := vals1 r
    cases ru
    obtain ⟨i1, v1, t1, short⟩ := I.list hl
    have size := v1.length
    exact call_tuple_list t1.isList (fun h' old => newT (s := { s with heap := h' }) (tk := s.toks) (I.kept (t' := s.toks) old) v1 short rfl rfl rfl rfl q) (by simp only [List.size_toArray] <;> omega)
  · exact call_tuple_of pins s σ H _ us Q I r ⟨l, ys, rfl, .inr ⟨hl, q⟩⟩
/-- t * n, n from 2 on -/
def rRepF (K : PySem.W.Frag) : R2 := fun x y H Q => ∃ l k xs, x = .ref l ∧ y = .int k ∧ SqT K H l xs ∧ xs ≠ [] ∧ 2 ≤ k ∧ k ≤ 1000 ∧ xs.length ≤ 1000 ∧ NewT H (List.replicate k.toNat xs).flatten Q
theorem op_repF : OpR X (binaryOp .Mult) (rRepF X.K) := by
  rintro pins s σ H x y v u Q I rx ry ⟨l, k, xs, rfl, rfl, hl, some_, lo, hi, short, q⟩
  cases rx
  obtain ⟨tk, rfl⟩ := ry
  obtain ⟨i1, v1, ⟨⟨cl, dd, dat, sl⟩, at_, e1, n, e2⟩, _⟩ := I.tuple hl
  dsimp only at e1 e2
  subst e1 e2
  have size : i1.length = xs.length := v1.length.symm
  have full : i1.toArray.isEmpty = false := by
    cases v1 with
    | nil => exact absurd rfl some_
    | cons _ _ => rfl
  have pr : k.toNat * xs.length ≤ 1000 * 1000 := Nat.mul_le_mul (by omega) short
  have prI : ((xs.length : Nat) : Int) * k ≤ 1000000 := by
    have := Int.mul_le_mul_of_nonneg_right (a := ((xs.length : Nat) : Int)) (b := 1000) (c := k) (by omega) (by omega)
    omega
  have long : (List.replicate k.toNat i1).flatten.length ≤ sizeLine := by
    rw [lm_len_rep_flat, size, sizeLine_eq]; omega
  have a0 : (decide (k < -(2 ^ 63)) || decide (k ≥ 2 ^ 63)) = false := by
    rw [Bool.or_eq_false_iff, decide_eq_false_iff_not, decide_eq_false_iff_not]; omega
  have a1 : (i1.toArray.isEmpty || k == 1) = false := by
    rw [full, Bool.false_or, beq_eq_false_iff_ne]; omega
  have a2 : (decide (k ≤ 0) || i1.toArray.isEmpty) = false := by
    rw [full, Bool.or_false, decide_eq_false_iff_not]; omega
  have sz : i1.toArray.size = xs.length := by rw [List.size_toArray, size]
  have a3 : Builtin.Tuple.tupleTooMany (((i1.toArray.size : Nat) : Int) * k) = false := by
    unfold Builtin.Tuple.tupleTooMany
    rw [sizeLine_eq, sz, decide_eq_false_iff_not]; omega
  refine wpAny_binaryOp_repeat_ref (T := "tuple") (U := "int") (by decide) ⟨_, at_, rfl⟩ (fun s' => typeIs_int s' k tk) noFill_tuple_mul PySem.F.fills_int_mul PySem.F.slot_int_rmul repeat_tuple PySem.F.slot_int_index.lookup ?_
  refine call_meets PySem.F.slot_int_rmul (typeIs_int s k tk) PySem.F.entry_int_rmul (PySem.F.args_int_rmul_2 _ _) (int_rmul_tuple k tk l i1.toArray n dd sl) ⟨at_, rfl, ⟨_, at_, rfl⟩, ?_⟩
  refine call_meets PySem.F.slot_tuple_mul ⟨_, at_, rfl⟩ PySem.F.entry_tuple_mul (PySem.F.args_tuple_mul_2 _ _) (tuple_mulW l i1.toArray n dd sl k tk a0 a1 a2 (by rw [sz]; omega) a3 (by rw [size_rep, List.size_toArray]; exact long)) ⟨at_, ?_⟩
  rw [size_rep]
  exact newT (tk := s.toks) I (v1.rep k.toNat) (by rw [lm_len_rep_flat, sizeLine_eq]; omega) rfl rfl rfl rfl q
/-- t[::-1] -/
def tBackF (K : PySem.W.Frag) (te : TE) : TE := fun σ H Q => te σ H fun x H1 => ∃ a xs, x = .ref a ∧ SqT K H1 a xs ∧ NewT H1 xs.reverse Q
end
end EV
namespace DV
open PySem PySem.Spec L2 PyProof.Rows EV
section
variable {X : L2.Cx}
theorem pe_backF {e : Expr} {te : TE} {k : Nat} {p1 p2 p3 pos : Pos} (he : PE X e te) : PE X (.Subscript e (.Slice none none (some (.UnaryOp .USub (.Constant (.int 1) k p1) p2)) p3) pos) (tBackF X.K te) := by
  refine ⟨fun pins s σ H Q I hq => ?_⟩
  refine Subscript_ (thn (he.run pins s σ H _ I hq) fun v t1 ⟨x, H1, J1, r1, q1⟩ => ?_)
  obtain ⟨a, xs, rfl, hx, q⟩ := q1
  cases r1
  have hst : PO X (some (.UnaryOp .USub (.Constant (.int 1) k p1) p2)) (tPart (tUn (rU fun i => .int (-i)) (tC (.int 1)))) := po_some (pe_un un_neg pe_int)
  refine wpAny_Slice (thn (po_none.run pins t1 σ H1 (fun o G => o = none ∧ G = H1) J1 ⟨rfl, rfl⟩) fun v1 t2 ⟨l, H2, J2, w1, el, e2⟩ => ?_)
  subst el e2
  refine thn (po_none.run pins t2 σ H2 (fun o G => o = none ∧ G = H2) J2 ⟨rfl, rfl⟩) fun v2 t3 ⟨u, H3, J3, w2, eu, e3⟩ => ?_
  subst eu e3
  refine thn (hst.run pins t3 σ H3 (fun o G => o = some (-1) ∧ G = H3) J3 ⟨1, rfl, -1, rfl, rfl, rfl⟩) fun v3 t4 ⟨o, H4, J4, w3, eo, e4⟩ => ?_
  subst eo e4
  cases w1
  cases w2
  have J5 : Inv X pins σ H4 { t4 with heap := t4.heap.push { cls := .type "slice", data := .fields #[.none, .none, v3] } } := J4.kept (t' := t4.toks) fun b ob q => Heap.get?_push_of_some _ q
  obtain ⟨its, r, ht, hz⟩ := J5.tuple hx
  have hlen := r.length
  show wpAny (model X.prog X.w) X.A (subscriptTail e (.Slice none none (some (.UnaryOp .USub (.Constant (.int 1) k p1) p2)) p3) (.ref a) (.ref t4.heap.objs.size)) (EP X pins σ Q) X.xe { t4 with heap := t4.heap.push { cls := .type "slice", data := .fields #[.none, .none, v3] } }
  refine tail_any (ops := [.ref a, .ref t4.heap.objs.size]) ht.typeIs PyProof.Rows.slot_tuple_getitem.lookup ?_ (by with_unfolding_all rfl)
  refine get_back ht (Heap.IsSliceOf.new _ .none .none v3) w3 (by rw [List.size_toArray]; omega) ?_
  exact newT (tk := t4.toks) J5 r.reverse (by rw [List.length_reverse]; exact hz) rfl rfl rfl rfl q
end
end DV

namespace EV
open PySem L2 DV
/-! values of the running reading: what is read, and how it stands for a value of the program -/
structure Gs where
  fa : Nat → Addr
  ca : Nat → Addr
inductive Ty where
  | int | bool | str | list | tuple | dict
def Ty.nm : Ty → String
  | .int => "int" | .bool => "bool" | .str => "str" | .list => "list" | .tuple => "tuple" | .dict => "dict"
inductive D where
  | non | bl (b : Bool) | int (i : Int) | str (x : Str) | tup (xs : List D) | lst (xs : List D) | frz (xs : List D) | ref (n : Nat) | fn (i : Nat) | ty (t : Ty)
/-- a pair of texts -/
def isPrS : D → Bool
  | .tup [.str _, .str _] => true
  | _ => false
/-- a table's form -/
def tabL (ds : List D) : Bool := ds.all isPrS
/-- known to have no dict of its own -/
def TD (K : PySem.W.Frag) (b : Hp) (a : Addr) : Prop := (∃ o us, b a = some (.frz o (.tup us)) ∧ o.dict = none) ∨ ∃ o, K.lookup a = some o ∧ o.dict = none
section
variable (K : PySem.W.Frag) (G : Gs) (m : List Addr) (b : Hp)
mutual
inductive RD : V → D → Prop
  | non : RD .non .non
  | bl (x : Bool) : RD (.bl x) (.bl x)
  | int (x : Int) : RD (.int x) (.int x)
  | str (x : Str) : RD (.str x) (.str x)
  | tup {a : Addr} {xs : List V} {ds : List D} : SqT K b a xs → (tabL ds = true → TD K b a) → RDs xs ds → RD (.ref a) (.tup ds)
  | lst {a : Addr} {xs : List V} {ds : List D} : b a = some (.lst xs) → RDs xs ds → RD (.ref a) (.lst ds)
  | frz {a : Addr} {xs : List V} {ds : List D} : SqL K b a xs → RDs xs ds → RD (.ref a) (.frz ds)
  | ref {a : Addr} {n : Nat} : m[n]? = some a → RD (.ref a) (.ref n)
  | fn (i : Nat) : RD (.ref (G.fa i)) (.fn i)
  | ty (t : Ty) : RD (.ty t.nm) (.ty t)
inductive RDs : List V → List D → Prop
  | nil : RDs [] []
  | cons {v : V} {vs : List V} {d : D} {ds : List D} : RD v d → RDs vs ds → RDs (v :: vs) (d :: ds)
end
end
theorem TD.mono {K : PySem.W.Frag} {b b' : Hp} {a : Addr} (e : Same b b') (t : TD K b a) : TD K b' a := by
  rcases t with ⟨o, u, h, d⟩ | h
  · exact .inl ⟨o, u, e _ _ h, d⟩
  · exact .inr h
theorem TD.new {K : PySem.W.Frag} {b : Hp} {a : Addr} {o : Obj} {us : List V} (d : o.dict = none) : TD K (upd b a (.frz o (.tup us))) a := .inl ⟨o, us, upd_same, d⟩
theorem sqT_new {K : PySem.W.Frag} {b : Hp} {a : Addr} {o : Obj} {xs : List V} : SqT K (upd b a (.frz o (.tup xs))) a xs := .inl (.inr ⟨o, upd_same⟩)
theorem sqL_mono {K : PySem.W.Frag} {H H' : Hp} {a : Addr} {xs : List V} (e : Same H H') (h : SqL K H a xs) : SqL K H' a xs := e.seq h
section
variable {K : PySem.W.Frag} {G : Gs} {m m' ms : List Addr} {b b' : Hp}
mutual
theorem RD.mono (em : m' = m ++ ms) (e : Same b b') : ∀ {v : V} {d : D}, RD K G m b v d → RD K G m' b' v d
  | _, _, .non => .non
  | _, _, .bl x => .bl x
  | _, _, .int x => .int x
  | _, _, .str x => .str x
  | _, _, .tup h t hs => .tup (sqT_mono e h) (fun z => (t z).mono e) (RDs.mono em e hs)
  | _, _, .lst h hs => .lst (e _ _ h) (RDs.mono em e hs)
  | _, _, .frz h hs => .frz (sqL_mono e h) (RDs.mono em e hs)
  | _, _, .ref (n := n) (a := a) h => .ref (by
      have lt : n < m.length := (List.getElem?_eq_some_iff.mp h).1
      rw [em, List.getElem?_append_left lt]; exact h)
  | _, _, .fn i => .fn i
  | _, _, .ty s => .ty s
theorem RDs.mono (em : m' = m ++ ms) (e : Same b b') : ∀ {vs : List V} {ds : List D}, RDs K G m b vs ds → RDs K G m' b' vs ds
  | _, _, .nil => .nil
  | _, _, .cons h hs => .cons (RD.mono em e h) (RDs.mono em e hs)
end
theorem RD.monoB (e : Same b b') {v : V} {d : D} (h : RD K G m b v d) : RD K G m b' v d := h.mono (ms := []) (List.append_nil m).symm e
theorem RDs.monoB (e : Same b b') {v : List V} {d : List D} (h : RDs K G m b v d) : RDs K G m b' v d := h.mono (ms := []) (List.append_nil m).symm e
theorem RDs.length : ∀ {vs : List V} {ds : List D}, RDs K G m b vs ds → vs.length = ds.length
  | _, _, .nil => rfl
  | _, _, .cons _ hs => congrArg Nat.succ (RDs.length hs)
theorem RDs.get : ∀ {vs : List V} {ds : List D} {i : Nat} {d : D}, RDs K G m b vs ds → ds[i]? = some d → ∃ v, vs[i]? = some v ∧ RD K G m b v d
  | _, _, _, _, .nil, e => by simp at e
  | _, _, 0, _, .cons h _, e => by simp at e; subst e; exact ⟨_, rfl, h⟩
  | _, _, i + 1, _, .cons _ hs, e => by
    obtain ⟨v, h1, h2⟩ := RDs.get (i := i) hs (by simpa using e)
    exact ⟨v, by simpa using h1, h2⟩
theorem RDs.at : ∀ {vs : List V} {ds : List D} {i : Nat} {v : V}, RDs K G m b vs ds → vs[i]? = some v → ∃ d, ds[i]? = some d ∧ RD K G m b v d
  | _, _, _, _, .nil, e => by simp at e
  | _, _, 0, _, .cons h _, e => by simp at e; subst e; exact ⟨_, rfl, h⟩
  | _, _, i + 1, _, .cons _ hs, e => by
    obtain ⟨v, h1, h2⟩ := RDs.at (i := i) hs (by simpa using e)
    exact ⟨v, by simpa using h1, h2⟩
theorem RDs.append : ∀ {vs ws : List V} {ds es : List D}, RDs K G m b vs ds → RDs K G m b ws es → RDs K G m b (vs ++ ws) (ds ++ es)
  | _, _, _, _, .nil, s => s
  | _, _, _, _, .cons h hs, s => .cons h (RDs.append hs s)
theorem RDs.take : ∀ {vs : List V} {ds : List D} (n : Nat), RDs K G m b vs ds → RDs K G m b (vs.take n) (ds.take n)
  | _, _, 0, _ => .nil
  | _, _, _ + 1, .nil => .nil
  | _, _, n + 1, .cons h hs => .cons h (RDs.take n hs)
theorem RDs.drop : ∀ {vs : List V} {ds : List D} (n : Nat), RDs K G m b vs ds → RDs K G m b (vs.drop n) (ds.drop n)
  | _, _, 0, s => s
  | _, _, _ + 1, .nil => .nil
  | _, _, n + 1, .cons _ hs => RDs.drop n hs
theorem RDs.rev : ∀ {vs : List V} {ds : List D}, RDs K G m b vs ds → RDs K G m b vs.reverse ds.reverse
  | _, _, .nil => .nil
  | _, _, .cons h t => by
    rw [List.reverse_cons, List.reverse_cons]
    exact (RDs.rev t).append (.cons h .nil)
theorem RDs.set {v : V} {d : D} (h : RD K G m b v d) : ∀ {vs : List V} {ds : List D} (i : Nat), RDs K G m b vs ds → RDs K G m b (vs.set i v) (ds.set i d)
  | _, _, _, .nil => .nil
  | _, _, 0, .cons _ hs => .cons h hs
  | _, _, i + 1, .cons x hs => .cons x (RDs.set h i hs)
end
/-! the heap of what may change -/
inductive O where
  | lst (xs : List D)
  | dct (kvs : List (L2.Key × D))
  | ins (c : Nat) (fs : List (Str × D))
  /-- a dict while it is walked -/
  | lck (kvs : List (L2.Key × D))
mutual
/-- no later things than those below n are spoken of -/
def below (n : Nat) : D → Bool
  | .ref k => decide (k < n)
  | .tup xs => belows n xs
  | .lst xs => belows n xs
  | .frz xs => belows n xs
  | _ => true
def belows (n : Nat) : List D → Bool
  | [] => true
  | x :: xs => below n x && belows n xs
end
/-- what a thing speaks of -/
def subs : O → List D
  | .lst xs => xs
  | .dct kvs => kvs.map (·.2)
  | .ins _ fs => fs.map (·.2)
  | .lck kvs => kvs.map (·.2)
section
variable {K : PySem.W.Frag} {G : Gs} {m : List Addr} {b : Hp}
mutual
theorem RD.low : ∀ {v : V} {d : D}, RD K G m b v d → below m.length d = true
  | _, _, .non => by unfold EV.below; rfl
  | _, _, .bl _ => by unfold EV.below; rfl
  | _, _, .int _ => by unfold EV.below; rfl
  | _, _, .str _ => by unfold EV.below; rfl
  | _, _, .tup _ _ hs => by unfold EV.below; exact RDs.low hs
  | _, _, .lst _ hs => by unfold EV.below; exact RDs.low hs
  | _, _, .frz _ hs => by unfold EV.below; exact RDs.low hs
  | _, _, .ref h => by unfold EV.below; exact decide_eq_true (List.getElem?_eq_some_iff.mp h).1
  | _, _, .fn _ => by unfold EV.below; rfl
  | _, _, .ty _ => by unfold EV.below; rfl
theorem RDs.low : ∀ {v : List V} {d : List D}, RDs K G m b v d → belows m.length d = true
  | _, _, .nil => by unfold belows; rfl
  | _, _, .cons h hs => by unfold belows; rw [RD.low h, RDs.low hs]; rfl
end
mutual
theorem RD.cut {n : Nat} : ∀ {v : V} {d : D}, RD K G m b v d → EV.below n d = true → RD K G (m.take n) b v d
  | _, _, .non, _ => .non
  | _, _, .bl x, _ => .bl x
  | _, _, .int x, _ => .int x
  | _, _, .str x, _ => .str x
  | _, _, .tup h t hs, e => .tup h t (RDs.cut hs (by unfold EV.below at e; exact e))
  | _, _, .lst h hs, e => .lst h (RDs.cut hs (by unfold EV.below at e; exact e))
  | _, _, .frz h hs, e => .frz h (RDs.cut hs (by unfold EV.below at e; exact e))
  | _, _, .ref h, e => .ref (by
      unfold EV.below at e
      rw [List.getElem?_take_of_lt (of_decide_eq_true e)]; exact h)
  | _, _, .fn i, _ => .fn i
  | _, _, .ty s, _ => .ty s
theorem RDs.cut {n : Nat} : ∀ {v : List V} {d : List D}, RDs K G m b v d → belows n d = true → RDs K G (m.take n) b v d
  | _, _, .nil, _ => .nil
  | _, _, .cons h hs, e => by
    unfold belows at e
    rw [Bool.and_eq_true] at e
    exact .cons (RD.cut h e.1) (RDs.cut hs e.2)
end
end
mutual
theorem below_le {i n : Nat} (hi : i ≤ n) : ∀ d : D, below i d = true → below n d = true
  | .non, _ => by unfold below; rfl
  | .bl _, _ => by unfold below; rfl
  | .int _, _ => by unfold below; rfl
  | .str _, _ => by unfold below; rfl
  | .tup xs, e => by unfold below at e ⊢; exact belows_le hi xs e
  | .lst xs, e => by unfold below at e ⊢; exact belows_le hi xs e
  | .frz xs, e => by unfold below at e ⊢; exact belows_le hi xs e
  | .ref k, e => by unfold below at e ⊢; exact decide_eq_true (Nat.lt_of_lt_of_le (of_decide_eq_true e) hi)
  | .fn _, _ => by unfold below; rfl
  | .ty _, _ => by unfold below; rfl
theorem belows_le {i n : Nat} (hi : i ≤ n) : ∀ ds : List D, belows i ds = true → belows n ds = true
  | [], _ => by unfold belows; rfl
  | x :: xs, e => by
    unfold belows at e ⊢
    rw [Bool.and_eq_true] at e ⊢
    exact ⟨below_le hi x e.1, belows_le hi xs e.2⟩
end
theorem belows_app {n : Nat} : ∀ xs ys : List D, belows n xs = true → belows n ys = true → belows n (xs ++ ys) = true
  | [], _, _, h => h
  | x :: xs, ys, e, h => by
    rw [List.cons_append]
    unfold belows at e ⊢
    rw [Bool.and_eq_true] at e ⊢
    exact ⟨e.1, belows_app xs ys e.2 h⟩
theorem belows_set {n : Nat} {d : D} (hd : below n d = true) : ∀ (xs : List D) (i : Nat), belows n xs = true → belows n (xs.set i d) = true
  | [], _, h => h
  | x :: xs, 0, e => by
    rw [List.set_cons_zero]
    unfold belows at e ⊢
    rw [Bool.and_eq_true] at e ⊢
    exact ⟨hd, e.2⟩
  | x :: xs, i + 1, e => by
    rw [List.set_cons_succ]
    unfold belows at e ⊢
    rw [Bool.and_eq_true] at e ⊢
    exact ⟨e.1, belows_set hd xs i e.2⟩
section
variable (K : PySem.W.Frag) (G : Gs)
def ObjR (m : List Addr) (b h : Hp) (a : Addr) : O → Prop
  | .lst xs => ∃ vs, h a = some (.lst vs) ∧ RDs K G m b vs xs
  | .dct kvs => ∃ vs, h a = some (.dK vs) ∧ vs.map (·.1) = kvs.map (·.1) ∧ RDs K G m b (vs.map (·.2)) (kvs.map (·.2))
  | .ins c fs => ∃ dx vs, h a = some (.ins (G.ca c) dx vs) ∧ vs.map (·.1) = fs.map (·.1) ∧ RDs K G m b (vs.map (·.2)) (fs.map (·.2))
  | .lck kvs => ∃ od vs, b a = some (.frz od (.dK vs)) ∧ h a = some (.frz od (.dK vs)) ∧ vs.map (·.1) = kvs.map (·.1) ∧ RDs K G m b (vs.map (·.2)) (kvs.map (·.2))
/-- only what is locked is laid as data -/
def ObB (b : Hp) (a : Addr) : O → Prop
  | .lck _ => True
  | _ => b a = none
structure Ok (m : List Addr) (b h : Hp) (hp : List O) : Prop where
  sub : Same b h
  nd : m.Nodup
  len : m.length = hp.length
  ob : ∀ (i : Nat) a o, m[i]? = some a → hp[i]? = some o → ObB b a o ∧ ObjR K G m b h a o
end
structure Stp (m : List Addr) (b h : Hp) (m' : List Addr) (b' h' : Hp) : Prop where
  fr : Fr m b h b' h'
  pre : ∃ ms, m' = m ++ ms ∧ ∀ a ∈ ms, h a = none
section
variable {K : PySem.W.Frag} {G : Gs} {m m1 m2 m' : List Addr} {b h b1 h1 b2 h2 b' h' : Hp} {hp hp' : List O}
theorem ObjR.there {a : Addr} {o : O} (r : ObjR K G m b h a o) : ∃ u, h a = some u ∧ ∀ fs, u ≠ .xd fs := by
  cases o with
  | lst xs => obtain ⟨vs, e, _⟩ := r; exact ⟨_, e, fun _ z => by cases z⟩
  | dct xs => obtain ⟨vs, e, _⟩ := r; exact ⟨_, e, fun _ z => by cases z⟩
  | ins c xs => obtain ⟨dx, vs, e, _⟩ := r; exact ⟨_, e, fun _ z => by cases z⟩
  | lck xs => obtain ⟨od, vs, _, e, _⟩ := r; exact ⟨_, e, fun _ z => by cases z⟩
theorem ObB.of {a : Addr} {o : O} (n : b a = none) : ObB b a o := by cases o <;> first | exact n | trivial
theorem ObB.map {a : Addr} {o : O} (n : ObB b a o) (f : b a = none → b' a = none) : ObB b' a o := by cases o <;> first | exact f n | trivial
theorem ObjR.step {a : Addr} {o : O} (n : ObB b a o) (r : ObjR K G m b h a o) (eb : Same b b') (es : Same b' h') (out : b a = none → (h a).isSome = true → b' a = none) (keep : b a = none → ∀ u, h a = some u → (∀ fs, u ≠ .xd fs) → h' a = some u) (f : ∀ vs, RDs K G m b vs (subs o) → RDs K G m' b' vs (subs o)) : ObB b' a o ∧ ObjR K G m' b' h' a o := by
  cases o with
  | lst xs => obtain ⟨vs, e, q⟩ := r; exact ⟨out n (by rw [e]; rfl), vs, keep n _ e (fun _ z => by cases z), f vs q⟩
  | dct xs => obtain ⟨vs, e, c, q⟩ := r; exact ⟨out n (by rw [e]; rfl), vs, keep n _ e (fun _ z => by cases z), c, f _ q⟩
  | ins c xs => obtain ⟨dx, vs, e, c, q⟩ := r; exact ⟨out n (by rw [e]; rfl), dx, vs, keep n _ e (fun _ z => by cases z), c, f _ q⟩
  | lck xs => obtain ⟨od, vs, e0, e, c, q⟩ := r; exact ⟨trivial, od, vs, eb _ _ e0, es _ _ (eb _ _ e0), c, f _ q⟩
theorem ObjR.map {a : Addr} {o : O} (r : ObjR K G m b h a o) (k : ∀ u, h a = some u → h' a = some u) (kb : ∀ u, b a = some u → b' a = some u) (f : ∀ vs, RDs K G m b vs (subs o) → RDs K G m' b' vs (subs o)) : ObjR K G m' b' h' a o := by
  cases o with
  | lst xs => obtain ⟨vs, e, q⟩ := r; exact ⟨vs, k _ e, f vs q⟩
  | dct xs => obtain ⟨vs, e, n, q⟩ := r; exact ⟨vs, k _ e, n, f _ q⟩
  | ins c xs => obtain ⟨dx, vs, e, n, q⟩ := r; exact ⟨dx, vs, k _ e, n, f _ q⟩
  | lck xs => obtain ⟨od, vs, e0, e, n, q⟩ := r; exact ⟨od, vs, kb _ e0, k _ e, n, f _ q⟩
theorem Stp.rfl' (e : Same b h) : Stp m b h m b h := ⟨Fr.rfl' e, [], (List.append_nil m).symm, fun _ h => by cases h⟩
theorem Stp.pure (F : Fr [] b h b1 h1) : Stp m b h m b1 h1 := ⟨F.any, [], (List.append_nil m).symm, fun _ h => by cases h⟩
theorem Stp.trans (x : Stp m b h m1 b1 h1) (y : Stp m1 b1 h1 m2 b2 h2) : Stp m b h m2 b2 h2 := by
  obtain ⟨ms, e1, n1⟩ := x.pre
  obtain ⟨ns, e2, n2⟩ := y.pre
  refine ⟨x.fr.new y.fr fun a ha => ?_, ms ++ ns, by rw [e2, e1, List.append_assoc], fun a ha => ?_⟩
  · rw [e1] at ha
    exact (List.mem_append.mp ha).imp id (n1 a)
  · rcases List.mem_append.mp ha with q | q
    · exact n1 a q
    · cases e : h a with
      | none => rfl
      | some o =>
        have := x.fr.live a (by rw [e]; rfl)
        rw [n2 a q] at this; cases this
theorem Stp.base (x : Stp m b h m1 b1 h1) : Same b b1 := x.fr.base
theorem Stp.sub (x : Stp m b h m1 b1 h1) : Same b1 h1 := x.fr.sub
theorem RD.go (x : Stp m b h m1 b1 h1) {v : V} {d : D} (r : RD K G m b v d) : RD K G m1 b1 v d := by
  obtain ⟨ms, e, _⟩ := x.pre
  exact r.mono e x.base
theorem RDs.go (x : Stp m b h m1 b1 h1) {v : List V} {d : List D} (r : RDs K G m b v d) : RDs K G m1 b1 v d := by
  obtain ⟨ms, e, _⟩ := x.pre
  exact r.mono e x.base
/-- what is laid as data -/
theorem Ok.pure (ok : Ok K G m b h hp) (F : Fr [] b h b1 h1) : Ok K G m b1 h1 hp := by
  refine ⟨F.sub, ok.nd, ok.len, fun i a o e1 e2 => ?_⟩
  obtain ⟨n, r⟩ := ok.ob i a o e1 e2
  exact r.step n F.base F.sub (fun z s => F.out a z s) (fun z u e _ => F.keep a _ z (fun z => by cases z) e) fun vs q => q.monoB F.base
end
/-! slots -/
abbrev Sl := List (Option D)
section
variable (K : PySem.W.Frag) (G : Gs)
structure Sls (m : List Addr) (b : Hp) (σ : St) (s : Sl) : Prop where
  len : σ.length = s.length
  at' : ∀ (i : Nat) d, s[i]? = some (some d) → ∃ v, σ[i]? = some (some v) ∧ RD K G m b v d
end
section
variable {K : PySem.W.Frag} {G : Gs} {m m1 : List Addr} {b h b1 h1 : Hp} {σ : St} {s : Sl}
theorem Sls.go (x : Stp m b h m1 b1 h1) (r : Sls K G m b σ s) : Sls K G m1 b1 σ s := ⟨r.len, fun i d e => let ⟨v, e1, e2⟩ := r.at' i d e; ⟨v, e1, e2.go x⟩⟩
theorem Sls.set {v : V} {d : D} (r : Sls K G m b σ s) (hd : RD K G m b v d) (i : Nat) : Sls K G m b (σ.set i (some v)) (s.set i (some d)) := by
  refine ⟨by rw [List.length_set, List.length_set]; exact r.len, fun j e he => ?_⟩
  by_cases hj : i = j
  · subst hj
    rw [List.getElem?_set] at he
    rw [if_pos rfl] at he
    split at he
    · rename_i hl
      cases he
      refine ⟨v, ?_, hd⟩
      rw [List.getElem?_set, if_pos rfl, if_pos (by rw [r.len]; exact hl)]
    · cases he
  · rw [List.getElem?_set_ne hj] at he
    obtain ⟨w, e1, e2⟩ := r.at' j e he
    exact ⟨w, by rw [List.getElem?_set_ne hj]; exact e1, e2⟩
theorem Sls.unset {x : Option V} (r : Sls K G m b σ s) (i : Nat) : Sls K G m b (σ.set i x) (s.set i none) := by
  refine ⟨by rw [List.length_set, List.length_set]; exact r.len, fun j e he => ?_⟩
  by_cases hj : i = j
  · subst hj
    rw [List.getElem?_set, if_pos rfl] at he
    split at he <;> cases he
  · rw [List.getElem?_set_ne hj] at he
    obtain ⟨w, e1, e2⟩ := r.at' j e he
    exact ⟨w, by rw [List.getElem?_set_ne hj]; exact e1, e2⟩
def wipeE (s : Sl) : List Nat → Sl
  | [] => s
  | v :: vs => (wipeE s vs).set v none
theorem Sls.wipe (r : Sls K G m b σ s) : ∀ vs : List Nat, Sls K G m b (wipe σ vs) (wipeE s vs)
  | [] => r
  | v :: vs => Sls.unset (Sls.wipe r vs) v
def startE (n : Nat) (ds : List D) : Sl := ds.map some ++ List.replicate (n - ds.length) none
theorem Sls.start {vs : List V} {ds : List D} (r : RDs K G m b vs ds) (N : List Str) : Sls K G m b (start N vs) (startE N.length ds) := by
  refine ⟨?_, fun i d e => ?_⟩
  · unfold L2.start startE
    rw [List.length_append, List.length_append, List.length_map, List.length_map, List.length_replicate, List.length_replicate, r.length]
  · unfold startE at e
    by_cases hi : i < ds.length
    · rw [List.getElem?_append_left (by rw [List.length_map]; exact hi), List.getElem?_map] at e
      cases q : ds[i]? with
      | none => rw [q] at e; cases e
      | some d' =>
        rw [q] at e; cases e
        obtain ⟨v, e1, e2⟩ := r.get q
        refine ⟨v, ?_, e2⟩
        unfold L2.start
        rw [List.getElem?_append_left (by rw [List.length_map, r.length]; exact hi), List.getElem?_map, e1]
        rfl
    · rw [List.getElem?_append_right (by rw [List.length_map]; omega), List.getElem?_replicate] at e
      split at e <;> cases e
end
/-! ends -/
structure Xc where
  c : Nat
  fs : List (Str × D)
inductive RE where
  | ok (d : D) (hp : List O) | exc (x : Xc) (hp : List O) | bad
inductive RA where
  | ok (ds : List D) (hp : List O) | exc (x : Xc) (hp : List O) | bad
inductive RS where
  | nx (s : Sl) (hp : List O) | rt (d : D) (hp : List O) | bk (s : Sl) (hp : List O) | ct (s : Sl) (hp : List O) | exc (x : Xc) (s : Sl) (hp : List O) | bad
abbrev EE := Sl → List O → RE
abbrev EA := Sl → List O → RA
abbrev ES := Sl → List O → RS
section
variable (K : PySem.W.Frag) (G : Gs)
def XR (m : List Addr) (b h : Hp) (x : Xc) (cls : Value) (d : Option Addr) : Prop :=
  cls = .ref (G.ca x.c) ∧ ((x.fs = [] ∧ d = none) ∨ ∃ dd vs, d = some dd ∧ b dd = none ∧ dd ∉ m ∧ h dd = some (.xd vs) ∧ vs.map (·.1) = x.fs.map (·.1) ∧ RDs K G m b (vs.map (·.2)) (x.fs.map (·.2)))
def PostE (m : List Addr) (b h : Hp) (r : RE) (Q : VK) (E : XK) : Prop := match r with
  | .ok d hp' => ∀ v m' b' h', Stp m b h m' b' h' → Ok K G m' b' h' hp' → RD K G m' b' v d → Q v h'
  | .exc x hp' => ∀ cls dx m' b' h', Stp m b h m' b' h' → Ok K G m' b' h' hp' → XR K G m' b' h' x cls dx → E cls dx h'
  | .bad => False
def PostA (m : List Addr) (b h : Hp) (r : RA) (Q : List V → Hp → Prop) (E : XK) : Prop := match r with
  | .ok ds hp' => ∀ vs m' b' h', Stp m b h m' b' h' → Ok K G m' b' h' hp' → RDs K G m' b' vs ds → Q vs h'
  | .exc x hp' => ∀ cls dx m' b' h', Stp m b h m' b' h' → Ok K G m' b' h' hp' → XR K G m' b' h' x cls dx → E cls dx h'
  | .bad => False
def PostS (m : List Addr) (b h : Hp) (r : RS) (Z : Ends) (W : WX) : Prop := match r with
  | .nx s' hp' => ∀ σ' m' b' h', Stp m b h m' b' h' → Ok K G m' b' h' hp' → Sls K G m' b' σ' s' → Z.nx σ' h'
  | .rt d hp' => ∀ v m' b' h', Stp m b h m' b' h' → Ok K G m' b' h' hp' → RD K G m' b' v d → Z.rt v h'
  | .bk s' hp' => ∀ σ' m' b' h', Stp m b h m' b' h' → Ok K G m' b' h' hp' → Sls K G m' b' σ' s' → Z.bk σ' h'
  | .ct s' hp' => ∀ σ' m' b' h', Stp m b h m' b' h' → Ok K G m' b' h' hp' → Sls K G m' b' σ' s' → Z.ct σ' h'
  | .exc x s' hp' => ∀ cls dx σ' m' b' h', Stp m b h m' b' h' → Ok K G m' b' h' hp' → Sls K G m' b' σ' s' → XR K G m' b' h' x cls dx → W cls dx σ' h'
  | .bad => False
end
section
variable {K : PySem.W.Frag} {G : Gs} {m m1 : List Addr} {b h b1 h1 : Hp}
theorem PostE.go {r : RE} {Q : VK} {E : XK} (x : Stp m b h m1 b1 h1) (p : PostE K G m b h r Q E) : PostE K G m1 b1 h1 r Q E := by
  cases r with
  | ok d hp => exact fun v m' b' h' y => p v m' b' h' (x.trans y)
  | exc e hp => exact fun c d m' b' h' y => p c d m' b' h' (x.trans y)
  | bad => exact p
theorem PostA.go {r : RA} {Q : List V → Hp → Prop} {E : XK} (x : Stp m b h m1 b1 h1) (p : PostA K G m b h r Q E) : PostA K G m1 b1 h1 r Q E := by
  cases r with
  | ok d hp => exact fun v m' b' h' y => p v m' b' h' (x.trans y)
  | exc e hp => exact fun c d m' b' h' y => p c d m' b' h' (x.trans y)
  | bad => exact p
theorem PostS.go {r : RS} {Z : Ends} {W : WX} (x : Stp m b h m1 b1 h1) (p : PostS K G m b h r Z W) : PostS K G m1 b1 h1 r Z W := by
  cases r with
  | nx s hp => exact fun v m' b' h' y => p v m' b' h' (x.trans y)
  | rt d hp => exact fun v m' b' h' y => p v m' b' h' (x.trans y)
  | bk s hp => exact fun v m' b' h' y => p v m' b' h' (x.trans y)
  | ct s hp => exact fun v m' b' h' y => p v m' b' h' (x.trans y)
  | exc e s hp => exact fun c d v m' b' h' y => p c d v m' b' h' (x.trans y)
  | bad => exact p
end
/-! the reading of a running term -/
section
variable (K : PySem.W.Frag) (G : Gs) (W : WX)
def SnE (te : TE) (ev : EE) : Prop := ∀ m b h hp σ s, Ok K G m b h hp → Sls K G m b σ s → ∀ Q, PostE K G m b h (ev s hp) Q (fun c d H => W c d σ H) → te σ h Q
def SnA (ta : TA) (ev : EA) : Prop := ∀ m b h hp σ s, Ok K G m b h hp → Sls K G m b σ s → ∀ Q, PostA K G m b h (ev s hp) Q (fun c d H => W c d σ H) → ta σ h Q
def SnS (ts : TS) (ev : ES) : Prop := ∀ m b h hp σ s, Ok K G m b h hp → Sls K G m b σ s → ∀ Z, PostS K G m b h (ev s hp) Z W → ts Z σ h
def tOf (ev : EE) : TE := fun σ h Q => ∃ m b hp s, Ok K G m b h hp ∧ Sls K G m b σ s ∧ PostE K G m b h (ev s hp) Q (fun c d H => W c d σ H)
def tOfA (ev : EA) : TA := fun σ h Q => ∃ m b hp s, Ok K G m b h hp ∧ Sls K G m b σ s ∧ PostA K G m b h (ev s hp) Q (fun c d H => W c d σ H)
def tOfS (ev : ES) : TS := fun Z σ h => ∃ m b hp s, Ok K G m b h hp ∧ Sls K G m b σ s ∧ PostS K G m b h (ev s hp) Z W
end
section
variable {K : PySem.W.Frag} {G : Gs} {W : WX}
theorem sn_of {ev : EE} : SnE K G W (tOf K G W ev) ev := fun m b h hp σ s ok sl Q p => ⟨m, b, hp, s, ok, sl, p⟩
theorem snA_of {ev : EA} : SnA K G W (tOfA K G W ev) ev := fun m b h hp σ s ok sl Q p => ⟨m, b, hp, s, ok, sl, p⟩
theorem snS_of {ev : ES} : SnS K G W (tOfS K G W ev) ev := fun m b h hp σ s ok sl Q p => ⟨m, b, hp, s, ok, sl, p⟩
def PX (K : PySem.W.Frag) (G : Gs) (W : WX) (X : Cx) (e : Expr) (ev : EE) : Prop := PE X e (tOf K G W ev)
def PXA (K : PySem.W.Frag) (G : Gs) (W : WX) (X : Cx) (e : List Expr) (ev : EA) : Prop := PA X e (tOfA K G W ev)
def PXS (K : PySem.W.Frag) (G : Gs) (W : WX) (X : Cx) (e : Stmt) (ev : ES) : Prop := PS X e (tOfS K G W ev)
def PXB (K : PySem.W.Frag) (G : Gs) (W : WX) (X : Cx) (e : List Stmt) (ev : ES) : Prop := PSs X e (tOfS K G W ev)
variable {X : Cx} {e : Expr} {es : List Expr} {st : Stmt} {sts : List Stmt}
theorem px {te : TE} {ev : EE} (h : PE X e te) (s : SnE K G W te ev) : PX K G W X e ev := ⟨fun pins z σ H Q I ⟨m, b, hp, sl, ok, ss, p⟩ => h.run pins z σ H Q I (s m b H hp σ sl ok ss Q p)⟩
theorem pxA {te : TA} {ev : EA} (h : PA X es te) (s : SnA K G W te ev) : PXA K G W X es ev := ⟨fun pos pins z σ H Q I ⟨m, b, hp, sl, ok, ss, p⟩ => h.run pos pins z σ H Q I (s m b H hp σ sl ok ss Q p)⟩
theorem pxS {te : TS} {ev : ES} (h : PS X st te) (s : SnS K G W te ev) : PXS K G W X st ev := ⟨fun pins z σ H Q I ⟨m, b, hp, sl, ok, ss, p⟩ => h.run pins z σ H Q I (s m b H hp σ sl ok ss Q p)⟩
theorem pxB {te : TS} {ev : ES} (h : PSs X sts te) (s : SnS K G W te ev) : PXB K G W X sts ev := ⟨fun pins z σ H Q I ⟨m, b, hp, sl, ok, ss, p⟩ => h.run pins z σ H Q I (s m b H hp σ sl ok ss Q p)⟩
end
end EV

namespace EV
open PySem L2 DV
/-! expressions -/
def eVar (i : Nat) : EE := fun s hp => match s[i]? with
  | some (some d) => .ok d hp
  | _ => .bad
def eCon (d : D) : EE := fun _ hp => .ok d hp
def aNil : EA := fun _ hp => .ok [] hp
def aCons (ea : EE) (er : EA) : EA := fun s hp => match ea s hp with
  | .ok d hp1 => (match er s hp1 with
    | .ok ds hp2 => .ok (d :: ds) hp2
    | .exc x hp2 => .exc x hp2
    | .bad => .bad)
  | .exc x hp1 => .exc x hp1
  | .bad => .bad
def eTup (ea : EA) : EE := fun s hp => match ea s hp with
  | .ok ds hp1 => if ds.length ≤ 100000 then .ok (.tup ds) hp1 else .bad
  | .exc x hp1 => .exc x hp1
  | .bad => .bad
def eLst (ea : EA) : EE := fun s hp => match ea s hp with
  | .ok ds hp1 => if ds.length ≤ 100000 then .ok (.lst ds) hp1 else .bad
  | .exc x hp1 => .exc x hp1
  | .bad => .bad
def eUn (f : List O → D → Option D) (ea : EE) : EE := fun s hp => match ea s hp with
  | .ok d1 hp1 => (match f hp1 d1 with
    | some d => .ok d hp1
    | none => .bad)
  | .exc x hp1 => .exc x hp1
  | .bad => .bad
def eBin (f : List O → D → D → Option D) (ea eb : EE) : EE := fun s hp => match ea s hp with
  | .ok d1 hp1 => (match eb s hp1 with
    | .ok d2 hp2 => (match f hp2 d1 d2 with
      | some d => .ok d hp2
      | none => .bad)
    | .exc x hp2 => .exc x hp2
    | .bad => .bad)
  | .exc x hp1 => .exc x hp1
  | .bad => .bad
def eAnd (ea eb : EE) : EE := fun s hp => match ea s hp with
  | .ok (.bl true) hp1 => (match eb s hp1 with
    | .ok (.bl c) hp2 => .ok (.bl c) hp2
    | .exc x hp2 => .exc x hp2
    | _ => .bad)
  | .ok (.bl false) hp1 => .ok (.bl false) hp1
  | .exc x hp1 => .exc x hp1
  | _ => .bad
def eOr (ea eb : EE) : EE := fun s hp => match ea s hp with
  | .ok (.bl false) hp1 => (match eb s hp1 with
    | .ok (.bl c) hp2 => .ok (.bl c) hp2
    | .exc x hp2 => .exc x hp2
    | _ => .bad)
  | .ok (.bl true) hp1 => .ok (.bl true) hp1
  | .exc x hp1 => .exc x hp1
  | _ => .bad
def eNot (ea : EE) : EE := fun s hp => match ea s hp with
  | .ok (.bl c) hp1 => .ok (.bl (!c)) hp1
  | .exc x hp1 => .exc x hp1
  | _ => .bad
def eIf (et ea eb : EE) : EE := fun s hp => match et s hp with
  | .ok (.bl c) hp1 => (match c with
    | true => ea s hp1
    | false => eb s hp1)
  | .exc x hp1 => .exc x hp1
  | _ => .bad
def eChain (f f' : List O → D → D → Option D) (ea eb ec : EE) : EE := fun s hp => match ea s hp with
  | .ok d1 hp1 => (match eb s hp1 with
    | .ok d2 hp2 => (match f hp2 d1 d2 with
      | some (.bl true) => (match ec s hp2 with
        | .ok d3 hp3 => (match f' hp3 d2 d3 with
          | some d => .ok d hp3
          | none => .bad)
        | .exc x hp3 => .exc x hp3
        | .bad => .bad)
      | some (.bl false) => .ok (.bl false) hp2
      | _ => .bad)
    | .exc x hp2 => .exc x hp2
    | .bad => .bad)
  | .exc x hp1 => .exc x hp1
  | .bad => .bad
/-- a built-in's call -/
def eBi (f : List O → List D → Option D) (ea : EA) : EE := fun s hp => match ea s hp with
  | .ok ds hp1 => (match f hp1 ds with
    | some d => .ok d hp1
    | none => .bad)
  | .exc x hp1 => .exc x hp1
  | .bad => .bad
/-- a def's call; vs what its defaults fill up -/
def eCall (F : List D → List O → RE) (vs : List D) (ea : EA) : EE := fun s hp => match ea s hp with
  | .ok ds hp1 => F (ds ++ vs) hp1
  | .exc x hp1 => .exc x hp1
  | .bad => .bad
/-- the slot holds the def number k -/
def eCallV (i k : Nat) (F : List D → List O → RE) (ea : EA) : EE := fun s hp => match s[i]? with
  | some (some (.fn j)) => if j = k then (match ea s hp with
      | .ok ds hp1 => F ds hp1
      | .exc x hp1 => .exc x hp1
      | .bad => .bad) else .bad
  | _ => .bad
section
variable (K : PySem.W.Frag) (G : Gs)
def OpOk (r : R2) (f : List O → D → D → Option D) : Prop := ∀ m b h hp x y d1 d2 d, Ok K G m b h hp → RD K G m b x d1 → RD K G m b y d2 → f hp d1 d2 = some d → ∀ Q : VK, (∀ v b' h', Fr [] b h b' h' → RD K G m b' v d → Q v h') → r x y h Q
def UnOk (r : V → Hp → VK → Prop) (f : List O → D → Option D) : Prop := ∀ m b h hp x d1 d, Ok K G m b h hp → RD K G m b x d1 → f hp d1 = some d → ∀ Q : VK, (∀ v b' h', Fr [] b h b' h' → RD K G m b' v d → Q v h') → r x h Q
def BiOk (r : List V → Hp → VK → Prop) (f : List O → List D → Option D) : Prop := ∀ m b h hp xs ds d, Ok K G m b h hp → RDs K G m b xs ds → f hp ds = some d → ∀ Q : VK, (∀ v b' h', Fr [] b h b' h' → RD K G m b' v d → Q v h') → r xs h Q
/-- what a def promises: what its reading tells -/
def spEv (F : List D → List O → RE) (n : Nat) : Sp := fun vs H Q E => ∃ m b hp ds, Ok K G m b H hp ∧ RDs K G m b vs ds ∧ ds.length = n ∧ PostE K G m b H (F ds hp) Q E
end
section
variable {K : PySem.W.Frag} {G : Gs} {W : WX} {ea eb ec et : EE} {er : EA} {ta tb tc : TE} {tr : TA} {tt : TT}
theorem sn_var (i : Nat) : SnE K G W (tVar i) (eVar i) := fun m b h hp σ s ok sl Q p => by
  unfold eVar at p
  cases e : s[i]? with
  | none => rw [e] at p; exact p.elim
  | some o =>
    cases o with
    | none => rw [e] at p; exact p.elim
    | some d =>
      rw [e] at p
      obtain ⟨v, e1, r⟩ := sl.at' i d e
      exact ⟨v, e1, p v m b h (Stp.rfl' ok.sub) ok r⟩
theorem sn_con {v : V} {d : D} (r : ∀ m b, RD K G m b v d) : SnE K G W (tC v) (eCon d) := fun m b h hp σ s ok sl Q p => p v m b h (Stp.rfl' ok.sub) ok (r m b)
theorem snA_nil : SnA K G W tNil aNil := fun m b h hp σ s ok sl Q p => p [] m b h (Stp.rfl' ok.sub) ok .nil
theorem snA_cons (ha : SnE K G W ta ea) (hr : SnA K G W tr er) : SnA K G W (tCons ta tr) (aCons ea er) := fun m b h hp σ s ok sl Q p => by
  refine ha m b h hp σ s ok sl _ ?_
  unfold aCons at p
  cases e : ea s hp with
  | ok d hp1 =>
    rw [e] at p
    dsimp only at p
    intro v m1 b1 h1 x1 ok1 r1
    refine hr m1 b1 h1 hp1 σ s ok1 (sl.go x1) _ ?_
    cases e2 : er s hp1 with
    | ok ds hp2 =>
      rw [e2] at p
      intro vs m2 b2 h2 x2 ok2 r2
      exact p _ m2 b2 h2 (x1.trans x2) ok2 (.cons (r1.go x2) r2)
    | exc x hp2 =>
      rw [e2] at p
      exact fun c dx m2 b2 h2 x2 => p c dx m2 b2 h2 (x1.trans x2)
    | bad => rw [e2] at p; exact p.elim
  | exc x hp1 => rw [e] at p; exact p
  | bad => rw [e] at p; exact p.elim
theorem sn_tup (ha : SnA K G W tr er) : SnE K G W (tTupF tr) (eTup er) := fun m b h hp σ s ok sl Q p => by
  refine ha m b h hp σ s ok sl _ ?_
  unfold eTup at p
  cases e : er s hp with
  | ok ds hp1 =>
    rw [e] at p
    intro vs m1 b1 h1 x1 ok1 r1
    dsimp only at p
    split at p
    · rename_i hl
      refine ⟨Nat.le_trans (by rw [r1.length]; exact hl) (by decide), fun q o hq hd => ?_⟩
      have F : Fr [] b1 h1 (upd b1 q (.frz o (.tup vs))) (upd h1 q (.frz o (.tup vs))) := Fr.laid ok1.sub hq
      exact p _ m1 _ _ (x1.trans (Stp.pure F)) (ok1.pure F) (.tup sqT_new (fun _ => TD.new hd) (r1.monoB F.base))
    · exact p.elim
  | exc x hp1 => rw [e] at p; exact p
  | bad => rw [e] at p; exact p.elim
theorem sn_lst (ha : SnA K G W tr er) : SnE K G W (tLst tr) (eLst er) := fun m b h hp σ s ok sl Q p => by
  refine ha m b h hp σ s ok sl _ ?_
  unfold eLst at p
  cases e : er s hp with
  | ok ds hp1 =>
    rw [e] at p
    intro vs m1 b1 h1 x1 ok1 r1
    dsimp only at p
    split at p
    · rename_i hl
      refine ⟨Nat.le_trans (by rw [r1.length]; exact hl) (by decide), fun q hq => ?_⟩
      have F : Fr [] b1 h1 (upd b1 q (.lst vs)) (upd h1 q (.lst vs)) := Fr.laid ok1.sub hq
      exact p _ m1 _ _ (x1.trans (Stp.pure F)) (ok1.pure F) (.lst upd_same (r1.monoB F.base))
    · exact p.elim
  | exc x hp1 => rw [e] at p; exact p
  | bad => rw [e] at p; exact p.elim
theorem sn_un {r : V → Hp → VK → Prop} {f : List O → D → Option D} (hf : UnOk K G r f) (ha : SnE K G W ta ea) : SnE K G W (tUn r ta) (eUn f ea) := fun m b h hp σ s ok sl Q p => by
  refine ha m b h hp σ s ok sl _ ?_
  unfold eUn at p
  cases e : ea s hp with
  | ok d hp1 =>
    rw [e] at p
    dsimp only at p
    intro v m1 b1 h1 x1 ok1 r1
    cases e2 : f hp1 d with
    | some d2 =>
      rw [e2] at p
      exact hf m1 b1 h1 hp1 v d d2 ok1 r1 e2 Q fun w b2 h2 F r2 => p w m1 b2 h2 (x1.trans (Stp.pure F)) (ok1.pure F) r2
    | none => rw [e2] at p; exact p.elim
  | exc x hp1 => rw [e] at p; exact p
  | bad => rw [e] at p; exact p.elim
theorem sn_op {r : R2} {f : List O → D → D → Option D} (hf : OpOk K G r f) (ha : SnE K G W ta ea) (hb : SnE K G W tb eb) : SnE K G W (tOp r ta tb) (eBin f ea eb) := fun m b h hp σ s ok sl Q p => by
  refine ha m b h hp σ s ok sl _ ?_
  unfold eBin at p
  cases e : ea s hp with
  | ok d hp1 =>
    rw [e] at p
    dsimp only at p
    intro v m1 b1 h1 x1 ok1 r1
    refine hb m1 b1 h1 hp1 σ s ok1 (sl.go x1) _ ?_
    cases e2 : eb s hp1 with
    | ok d2 hp2 =>
      rw [e2] at p
      dsimp only at p
      intro w m2 b2 h2 x2 ok2 r2
      cases e3 : f hp2 d d2 with
      | some d3 =>
        rw [e3] at p
        exact hf m2 b2 h2 hp2 v w d d2 d3 ok2 (r1.go x2) r2 e3 Q fun z b3 h3 F r3 => p z m2 b3 h3 ((x1.trans x2).trans (Stp.pure F)) (ok2.pure F) r3
      | none => rw [e3] at p; exact p.elim
    | exc x hp2 =>
      rw [e2] at p
      exact fun c dx m2 b2 h2 x2 => p c dx m2 b2 h2 (x1.trans x2)
    | bad => rw [e2] at p; exact p.elim
  | exc x hp1 => rw [e] at p; exact p
  | bad => rw [e] at p; exact p.elim
theorem sn_bi {r : List V → Hp → VK → Prop} {f : List O → List D → Option D} (hf : BiOk K G r f) (ha : SnA K G W tr er) : SnE K G W (tCB r tr) (eBi f er) := fun m b h hp σ s ok sl Q p => by
  refine ha m b h hp σ s ok sl _ ?_
  unfold eBi at p
  cases e : er s hp with
  | ok d hp1 =>
    rw [e] at p
    dsimp only at p
    intro v m1 b1 h1 x1 ok1 r1
    cases e2 : f hp1 d with
    | some d2 =>
      rw [e2] at p
      exact hf m1 b1 h1 hp1 v d d2 ok1 r1 e2 Q fun w b2 h2 F r2 => p w m1 b2 h2 (x1.trans (Stp.pure F)) (ok1.pure F) r2
    | none => rw [e2] at p; exact p.elim
  | exc x hp1 => rw [e] at p; exact p
  | bad => rw [e] at p; exact p.elim
/-! tests -/
def SnT (K : PySem.W.Frag) (G : Gs) (W : WX) (tt : TT) (ev : EE) : Prop := ∀ m b h hp σ s, Ok K G m b h hp → Sls K G m b σ s → ∀ Q : Bool → Hp → Prop, PostE K G m b h (ev s hp) (fun v H => ∃ c, v = .bl c ∧ Q c H) (fun c d H => W c d σ H) → tt σ h Q
def tOfT (K : PySem.W.Frag) (G : Gs) (W : WX) (ev : EE) : TT := fun σ h Q => ∃ m b hp s, Ok K G m b h hp ∧ Sls K G m b σ s ∧ PostE K G m b h (ev s hp) (fun v H => ∃ c, v = .bl c ∧ Q c H) (fun c d H => W c d σ H)
theorem snT_of : SnT K G W (tOfT K G W ea) ea := fun m b h hp σ s ok sl Q p => ⟨m, b, hp, s, ok, sl, p⟩
theorem snT_test (ha : SnE K G W ta ea) : SnT K G W (tTest ta) ea := fun m b h hp σ s ok sl Q p => ha m b h hp σ s ok sl _ p
theorem snT_B (ha : SnE K G W ta ea) : SnT K G W (tB ta) ea := fun m b h hp σ s ok sl Q p => ha m b h hp σ s ok sl _ p
theorem RD.isB {m : List Addr} {b : Hp} {v : V} {c : Bool} (h : RD K G m b v (.bl c)) : v = .bl c := by cases h; rfl
/-- a test that came out -/
theorem snT_use {u : TT} (hu : SnT K G W u ea) {m : List Addr} {b h : Hp} {hp : List O} {σ : St} {s : Sl} (ok : Ok K G m b h hp) (sl : Sls K G m b σ s) {Q : Bool → Hp → Prop}
    (h1 : ∀ c hp1, ea s hp = .ok (.bl c) hp1 → ∀ m1 b1 h1, Stp m b h m1 b1 h1 → Ok K G m1 b1 h1 hp1 → Q c h1)
    (h2 : ∀ x hp1, ea s hp = .exc x hp1 → ∀ cls dx m' b' h', Stp m b h m' b' h' → Ok K G m' b' h' hp1 → XR K G m' b' h' x cls dx → W cls dx σ h')
    (h3 : (∃ c hp1, ea s hp = .ok (.bl c) hp1) ∨ ∃ x hp1, ea s hp = .exc x hp1) : u σ h Q := by
  refine hu m b h hp σ s ok sl Q ?_
  rcases h3 with ⟨c, hp1, e⟩ | ⟨x, hp1, e⟩
  · rw [e]
    exact fun v m1 b1 g1 x1 ok1 r1 => ⟨c, r1.isB, h1 c hp1 e m1 b1 g1 x1 ok1⟩
  · rw [e]
    exact h2 x hp1 e
theorem snT_and {ta tb : TT} (ha : SnT K G W ta ea) (hb : SnT K G W tb eb) : SnT K G W (tAnd ta tb) (eAnd ea eb) := fun m b h hp σ s ok sl Q p => by
  unfold eAnd at p
  cases e : ea s hp with
  | ok d hp1 =>
    rw [e] at p
    cases d with
    | bl c =>
      refine snT_use ha ok sl (fun c' hp' e' m1 b1 h1 x1 ok1 => ?_) (fun x hp' e' => by rw [e] at e'; cases e') (.inl ⟨c, hp1, e⟩)
      rw [e] at e'; cases e'
      cases c with
      | true =>
        rw [if_pos rfl]
        dsimp only at p
        refine hb m1 b1 h1 hp1 σ s ok1 (sl.go x1) Q ?_
        cases e2 : eb s hp1 with
        | ok d2 hp2 =>
          rw [e2] at p
          cases d2 with
          | bl c2 => exact p.go x1
          | _ => exact p.elim
        | exc x hp2 => rw [e2] at p; exact p.go x1
        | bad => rw [e2] at p; exact p.elim
      | false =>
        rw [if_neg Bool.false_ne_true]
        obtain ⟨c, q1, q2⟩ := p (.bl false) m1 b1 h1 x1 ok1 (.bl false)
        cases q1; exact q2
    | _ => exact p.elim
  | exc x hp1 =>
    rw [e] at p
    exact snT_use ha ok sl (fun c hp' e' => by rw [e] at e'; cases e') (fun x' hp' e' => by rw [e] at e'; cases e'; exact p) (.inr ⟨x, hp1, e⟩)
  | bad => rw [e] at p; exact p.elim
theorem snT_or {ta tb : TT} (ha : SnT K G W ta ea) (hb : SnT K G W tb eb) : SnT K G W (tOr ta tb) (eOr ea eb) := fun m b h hp σ s ok sl Q p => by
  unfold eOr at p
  cases e : ea s hp with
  | ok d hp1 =>
    rw [e] at p
    cases d with
    | bl c =>
      refine snT_use ha ok sl (fun c' hp' e' m1 b1 h1 x1 ok1 => ?_) (fun x hp' e' => by rw [e] at e'; cases e') (.inl ⟨c, hp1, e⟩)
      rw [e] at e'; cases e'
      cases c with
      | false =>
        rw [if_neg Bool.false_ne_true]
        dsimp only at p
        refine hb m1 b1 h1 hp1 σ s ok1 (sl.go x1) Q ?_
        cases e2 : eb s hp1 with
        | ok d2 hp2 =>
          rw [e2] at p
          cases d2 with
          | bl c2 => exact p.go x1
          | _ => exact p.elim
        | exc x hp2 => rw [e2] at p; exact p.go x1
        | bad => rw [e2] at p; exact p.elim
      | true =>
        rw [if_pos rfl]
        obtain ⟨c, q1, q2⟩ := p (.bl true) m1 b1 h1 x1 ok1 (.bl true)
        cases q1; exact q2
    | _ => exact p.elim
  | exc x hp1 =>
    rw [e] at p
    exact snT_use ha ok sl (fun c hp' e' => by rw [e] at e'; cases e') (fun x' hp' e' => by rw [e] at e'; cases e'; exact p) (.inr ⟨x, hp1, e⟩)
  | bad => rw [e] at p; exact p.elim
theorem snT_not {ta : TT} (ha : SnT K G W ta ea) : SnT K G W (tNot ta) (eNot ea) := fun m b h hp σ s ok sl Q p => by
  unfold eNot at p
  cases e : ea s hp with
  | ok d hp1 =>
    rw [e] at p
    cases d with
    | bl c =>
      refine snT_use ha ok sl (fun c' hp' e' m1 b1 h1 x1 ok1 => ?_) (fun x hp' e' => by rw [e] at e'; cases e') (.inl ⟨c, hp1, e⟩)
      rw [e] at e'; cases e'
      obtain ⟨c, q1, q2⟩ := p (.bl !c) m1 b1 h1 x1 ok1 (.bl _)
      cases q1; exact q2
    | _ => exact p.elim
  | exc x hp1 =>
    rw [e] at p
    exact snT_use ha ok sl (fun c hp' e' => by rw [e] at e'; cases e') (fun x' hp' e' => by rw [e] at e'; cases e'; exact p) (.inr ⟨x, hp1, e⟩)
  | bad => rw [e] at p; exact p.elim
theorem sn_andV (ha : SnE K G W ta ea) (hb : SnE K G W tb eb) : SnE K G W (tAndV ta tb) (eAnd ea eb) := fun m b h hp σ s ok sl Q p => by
  refine ha m b h hp σ s ok sl _ ?_
  unfold eAnd at p
  cases e : ea s hp with
  | ok d hp1 =>
    rw [e] at p
    cases d with
    | bl c =>
      intro v m1 b1 h1 x1 ok1 r1
      refine ⟨c, r1.isB, ?_⟩
      cases c with
      | true =>
        rw [if_pos rfl]
        dsimp only at p
        refine hb m1 b1 h1 hp1 σ s ok1 (sl.go x1) Q ?_
        cases e2 : eb s hp1 with
        | ok d2 hp2 =>
          rw [e2] at p
          cases d2 with
          | bl c2 => exact p.go x1
          | _ => exact p.elim
        | exc x hp2 => rw [e2] at p; exact p.go x1
        | bad => rw [e2] at p; exact p.elim
      | false =>
        rw [if_neg Bool.false_ne_true]
        exact p (.bl false) m1 b1 h1 x1 ok1 (.bl false)
    | _ => exact p.elim
  | exc x hp1 => rw [e] at p; exact p
  | bad => rw [e] at p; exact p.elim
theorem sn_orV (ha : SnE K G W ta ea) (hb : SnE K G W tb eb) : SnE K G W (tOrV ta tb) (eOr ea eb) := fun m b h hp σ s ok sl Q p => by
  refine ha m b h hp σ s ok sl _ ?_
  unfold eOr at p
  cases e : ea s hp with
  | ok d hp1 =>
    rw [e] at p
    cases d with
    | bl c =>
      intro v m1 b1 h1 x1 ok1 r1
      refine ⟨c, r1.isB, ?_⟩
      cases c with
      | false =>
        rw [if_neg Bool.false_ne_true]
        dsimp only at p
        refine hb m1 b1 h1 hp1 σ s ok1 (sl.go x1) Q ?_
        cases e2 : eb s hp1 with
        | ok d2 hp2 =>
          rw [e2] at p
          cases d2 with
          | bl c2 => exact p.go x1
          | _ => exact p.elim
        | exc x hp2 => rw [e2] at p; exact p.go x1
        | bad => rw [e2] at p; exact p.elim
      | true =>
        rw [if_pos rfl]
        exact p (.bl true) m1 b1 h1 x1 ok1 (.bl true)
    | _ => exact p.elim
  | exc x hp1 => rw [e] at p; exact p
  | bad => rw [e] at p; exact p.elim
theorem sn_notV (ha : SnE K G W ta ea) : SnE K G W (tNotV ta) (eNot ea) := fun m b h hp σ s ok sl Q p => by
  refine ha m b h hp σ s ok sl _ ?_
  unfold eNot at p
  cases e : ea s hp with
  | ok d hp1 =>
    rw [e] at p
    cases d with
    | bl c =>
      intro v m1 b1 h1 x1 ok1 r1
      exact ⟨c, r1.isB, p (.bl !c) m1 b1 h1 x1 ok1 (.bl _)⟩
    | _ => exact p.elim
  | exc x hp1 => rw [e] at p; exact p
  | bad => rw [e] at p; exact p.elim
theorem sn_if (ht : SnT K G W tt et) (ha : SnE K G W ta ea) (hb : SnE K G W tb eb) : SnE K G W (tIf tt ta tb) (eIf et ea eb) := fun m b h hp σ s ok sl Q p => by
  unfold eIf at p
  cases e : et s hp with
  | ok d hp1 =>
    rw [e] at p
    cases d with
    | bl c =>
      refine snT_use ht ok sl (fun c' hp' e' m1 b1 h1 x1 ok1 => ?_) (fun x hp' e' => by rw [e] at e'; cases e') (.inl ⟨c, hp1, e⟩)
      rw [e] at e'; cases e'
      dsimp only at p
      cases c with
      | true =>
        rw [if_pos rfl]
        exact ha m1 b1 h1 hp1 σ s ok1 (sl.go x1) Q (p.go x1)
      | false =>
        rw [if_neg Bool.false_ne_true]
        exact hb m1 b1 h1 hp1 σ s ok1 (sl.go x1) Q (p.go x1)
    | _ => exact p.elim
  | exc x hp1 =>
    rw [e] at p
    exact snT_use ht ok sl (fun c hp' e' => by rw [e] at e'; cases e') (fun x' hp' e' => by rw [e] at e'; cases e'; exact p) (.inr ⟨x, hp1, e⟩)
  | bad => rw [e] at p; exact p.elim
theorem sn_chain {r r' : R2} {f f' : List O → D → D → Option D} (hf : OpOk K G r f) (hf' : OpOk K G r' f') (ha : SnE K G W ta ea) (hb : SnE K G W tb eb) (hc : SnE K G W tc ec) : SnE K G W (tChain r r' ta tb tc) (eChain f f' ea eb ec) := fun m b h hp σ s ok sl Q p => by
  refine ha m b h hp σ s ok sl _ ?_
  unfold eChain at p
  cases e : ea s hp with
  | ok d hp1 =>
    rw [e] at p
    dsimp only at p
    intro v m1 b1 h1 x1 ok1 r1
    refine hb m1 b1 h1 hp1 σ s ok1 (sl.go x1) _ ?_
    cases e2 : eb s hp1 with
    | ok d2 hp2 =>
      rw [e2] at p
      dsimp only at p
      intro w m2 b2 h2 x2 ok2 r2
      cases e3 : f hp2 d d2 with
      | some d3 =>
        rw [e3] at p
        cases d3 with
        | bl c =>
          refine hf m2 b2 h2 hp2 v w d d2 _ ok2 (r1.go x2) r2 e3 _ fun z b3 h3 F r3 => ⟨c, r3.isB, ?_⟩
          have y3 := (x1.trans x2).trans (Stp.pure (m := m2) F)
          cases c with
          | true =>
            rw [if_pos rfl]
            dsimp only at p
            refine hc m2 b3 h3 hp2 σ s (ok2.pure F) (sl.go y3) _ ?_
            cases e4 : ec s hp2 with
            | ok d4 hp4 =>
              rw [e4] at p
              dsimp only at p
              intro z4 m4 b4 h4 x4 ok4 r4
              cases e5 : f' hp4 d2 d4 with
              | some d5 =>
                rw [e5] at p
                exact hf' m4 b4 h4 hp4 w z4 d2 d4 d5 ok4 ((r2.monoB F.base).go x4) r4 e5 Q fun z b5 h5 F5 r5 => p z m4 b5 h5 ((y3.trans x4).trans (Stp.pure F5)) (ok4.pure F5) r5
              | none => rw [e5] at p; exact p.elim
            | exc x hp4 =>
              rw [e4] at p
              exact fun c dx m4 b4 h4 x4 => p c dx m4 b4 h4 (y3.trans x4)
            | bad => rw [e4] at p; exact p.elim
          | false =>
            rw [if_neg Bool.false_ne_true]
            exact p (.bl false) m2 b3 h3 y3 (ok2.pure F) (.bl false)
        | _ => exact p.elim
      | none => rw [e3] at p; exact p.elim
    | exc x hp2 =>
      rw [e2] at p
      exact fun c dx m2 b2 h2 x2 => p c dx m2 b2 h2 (x1.trans x2)
    | bad => rw [e2] at p; exact p.elim
  | exc x hp1 => rw [e] at p; exact p
  | bad => rw [e] at p; exact p.elim
/-! calls -/
theorem sn_call {F : List D → List O → RE} {n : Nat} {vs : List D} {dvs : List V} (hv : ∀ m b, RDs K G m b dvs vs) (ha : SnA K G W tr er) (hn : ∀ s hp ds hp1, er s hp = .ok ds hp1 → (ds ++ vs).length = n) :
    SnE K G W (tCallSD (spEv K G F n) dvs (WE W) tr) (eCall F vs er) := fun m b h hp σ s ok sl Q p => by
  refine ha m b h hp σ s ok sl _ ?_
  unfold eCall at p
  cases e : er s hp with
  | ok ds hp1 =>
    rw [e] at p
    intro xs m1 b1 h1 x1 ok1 r1
    exact ⟨m1, b1, hp1, ds ++ vs, ok1, r1.append (hv m1 b1), hn s hp ds hp1 e, p.go x1⟩
  | exc x hp1 => rw [e] at p; exact p
  | bad => rw [e] at p; exact p.elim
end
end EV

namespace EV
open PySem L2 DV
/-! plain data within -/
mutual
/-- no deeper than n, plain data alone -/
def pureN : Nat → D → Bool
  | _, .non | _, .bl _ | _, .int _ | _, .str _ => true
  | n + 1, .tup xs | n + 1, .lst xs => pureNs n xs
  | _, _ => false
def pureNs : Nat → List D → Bool
  | _, [] => true
  | n, x :: xs => pureN n x && pureNs n xs
end
mutual
def toP : D → PyData
  | .bl b => .bool b
  | .int i => .int i
  | .str x => .str x
  | .tup xs => .tuple (toPs xs)
  | .lst xs => .list (toPs xs)
  | _ => .none
def toPs : List D → List PyData
  | [] => []
  | x :: xs => toP x :: toPs xs
end
theorem toPs_map : ∀ xs : List D, toPs xs = xs.map toP
  | [] => by unfold toPs; rfl
  | x :: xs => by unfold toPs; rw [toPs_map xs]; rfl
section
variable {K : PySem.W.Frag} {G : Gs} {m : List Addr} {b : Hp}
mutual
theorem RD.da : ∀ {v : V} {d : D} (n : Nat), RD K G m b v d → pureN n d = true → Da K b v (toP d)
  | _, _, _, .non, _ => by unfold toP; exact .non
  | _, _, _, .bl x, _ => by unfold toP; exact .bl x
  | _, _, _, .int x, _ => by unfold toP; exact .int x
  | _, _, _, .str x, _ => by unfold toP; exact .str x
  | _, _, n + 1, .tup h _ hs, e => by unfold toP; exact .tup h (RDs.da n hs (by unfold pureN at e; exact e))
  | _, _, 0, .tup h _ hs, e => by unfold pureN at e; cases e
  | _, _, n + 1, .lst h hs, e => by unfold toP; exact .lst h (RDs.da n hs (by unfold pureN at e; exact e))
  | _, _, 0, .lst h hs, e => by unfold pureN at e; cases e
  | _, _, 0, .frz h hs, e => by unfold pureN at e; cases e
  | _, _, n + 1, .frz h hs, e => by unfold pureN at e; cases e
  | _, _, 0, .ref h, e => by unfold pureN at e; cases e
  | _, _, n + 1, .ref h, e => by unfold pureN at e; cases e
  | _, _, 0, .fn i, e => by unfold pureN at e; cases e
  | _, _, n + 1, .fn i, e => by unfold pureN at e; cases e
  | _, _, 0, .ty i, e => by unfold pureN at e; cases e
  | _, _, n + 1, .ty i, e => by unfold pureN at e; cases e
theorem RDs.da : ∀ {vs : List V} {ds : List D} (n : Nat), RDs K G m b vs ds → pureNs n ds = true → DaAll K b vs (toPs ds)
  | _, _, _, .nil, _ => by unfold toPs; exact .nil
  | _, _, n, .cons h hs, e => by
    unfold pureNs at e
    rw [Bool.and_eq_true] at e
    unfold toPs
    exact .cons (RD.da n h e.1) (RDs.da n hs e.2)
end
end
mutual
theorem plain_toP : ∀ d : D, (toP d).plain = true
  | .non => by unfold toP; rfl
  | .bl _ => by unfold toP; rfl
  | .int _ => by unfold toP; rfl
  | .str _ => by unfold toP; rfl
  | .tup xs => by unfold toP; unfold PyData.plain; exact plain_toPs xs
  | .lst xs => by unfold toP; unfold PyData.plain; exact plain_toPs xs
  | .frz _ => by unfold toP; rfl
  | .ref _ => by unfold toP; rfl
  | .fn _ => by unfold toP; rfl
  | .ty _ => by unfold toP; rfl
theorem plain_toPs : ∀ ds : List D, PyData.plainAll (toPs ds) = true
  | [] => by unfold toPs; rfl
  | x :: xs => by unfold toPs; unfold PyData.plainAll; rw [plain_toP x, plain_toPs xs]; rfl
end
mutual
theorem depth_toP : ∀ (n : Nat) (d : D), pureN n d = true → (toP d).depth ≤ n
  | _, .non, _ => by unfold toP; exact Nat.zero_le _
  | _, .bl _, _ => by unfold toP; exact Nat.zero_le _
  | _, .int _, _ => by unfold toP; exact Nat.zero_le _
  | _, .str _, _ => by unfold toP; exact Nat.zero_le _
  | n + 1, .tup xs, e => by
    unfold pureN at e
    unfold toP PyData.depth
    have := depth_toPs n xs e
    omega
  | n + 1, .lst xs, e => by
    unfold pureN at e
    unfold toP PyData.depth
    have := depth_toPs n xs e
    omega
  | 0, .tup xs, e => by unfold pureN at e; cases e
  | 0, .lst xs, e => by unfold pureN at e; cases e
  | 0, .frz _, e => by unfold pureN at e; cases e
  | n + 1, .frz _, e => by unfold pureN at e; cases e
  | 0, .ref _, e => by unfold pureN at e; cases e
  | n + 1, .ref _, e => by unfold pureN at e; cases e
  | 0, .fn _, e => by unfold pureN at e; cases e
  | n + 1, .fn _, e => by unfold pureN at e; cases e
  | 0, .ty _, e => by unfold pureN at e; cases e
  | n + 1, .ty _, e => by unfold pureN at e; cases e
theorem depth_toPs : ∀ (n : Nat) (ds : List D), pureNs n ds = true → PyData.depthAll (toPs ds) ≤ n
  | _, [], _ => by unfold toPs PyData.depthAll; exact Nat.zero_le _
  | n, x :: xs, e => by
    unfold pureNs at e
    rw [Bool.and_eq_true] at e
    unfold toPs PyData.depthAll
    have h1 := depth_toP n x e.1
    have h2 := depth_toPs n xs e.2
    exact Nat.max_le.mpr ⟨h1, h2⟩
end
/-! lists, be they changing or not -/
def lstOf (hp : List O) : D → Option (List D)
  | .lst xs => some xs
  | .ref n => match hp[n]? with
    | some (.lst xs) => some xs
    | _ => none
  | _ => none
/-- a list to be read alone -/
def lstR (hp : List O) : D → Option (List D)
  | .lst xs => some xs
  | .frz xs => some xs
  | .ref n => match hp[n]? with
    | some (.lst xs) => some xs
    | _ => none
  | _ => none
section
variable {K : PySem.W.Frag} {G : Gs} {m : List Addr} {b h : Hp} {hp : List O} {v : V} {d : D} {xs : List D}
theorem lstOf_ok (ok : Ok K G m b h hp) (r : RD K G m b v d) (e : lstOf hp d = some xs) : ∃ a vs, v = .ref a ∧ h a = some (.lst vs) ∧ RDs K G m b vs xs := by
  cases r with
  | lst s q => unfold lstOf at e; cases e; exact ⟨_, _, rfl, ok.sub _ _ s, q⟩
  | @ref a n s =>
    unfold lstOf at e
    dsimp only at e
    cases o : hp[n]? with
    | none => rw [o] at e; cases e
    | some ob =>
      cases ob with
      | lst ys =>
        rw [o] at e; cases e
        obtain ⟨_, vs, e1, e2⟩ := ok.ob n a _ s o
        exact ⟨a, vs, rfl, e1, e2⟩
      | _ => rw [o] at e; cases e
  | _ => cases e
theorem lstR_ok (ok : Ok K G m b h hp) (r : RD K G m b v d) (e : lstR hp d = some xs) : ∃ a vs, v = .ref a ∧ SqL K h a vs ∧ RDs K G m b vs xs := by
  cases r with
  | lst s q => unfold lstR at e; cases e; exact ⟨_, _, rfl, .inl (.inl (ok.sub _ _ s)), q⟩
  | frz s q => unfold lstR at e; cases e; exact ⟨_, _, rfl, sqL_mono ok.sub s, q⟩
  | @ref a n s =>
    unfold lstR at e
    dsimp only at e
    cases o : hp[n]? with
    | none => rw [o] at e; cases e
    | some ob =>
      cases ob with
      | lst ys =>
        rw [o] at e; cases e
        obtain ⟨_, vs, e1, e2⟩ := ok.ob n a _ s o
        exact ⟨a, vs, rfl, .inl (.inl e1), e2⟩
      | _ => rw [o] at e; cases e
  | _ => cases e
end
/-! operators -/
section
variable (K : PySem.W.Frag)
def rEqP (neg : Bool) : R2 := fun x y H Q => ∃ d e, Dp K H x d ∧ Dp K H y e ∧ d.plain = true ∧ e.plain = true ∧ min d.depth e.depth ≤ 40 ∧ Q (.bl (if neg then !PyData.eqv d e else PyData.eqv d e)) H
def rInP (neg : Bool) : R2 := fun x y H Q => ∃ d ds, Dp K H x d ∧ (Dp K H y (.list ds) ∨ Dp K H y (.tuple ds)) ∧ PyData.plainAll ds = true ∧ d.plain = true ∧ d.depth ≤ 40 ∧ Q (.bl (if neg then !ds.any fun z => PyData.eqv z d else ds.any fun z => PyData.eqv z d)) H
end
section
variable {X : Cx}
theorem op_eqP (hu : X.A.units + 64 < cLine) : OpR X (compareOp .Eq) (rEqP X.K false) := by
  intro pins s σ H x y v u Q I rx ry h
  obtain ⟨d, e, hd, he, sd, se, hl, q⟩ := h
  obtain ⟨as, r1⟩ := Dp.reads I d x v hd rx
  obtain ⟨bs, r2⟩ := Dp.reads I e y u he ry
  exact SeqAt.eq_plain r1 r2 sd se (by omega) ⟨.bl _, H, I, rfl, q⟩
theorem op_neP (hu : X.A.units + 64 < cLine) : OpR X (compareOp .NotEq) (rEqP X.K true) := by
  intro pins s σ H x y v u Q I rx ry h
  obtain ⟨d, e, hd, he, sd, se, hl, q⟩ := h
  obtain ⟨as, r1⟩ := Dp.reads I d x v hd rx
  obtain ⟨bs, r2⟩ := Dp.reads I e y u he ry
  exact SeqAt.ne_plain r1 r2 sd se (by omega) ⟨.bl _, H, I, rfl, q⟩
theorem op_inP (hu : X.A.units + 64 < cLine) : OpR X (compareOp .In) (rInP X.K false) := by
  intro pins s σ H x y v u Q I rx ry h
  obtain ⟨d, ds, hd, he, sd, se, hl, q⟩ := h
  obtain ⟨as, r1⟩ := Dp.reads I d x v hd rx
  have hm : min (PyData.depthAll ds) d.depth ≤ 40 := Nat.le_trans (Nat.min_le_right _ _) hl
  rcases he with he | he
  · obtain ⟨bs, r2⟩ := Dp.reads I _ y u he ry
    exact SeqAt.in_list_data r2 r1 sd se (by omega) ⟨.bl _, H, I, rfl, q⟩
  · obtain ⟨bs, r2⟩ := Dp.reads I _ y u he ry
    exact SeqAt.in_tuple_data r2 r1 sd se (by omega) ⟨.bl _, H, I, rfl, q⟩
theorem op_notInP (hu : X.A.units + 64 < cLine) : OpR X (compareOp .NotIn) (rInP X.K true) := by
  intro pins s σ H x y v u Q I rx ry h
  obtain ⟨d, ds, hd, he, sd, se, hl, q⟩ := h
  obtain ⟨as, r1⟩ := Dp.reads I d x v hd rx
  have hm : min (PyData.depthAll ds) d.depth ≤ 40 := Nat.le_trans (Nat.min_le_right _ _) hl
  rcases he with he | he
  · obtain ⟨bs, r2⟩ := Dp.reads I _ y u he ry
    exact SeqAt.notIn_list_data r2 r1 sd se (by omega) ⟨.bl _, H, I, rfl, q⟩
  · obtain ⟨bs, r2⟩ := Dp.reads I _ y u he ry
    exact SeqAt.notIn_tuple_data r2 r1 sd se (by omega) ⟨.bl _, H, I, rfl, q⟩
end
/-- a changing list is read as it stands -/
def see (hp : List O) : D → D
  | .ref n => match hp[n]? with
    | some (.lst xs) => .lst xs
    | _ => .ref n
  | d => d
def fEq (neg : Bool) (hp : List O) (d1 d2 : D) : Option D :=
  if pureN 40 d1 && pureN 40 d2 then some (.bl (if neg then !PyData.eqv (toP d1) (toP d2) else PyData.eqv (toP d1) (toP d2))) else none
def signOf (x : Str) : Option Nat := match x.cps.toList with
  | [c] => some c
  | _ => none
def fIn (neg : Bool) (hp : List O) (d1 d2 : D) : Option D := match d1, d2 with
  | .str x, .str z => (signOf x).map fun c => .bl (if neg then !decide (c ∈ z.cps.toList) else decide (c ∈ z.cps.toList))
  | d, .tup ds => if pureN 40 d && pureNs 40 ds then some (.bl (if neg then !(toPs ds).any fun z => PyData.eqv z (toP d) else (toPs ds).any fun z => PyData.eqv z (toP d))) else none
  | d, .lst ds => if pureN 40 d && pureNs 40 ds then some (.bl (if neg then !(toPs ds).any fun z => PyData.eqv z (toP d) else (toPs ds).any fun z => PyData.eqv z (toP d))) else none
  | _, _ => none
def isNon : D → Bool
  | .non => true
  | _ => false
def fIs (neg : Bool) (hp : List O) (d1 d2 : D) : Option D := match d2 with
  | .non => some (.bl (if neg then !isNon d1 else isNon d1))
  | _ => none
def fAdd (hp : List O) (d1 d2 : D) : Option D := match d1, d2 with
  | .int i, .int j => some (.int (i + j))
  | .str x, .str y => if x.length + y.length ≤ 100000 then some (.str (x ++ y)) else none
  | .tup xs, .tup ys => if xs.length + ys.length ≤ 100000 then some (.tup (xs ++ ys)) else none
  | d1, d2 => match lstOf hp d1, lstOf hp d2 with
    | some xs, some ys => if xs.length + ys.length ≤ 100000 then some (.lst (xs ++ ys)) else none
    | _, _ => none
def fSub (hp : List O) (d1 d2 : D) : Option D := match d1, d2 with
  | .int i, .int j => some (.int (i - j))
  | _, _ => none
def wide (i : Int) : Bool := decide (i.natAbs < 2 ^ 200)
def fMod (hp : List O) (d1 d2 : D) : Option D := match d1, d2 with
  | .int i, .int j => if 0 < j then some (.int (i % j)) else none
  | _, _ => none
def fDiv (hp : List O) (d1 d2 : D) : Option D := match d1, d2 with
  | .int i, .int j => if 0 < j && wide j then some (.int (i / j)) else none
  | _, _ => none
def fLt (g : Int → Int → Bool) (hp : List O) (d1 d2 : D) : Option D := match d1, d2 with
  | .int i, .int j => some (.bl (g i j))
  | _, _ => none
def fNeg (hp : List O) (d1 : D) : Option D := match d1 with
  | .int i => some (.int (-i))
  | _ => none
def rep (xs : List D) : Nat → List D
  | 0 => []
  | n + 1 => xs ++ rep xs n
theorem rep_eq (xs : List D) : ∀ n : Nat, rep xs n = (List.replicate n xs).flatten
  | 0 => rfl
  | n + 1 => by unfold rep; rw [rep_eq xs n, List.replicate_succ, List.flatten_cons]
def mulOk (i j : Int) : Bool := wide i && wide j || decide (-(2 ^ 64) < i ∧ i < 2 ^ 64) || decide (-(2 ^ 64) < j ∧ j < 2 ^ 64)
def fMul (hp : List O) (d1 d2 : D) : Option D := match d1, d2 with
  | .int i, .int j => if mulOk i j then some (.int (i * j)) else none
  | .lst xs, .int k => if decide (-(2 ^ 63) ≤ k ∧ k < 2 ^ 63) && decide (xs.length * k.toNat ≤ 100000) then some (.lst (rep xs k.toNat)) else none
  | .tup xs, .int k => if decide (2 ≤ k ∧ k ≤ 1000) && decide (xs.length ≤ 1000) && decide (xs ≠ []) then some (.tup (rep xs k.toNat)) else none
  | _, _ => none
section
variable {K : PySem.W.Frag} {G : Gs}
theorem OpOk.or1 {r r' : R2} {f : List O → D → D → Option D} (h : OpOk K G r f) : OpOk K G (fun x y H Q => r x y H Q ∨ r' x y H Q) f := fun m b hh hp x y d1 d2 d ok r1 r2 e Q q => .inl (h m b hh hp x y d1 d2 d ok r1 r2 e Q q)
theorem OpOk.or2 {r r' : R2} {f : List O → D → D → Option D} (h : OpOk K G r' f) : OpOk K G (fun x y H Q => r x y H Q ∨ r' x y H Q) f := fun m b hh hp x y d1 d2 d ok r1 r2 e Q q => .inr (h m b hh hp x y d1 d2 d ok r1 r2 e Q q)
theorem ok_eqP (neg : Bool) : OpOk K G (rEqP K neg) (fEq neg) := fun m b h hp x y d1 d2 d ok r1 r2 e Q q => by
  unfold fEq at e
  split at e
  · rename_i hc
    rw [Bool.and_eq_true] at hc
    cases e
    exact ⟨toP d1, toP d2, ((r1.da 40 hc.1).mono ok.sub).dp, ((r2.da 40 hc.2).mono ok.sub).dp, plain_toP _, plain_toP _, Nat.le_trans (Nat.min_le_left _ _) (depth_toP 40 _ hc.1), q _ b h (Fr.rfl' ok.sub) (.bl _)⟩
  · cases e
theorem ok_inP (neg : Bool) : OpOk K G (fun x y H Q => rInP K neg x y H Q ∨ (∃ (c : Nat) (z : Str), x = .str ⟨#[c]⟩ ∧ y = .str z ∧ Q (.bl (if neg then !decide (c ∈ z.cps.toList) else decide (c ∈ z.cps.toList))) H)) (fIn neg) := fun m b h hp x y d1 d2 d ok r1 r2 e Q q => by
  cases d2 with
  | tup ds =>
    have e : (if pureN 40 d1 && pureNs 40 ds then some (D.bl (if neg then !(toPs ds).any fun z => PyData.eqv z (toP d1) else (toPs ds).any fun z => PyData.eqv z (toP d1))) else none) = some d := by
      cases d1 <;> exact e
    split at e
    · rename_i hc
      rw [Bool.and_eq_true] at hc
      cases e
      refine .inl ⟨toP d1, toPs ds, ((r1.da 40 hc.1).mono ok.sub).dp, .inr ?_, plain_toPs _, plain_toP _, depth_toP 40 _ hc.1, q _ b h (Fr.rfl' ok.sub) (.bl _)⟩
      cases r2 with
      | tup s _ a => exact ((Da.tup s (a.da 40 hc.2)).mono ok.sub).dp
    · cases e
  | lst ds =>
    have e : (if pureN 40 d1 && pureNs 40 ds then some (D.bl (if neg then !(toPs ds).any fun z => PyData.eqv z (toP d1) else (toPs ds).any fun z => PyData.eqv z (toP d1))) else none) = some d := by
      cases d1 <;> exact e
    split at e
    · rename_i hc
      rw [Bool.and_eq_true] at hc
      cases e
      refine .inl ⟨toP d1, toPs ds, ((r1.da 40 hc.1).mono ok.sub).dp, .inl ?_, plain_toPs _, plain_toP _, depth_toP 40 _ hc.1, q _ b h (Fr.rfl' ok.sub) (.bl _)⟩
      cases r2 with
      | lst s a => exact ((Da.lst s (a.da 40 hc.2)).mono ok.sub).dp
    · cases e
  | str z =>
    cases d1 with
    | str x1 =>
      unfold fIn at e
      dsimp only at e
      cases r1; cases r2
      obtain ⟨⟨l⟩⟩ := x1
      cases l with
      | nil => cases e
      | cons c r =>
        cases r with
        | nil =>
          cases e
          exact .inr ⟨c, z, rfl, rfl, q _ b h (Fr.rfl' ok.sub) (.bl _)⟩
        | cons c2 r2 => cases e
    | _ => cases e
  | _ => cases d1 <;> cases e
theorem ok_isN : OpOk K G (fun x y H Q => y = .non ∧ Q (.bl (decide (x = .non))) H) (fIs false) := fun m b h hp x y d1 d2 d ok r1 r2 e Q q => by
  cases d2 with
  | non =>
    cases r2
    cases e
    refine ⟨rfl, ?_⟩
    have e : decide (x = V.non) = isNon d1 := by cases r1 <;> rfl
    rw [e]
    exact q _ b h (Fr.rfl' ok.sub) (.bl _)
  | _ => cases e
theorem ok_notN : OpOk K G (fun x y H Q => y = .non ∧ Q (.bl (!decide (x = .non))) H) (fIs true) := fun m b h hp x y d1 d2 d ok r1 r2 e Q q => by
  cases d2 with
  | non =>
    cases r2
    cases e
    refine ⟨rfl, ?_⟩
    have e : (!decide (x = V.non)) = !isNon d1 := by cases r1 <;> rfl
    rw [e]
    exact q _ b h (Fr.rfl' ok.sub) (.bl _)
  | _ => cases e
theorem ok_sub : OpOk K G (rI0 fun i j => .int (i - j)) fSub := fun m b h hp x y d1 d2 d ok r1 r2 e Q q => by
  cases r1 <;> cases r2 <;> cases e
  exact ⟨_, _, rfl, rfl, q _ b h (Fr.rfl' ok.sub) (.int _)⟩
theorem ok_lt (g : Int → Int → Bool) : OpOk K G (rI0 fun i j => .bl (g i j)) (fLt g) := fun m b h hp x y d1 d2 d ok r1 r2 e Q q => by
  cases r1 <;> cases r2 <;> cases e
  exact ⟨_, _, rfl, rfl, q _ b h (Fr.rfl' ok.sub) (.bl _)⟩
theorem ok_mod : OpOk K G (rI (fun _ j => 0 < j) fun i j => .int (i % j)) fMod := fun m b h hp x y d1 d2 d ok r1 r2 e Q q => by
  cases d1 <;> cases d2 <;> try (cases e; done)
  cases r1; cases r2
  unfold fMod at e
  dsimp only at e
  split at e
  · rename_i hj
    cases e
    exact ⟨_, _, rfl, rfl, hj, q _ b h (Fr.rfl' ok.sub) (.int _)⟩
  · cases e
theorem ok_div : OpOk K G (rI CDivW fun i j => .int (i / j)) fDiv := fun m b h hp x y d1 d2 d ok r1 r2 e Q q => by
  cases d1 <;> cases d2 <;> try (cases e; done)
  cases r1; cases r2
  unfold fDiv at e
  dsimp only at e
  split at e
  · rename_i hj
    rw [Bool.and_eq_true, decide_eq_true_eq] at hj
    cases e
    exact ⟨_, _, rfl, rfl, wide_div hj.1 (of_decide_eq_true hj.2) (by decide) (by decide), q _ b h (Fr.rfl' ok.sub) (.int _)⟩
  · cases e
theorem ok_neg : UnOk K G (rU fun i => .int (-i)) fNeg := fun m b h hp x d1 d ok r1 e Q q => by
  cases r1 <;> cases e
  exact ⟨_, rfl, q _ b h (Fr.rfl' ok.sub) (.int _)⟩
def rAddF (K : PySem.W.Frag) : R2 := fun x y H Q => rAddB K x y H Q ∨ rCatF K x y H Q
theorem op_addF {K : PySem.W.Frag} {X : Cx} (h : X.K = K) : OpR X (binaryOp .Add) (rAddF K) := by subst h; exact OpR.or op_addB op_catF
theorem ok_add : OpOk K G (rAddF K) fAdd := fun m b h hp x y d1 d2 d ok r1 r2 e Q q => by
  have lists : ∀ xs ys, lstOf hp d1 = some xs → lstOf hp d2 = some ys → xs.length + ys.length ≤ 100000 → d = .lst (xs ++ ys) → rAddB K x y h Q := fun xs ys e1 e2 hl ed => by
    obtain ⟨a, vs, rfl, ha, qa⟩ := lstOf_ok ok r1 e1
    obtain ⟨c, ws, rfl, hc, qc⟩ := lstOf_ok ok r2 e2
    subst ed
    refine .inl (.inr (.inr (.inl ⟨_, _, _, _, rfl, rfl, ha, hc, ?_, fun p hp' => ?_⟩)))
    · rw [qa.length, qc.length]; exact Nat.le_trans hl (by decide)
    · have F : Fr [] b h (upd b p (.lst (vs ++ ws))) (upd h p (.lst (vs ++ ws))) := Fr.laid ok.sub hp'
      exact q _ _ _ F (.lst upd_same ((qa.append qc).monoB F.base))
  have back : (match lstOf hp d1, lstOf hp d2 with
    | some xs, some ys => if xs.length + ys.length ≤ 100000 then some (D.lst (xs ++ ys)) else none
    | _, _ => none) = some d → rAddF K x y h Q := fun e => .inl <| by
    cases e1 : lstOf hp d1 with
    | none => rw [e1] at e; cases e
    | some xs =>
      cases e2 : lstOf hp d2 with
      | none => rw [e1, e2] at e; cases e
      | some ys =>
        rw [e1, e2] at e
        dsimp only at e
        split at e
        · rename_i hl
          cases e
          exact lists xs ys e1 e2 hl rfl
        · cases e
  cases d1 with
  | int i =>
    cases d2 with
    | int j =>
      cases e; cases r1; cases r2
      exact .inl (.inl (.inl ⟨i, j, rfl, rfl, q _ b h (Fr.rfl' ok.sub) (.int _)⟩))
    | _ => exact back e
  | str x1 =>
    cases d2 with
    | str y1 =>
      unfold fAdd at e
      dsimp only at e
      split at e
      · rename_i hl
        cases e; cases r1; cases r2
        exact .inl (.inl (.inr (.inl ⟨x1, y1, rfl, rfl, Nat.le_trans hl (by decide), q _ b h (Fr.rfl' ok.sub) (.str _)⟩)))
      · cases e
    | _ => exact back e
  | tup xs =>
    cases d2 with
    | tup ys =>
      unfold fAdd at e
      dsimp only at e
      split at e
      · rename_i hl
        cases e
        cases r1 with
        | @tup l1 vs1 _ s t a =>
          cases r2 with
          | @tup l2 vs2 _ s2 t2 aa =>
            refine .inr ⟨_, _, _, _, rfl, rfl, sqT_mono ok.sub s, sqT_mono ok.sub s2, ?_, ?_⟩
            · rw [a.length, aa.length]; exact Nat.le_trans hl (by decide)
            · by_cases e : vs1 = []
              · subst e; cases a; exact .inl ⟨rfl, q _ b _ (Fr.rfl' ok.sub) (.tup s2 t2 aa)⟩
              · by_cases e2 : vs2 = []
                · subst e2; cases aa; rw [List.append_nil] at q; exact .inr (.inl ⟨e, rfl, q _ b _ (Fr.rfl' ok.sub) (.tup s t a)⟩)
                · exact .inr (.inr ⟨e, e2, fun p o hp hd => q _ _ _ (Fr.laid ok.sub hp) (.tup sqT_new (fun _ => TD.new hd) ((a.append aa).monoB (Fr.laid (B := []) ok.sub hp).base))⟩)
      · cases e
    | _ => exact back e
  | _ => exact back (by cases d2 <;> exact e)
theorem rep_rds {m : List Addr} {b : Hp} {vs : List V} {xs : List D} (a : RDs K G m b vs xs) : ∀ n : Nat, RDs K G m b (List.replicate n vs).flatten (rep xs n)
  | 0 => .nil
  | n + 1 => by rw [List.replicate_succ, List.flatten_cons]; unfold rep; exact a.append (rep_rds a n)
theorem ok_mul : OpOk K G (fun x y H Q => rMulA x y H Q ∨ rRepF K x y H Q) fMul := fun m b h hp x y d1 d2 d ok r1 r2 e Q q => by
  cases d1 with
  | int i =>
    cases d2 with
    | int j =>
      unfold fMul at e
      dsimp only at e
      split at e
      · rename_i hc
        cases e; cases r1; cases r2
        unfold mulOk at hc
        rw [Bool.or_eq_true, Bool.or_eq_true, Bool.and_eq_true, decide_eq_true_eq, decide_eq_true_eq] at hc
        rcases hc with (⟨h1, h2⟩ | h1) | h1
        · exact .inl (.inl ⟨i, j, rfl, rfl, wide_mul (of_decide_eq_true h1) (of_decide_eq_true h2) (by decide) (by decide) (by decide), q _ b h (Fr.rfl' ok.sub) (.int _)⟩)
        · exact .inl (.inr (.inl ⟨i, j, rfl, rfl, .inl h1, q _ b h (Fr.rfl' ok.sub) (.int _)⟩))
        · exact .inl (.inr (.inl ⟨i, j, rfl, rfl, .inr h1, q _ b h (Fr.rfl' ok.sub) (.int _)⟩))
      · cases e
    | _ => cases e
  | lst xs =>
    cases d2 with
    | int k =>
      unfold fMul at e
      dsimp only at e
      split at e
      · rename_i hc
        rw [Bool.and_eq_true, decide_eq_true_eq, decide_eq_true_eq] at hc
        cases e; cases r2
        cases r1 with
        | lst s a =>
          refine .inl (.inr (.inr ⟨_, k, _, rfl, rfl, ok.sub _ _ s, hc.1.1, hc.1.2, ?_, fun p hp => ?_⟩))
          · rw [a.length]; exact Nat.le_trans hc.2 (by decide)
          · exact q _ _ _ (Fr.laid ok.sub hp) (.lst upd_same ((rep_rds a _).monoB (Fr.laid (B := []) ok.sub hp).base))
      · cases e
    | _ => cases e
  | tup xs =>
    cases d2 with
    | int k =>
      unfold fMul at e
      dsimp only at e
      split at e
      · rename_i hc
        rw [Bool.and_eq_true, Bool.and_eq_true, decide_eq_true_eq, decide_eq_true_eq, decide_eq_true_eq] at hc
        cases e; cases r2
        cases r1 with
        | tup s _ a =>
          refine .inr ⟨_, k, _, rfl, rfl, sqT_mono ok.sub s, fun z => ?_, hc.1.1.1, hc.1.1.2, by rw [a.length]; exact hc.1.2, fun p o hp hd => ?_⟩
          · subst z; cases a; exact hc.2 rfl
          · exact q _ _ _ (Fr.laid ok.sub hp) (.tup sqT_new (fun _ => TD.new hd) ((rep_rds a _).monoB (Fr.laid (B := []) ok.sub hp).base))
      · cases e
    | _ => cases e
  | _ => cases e
end
end EV

namespace EV
open PySem L2 DV
/-! places, pieces -/
def fIx (hp : List O) (d1 d2 : D) : Option D := match d2 with
  | .int i => (match d1 with
    | .tup xs => atI xs i
    | .str z => if z.length ≤ 100000 then (atI z.cps.toList i).map fun c => .str ⟨#[c]⟩ else none
    | d => match lstR hp d with
      | some xs => atI xs i
      | none => none)
  | _ => none
def cutE (ds : List D) (lo hi : Option Int) : List D := (ds.drop (HT.sIx ds.length 0 lo)).take (HT.sIx ds.length ds.length hi - HT.sIx ds.length 0 lo)
def fSl (hp : List O) (d : D) (lo hi : Option Int) : Option D := match d with
  | .tup xs => some (.tup (cutE xs lo hi))
  | .str z => if z.length ≤ 100000 then some (.str (cutS z lo hi)) else none
  | d => (lstR hp d).map fun xs => .lst (cutE xs lo hi)
inductive RO where
  | ok (o : Option Int) (hp : List O) | exc (x : Xc) (hp : List O) | bad
abbrev EO := Sl → List O → RO
def oNone : EO := fun _ hp => .ok none hp
def oSome (ea : EE) : EO := fun s hp => match ea s hp with
  | .ok (.int i) hp1 => .ok (some i) hp1
  | .exc x hp1 => .exc x hp1
  | _ => .bad
def eSl (ea : EE) (lo hi : EO) : EE := fun s hp => match ea s hp with
  | .ok d hp1 => (match lo s hp1 with
    | .ok l hp2 => (match hi s hp2 with
      | .ok u hp3 => (match fSl hp3 d l u with
        | some r => .ok r hp3
        | none => .bad)
      | .exc x hp3 => .exc x hp3
      | .bad => .bad)
    | .exc x hp2 => .exc x hp2
    | .bad => .bad)
  | .exc x hp1 => .exc x hp1
  | .bad => .bad
def fRevT (hp : List O) (d : D) : Option D := match d with
  | .tup xs => some (.tup xs.reverse)
  | _ => none
/-! built-ins -/
def fLen (hp : List O) (ds : List D) : Option D := match ds with
  | [.str x] => if x.length ≤ 100000 then some (.int x.length) else none
  | [.tup xs] => some (.int xs.length)
  | [d] => (lstR hp d).map fun xs => .int xs.length
  | _ => none
def bools : List D → Option (List Bool)
  | [] => some []
  | .bl c :: r => (bools r).map (c :: ·)
  | _ => none
def fAll (hp : List O) (ds : List D) : Option D := match ds with
  | [d] => (match lstR hp d with
    | some xs => (bools xs).map fun bs => .bl (bs.all id)
    | none => none)
  | _ => none
def fAny (hp : List O) (ds : List D) : Option D := match ds with
  | [d] => (match lstR hp d with
    | some xs => (bools xs).map fun bs => .bl (bs.any id)
    | none => none)
  | _ => none
def fMax (hp : List O) (ds : List D) : Option D := match ds with
  | [.int i, .int j] => some (.int (if j > i then j else i))
  | _ => none
def fMin (hp : List O) (ds : List D) : Option D := match ds with
  | [.int i, .int j] => some (.int (if j < i then j else i))
  | _ => none
def fAbs (hp : List O) (ds : List D) : Option D := match ds with
  | [.int i] => some (.int (if i < 0 then -i else i))
  | _ => none
def fInt (hp : List O) (ds : List D) : Option D := match ds with
  | [.int i] => some (.int i)
  | [.bl c] => some (.int (if c then 1 else 0))
  | _ => none
def fTuple (hp : List O) (ds : List D) : Option D := match ds with
  | [.tup xs] => some (.tup xs)
  | [d] => (lstR hp d).map .tup
  | _ => none
def fList (hp : List O) (ds : List D) : Option D := match ds with
  | [.tup xs] => some (.lst xs)
  | [d] => (lstR hp d).map .lst
  | _ => none
def tyK : D → Option Ty
  | .bl _ => some .bool
  | .int _ => some .int
  | .str _ => some .str
  | .tup _ => some .tuple
  | .lst _ => some .list
  | _ => none
def isi : Ty → Ty → Bool
  | .int, .int | .bool, .bool | .bool, .int | .str, .str | .list, .list | .tuple, .tuple | .dict, .dict => true
  | _, _ => false
def tyKh (hp : List O) : D → Option (Option Ty)
  | .non => some none
  | .ref n => match hp[n]? with
    | some (.lst _) => some (some .list)
    | _ => none
  | .frz _ => some (some .list)
  | d => (tyK d).map some
def fIsi (hp : List O) (ds : List D) : Option D := match ds with
  | [d, .ty t] => (match tyKh hp d with
    | some (some k) => some (.bl (isi k t))
    | some none => some (.bl false)
    | none => none)
  | _ => none
def fIsi2 (hp : List O) (ds : List D) : Option D := match ds with
  | [d, .tup [.ty t, .ty u]] => (match tyKh hp d with
    | some (some k) => some (.bl (isi k t || isi k u))
    | some none => some (.bl false)
    | none => none)
  | _ => none
theorem isi_ok (k t : Ty) : kitB k.nm t.nm = some (isi k t) := by cases k <;> cases t <;> rfl
theorem isi_non (t : Ty) : kitB "NoneType" t.nm = some false := by cases t <;> rfl
def SnO (K : PySem.W.Frag) (G : Gs) (W : WX) (to : TO) (ev : EO) : Prop := ∀ m b h hp σ s, Ok K G m b h hp → Sls K G m b σ s → ∀ Q : Option Int → Hp → Prop, (match ev s hp with
  | .ok o hp' => ∀ m' b' h', Stp m b h m' b' h' → Ok K G m' b' h' hp' → Q o h'
  | .exc x hp' => ∀ cls dx m' b' h', Stp m b h m' b' h' → Ok K G m' b' h' hp' → XR K G m' b' h' x cls dx → W cls dx σ h'
  | .bad => False) → to σ h Q
section
variable {K : PySem.W.Frag} {G : Gs} {W : WX} {ea eb : EE} {ta tb : TE}
theorem RDs.len1 {m : List Addr} {b : Hp} {vs : List V} {d : D} (h : RDs K G m b vs [d]) : ∃ v, vs = [v] ∧ RD K G m b v d := by
  cases h with
  | cons r t => cases t; exact ⟨_, rfl, r⟩
theorem RDs.len2 {m : List Addr} {b : Hp} {vs : List V} {d e : D} (h : RDs K G m b vs [d, e]) : ∃ v w, vs = [v, w] ∧ RD K G m b v d ∧ RD K G m b w e := by
  cases h with
  | cons r t =>
    obtain ⟨w, rfl, q⟩ := t.len1
    exact ⟨_, w, rfl, r, q⟩
theorem atI_rd {m : List Addr} {b : Hp} {vs : List V} {xs : List D} {i : Int} {d : D} (a : RDs K G m b vs xs) (h : atI xs i = some d) : ∃ v, atI vs i = some v ∧ RD K G m b v d := by
  obtain ⟨k, g1, g2⟩ := Option.bind_eq_some_iff.mp (show (ixN xs.length i).bind (fun j => xs[j]?) = some d from h)
  obtain ⟨v, w1, w2⟩ := a.get g2
  refine ⟨v, ?_, w2⟩
  unfold atI
  rw [a.length, g1]
  exact w1
theorem ok_ix : OpOk K G (rIx K) fIx := fun m b h hp x y d1 d2 d ok r1 r2 e Q q => by
  cases d2 with
  | int i =>
    cases r2
    have back : (match lstR hp d1 with
      | some xs => atI xs i
      | none => none) = some d → rIx K x (.int i) h Q := fun e => by
      cases e1 : lstR hp d1 with
      | none => rw [e1] at e; cases e
      | some xs =>
        rw [e1] at e
        obtain ⟨a, vs, rfl, s, qa⟩ := lstR_ok ok r1 e1
        obtain ⟨v, w1, w2⟩ := atI_rd qa e
        exact .inl ⟨_, _, i, v, rfl, rfl, s, w1, q v b h (Fr.rfl' ok.sub) w2⟩
    cases d1 with
    | tup xs =>
      cases r1 with
      | tup s _ a =>
        obtain ⟨v, w1, w2⟩ := atI_rd a e
        exact .inr (.inl ⟨_, _, i, v, rfl, rfl, sqT_mono ok.sub s, w1, q v b h (Fr.rfl' ok.sub) w2⟩)
    | str z =>
      unfold fIx at e
      dsimp only at e
      split at e
      · rename_i hl
        cases e1 : atI z.cps.toList i with
        | none => rw [e1] at e; cases e
        | some c =>
          rw [e1] at e; cases e
          cases r1
          exact .inr (.inr ⟨z, i, c, rfl, rfl, Nat.le_trans hl (by decide), e1, q _ b h (Fr.rfl' ok.sub) (.str _)⟩)
      · cases e
    | _ => exact back e
  | _ => cases e
theorem snO_none : SnO K G W tNoPart oNone := fun m b h hp σ s ok sl Q p => p m b h (Stp.rfl' ok.sub) ok
theorem snO_some (ha : SnE K G W ta ea) : SnO K G W (tPart ta) (oSome ea) := fun m b h hp σ s ok sl Q p => by
  refine ha m b h hp σ s ok sl _ ?_
  unfold oSome at p
  cases e : ea s hp with
  | ok d hp1 =>
    rw [e] at p
    cases d with
    | int i =>
      intro v m1 b1 h1 x1 ok1 r1
      cases r1
      exact ⟨i, rfl, p m1 b1 h1 x1 ok1⟩
    | _ => exact p.elim
  | exc x hp1 => rw [e] at p; exact p
  | bad => rw [e] at p; exact p.elim
theorem cutE_all {ds : List D} {lo hi : Option Int} (h1 : HT.sIx ds.length 0 lo = 0) (h2 : HT.sIx ds.length ds.length hi = ds.length) : cutE ds lo hi = ds := by
  unfold cutE
  rw [h1, h2]
  simp
theorem cut_rd {m : List Addr} {b : Hp} {vs : List V} {xs : List D} {lo hi : Option Int} (a : RDs K G m b vs xs) : RDs K G m b (cutV vs lo hi) (cutE xs lo hi) := by
  unfold cutV cutE
  rw [a.length]
  exact RDs.take _ (RDs.drop _ a)
def rSlX (K : PySem.W.Frag) : V → Option Int → Option Int → Hp → VK → Prop := fun x lo hi H Q => rSlF K x lo hi H Q ∨ (fun x lo hi H Q => rSlL K x lo hi H Q ∨ rSlS x lo hi H Q) x lo hi H Q
theorem sl_X {X : Cx} : SlR X (rSlX X.K) := SlR.or sl_tupF (SlR.or sl_list sl_str)
theorem sl_ok {m : List Addr} {b h : Hp} {hp : List O} {x : V} {d r : D} {lo hi : Option Int} (ok : Ok K G m b h hp) (r1 : RD K G m b x d) (e : fSl hp d lo hi = some r) {Q : VK} (q : ∀ v b' h', Fr [] b h b' h' → RD K G m b' v r → Q v h') : rSlX K x lo hi h Q := by
  have back : (lstR hp d).map (fun xs => D.lst (cutE xs lo hi)) = some r → rSlX K x lo hi h Q := fun e => by
    cases e1 : lstR hp d with
    | none => rw [e1] at e; cases e
    | some xs =>
      rw [e1] at e; cases e
      obtain ⟨a, vs, rfl, s, qa⟩ := lstR_ok ok r1 e1
      refine .inr (.inl ⟨a, vs, rfl, s, fun p hp => ?_⟩)
      exact q _ _ _ (Fr.laid ok.sub hp) (.lst upd_same ((cut_rd qa).monoB (Fr.laid (B := []) ok.sub hp).base))
  cases d with
  | tup xs =>
    cases e
    cases r1 with
    | @tup _ vs _ s t a =>
      refine .inl ⟨_, vs, rfl, sqT_mono ok.sub s, ?_⟩
      by_cases e : HT.sIx vs.length 0 lo = 0 ∧ HT.sIx vs.length vs.length hi = vs.length
      · refine .inl ⟨e, ?_⟩
        rw [a.length] at e
        rw [cutE_all e.1 e.2] at q
        exact q _ b h (Fr.rfl' ok.sub) (.tup s t a)
      · exact .inr ⟨e, fun p o hp hd => q _ _ _ (Fr.laid ok.sub hp) (.tup sqT_new (fun _ => TD.new hd) ((cut_rd a).monoB (Fr.laid (B := []) ok.sub hp).base))⟩
  | str z =>
    unfold fSl at e
    dsimp only at e
    split at e
    · rename_i hl
      cases e; cases r1
      exact .inr (.inr ⟨z, rfl, Nat.le_trans hl (by decide), q _ b h (Fr.rfl' ok.sub) (.str _)⟩)
    · cases e
  | _ => exact back e
theorem sn_sl {tl th : TO} {lo hi : EO} (ha : SnE K G W ta ea) (hl : SnO K G W tl lo) (hh : SnO K G W th hi) : SnE K G W (tSl (rSlX K) ta tl th) (eSl ea lo hi) := fun m b h hp σ s ok sl Q p => by
  refine ha m b h hp σ s ok sl _ ?_
  unfold eSl at p
  cases e : ea s hp with
  | ok d hp1 =>
    rw [e] at p
    dsimp only at p
    intro v m1 b1 h1 x1 ok1 r1
    refine hl m1 b1 h1 hp1 σ s ok1 (sl.go x1) _ ?_
    cases e2 : lo s hp1 with
    | ok l hp2 =>
      rw [e2] at p
      dsimp only at p ⊢
      intro m2 b2 h2 x2 ok2
      refine hh m2 b2 h2 hp2 σ s ok2 ((sl.go x1).go x2) _ ?_
      cases e3 : hi s hp2 with
      | ok u hp3 =>
        rw [e3] at p
        dsimp only at p ⊢
        intro m3 b3 h3 x3 ok3
        cases e4 : fSl hp3 d l u with
        | some r =>
          rw [e4] at p
          exact sl_ok ok3 ((r1.go x2).go x3) e4 fun w b4 h4 F r4 => p w m3 b4 h4 (((x1.trans x2).trans x3).trans (Stp.pure F)) (ok3.pure F) r4
        | none => rw [e4] at p; exact p.elim
      | exc x hp3 =>
        rw [e3] at p
        exact fun c dx m3 b3 h3 x3 => p c dx m3 b3 h3 ((x1.trans x2).trans x3)
      | bad => rw [e3] at p; exact p.elim
    | exc x hp2 =>
      rw [e2] at p
      exact fun c dx m2 b2 h2 x2 => p c dx m2 b2 h2 (x1.trans x2)
    | bad => rw [e2] at p; exact p.elim
  | exc x hp1 => rw [e] at p; exact p
  | bad => rw [e] at p; exact p.elim
theorem sn_backT (ha : SnE K G W ta ea) : SnE K G W (tBackF K ta) (eUn fRevT ea) := fun m b h hp σ s ok sl Q p => by
  refine ha m b h hp σ s ok sl _ ?_
  unfold eUn at p
  cases e : ea s hp with
  | ok d hp1 =>
    rw [e] at p
    dsimp only at p
    intro v m1 b1 h1 x1 ok1 r1
    cases d with
    | tup xs =>
      cases r1 with
      | tup sa _ a =>
        refine ⟨_, _, rfl, sqT_mono ok1.sub sa, fun q o hq hd => ?_⟩
        exact p _ m1 _ _ (x1.trans (Stp.pure (Fr.laid ok1.sub hq))) (ok1.pure (Fr.laid ok1.sub hq)) (.tup sqT_new (fun _ => TD.new hd) (a.rev.monoB (Fr.laid (B := []) ok1.sub hq).base))
    | _ => exact p.elim
  | exc x hp1 => rw [e] at p; exact p
  | bad => rw [e] at p; exact p.elim
theorem ok_len : BiOk K G (fun xs H Q => ∃ x n, xs = [x] ∧ LenV K x H n ∧ Q (.int n) H) fLen := fun m b h hp xs ds d ok r e Q q => by
  match ds, e with
  | [d1], e =>
    obtain ⟨v, rfl, r1⟩ := r.len1
    have back : ((lstR hp d1).map fun xs => D.int xs.length) = some d → ∃ x n, [v] = [x] ∧ LenV K x h n ∧ Q (.int n) h := fun e => by
      cases e1 : lstR hp d1 with
      | none => rw [e1] at e; cases e
      | some ys =>
        rw [e1] at e; cases e
        obtain ⟨a, vs, rfl, s, qa⟩ := lstR_ok ok r1 e1
        exact ⟨_, ys.length, rfl, .inl ⟨vs, s, qa.length.symm⟩, q _ b h (Fr.rfl' ok.sub) (.int _)⟩
    cases d1 with
    | str x =>
      unfold fLen at e
      dsimp only at e
      split at e
      · rename_i hl
        cases e; cases r1
        exact ⟨_, x.length, rfl, ⟨Nat.le_trans hl (by decide), rfl⟩, q _ b h (Fr.rfl' ok.sub) (.int _)⟩
      · cases e
    | tup ys =>
      cases e
      cases r1 with
      | tup s _ a => exact ⟨_, ys.length, rfl, .inr ⟨_, sqT_mono ok.sub s, a.length.symm⟩, q _ b h (Fr.rfl' ok.sub) (.int _)⟩
    | _ => exact back e
  | d1 :: d2 :: r, e => cases d1 <;> cases e
theorem bools_ok {m : List Addr} {b : Hp} : ∀ {vs : List V} {xs : List D} {bs : List Bool}, RDs K G m b vs xs → bools xs = some bs → vs = bs.map V.bl
  | _, _, _, .nil, e => by unfold bools at e; cases e; rfl
  | _, _, _, .cons (d := d) (ds := ds) r t, e => by
    cases d with
    | bl c =>
      unfold bools at e
      cases e1 : bools ds with
      | none => rw [e1] at e; cases e
      | some cs =>
        rw [e1] at e; cases e
        cases r
        rw [bools_ok t e1]
        rfl
    | _ => cases e
theorem ok_all : BiOk K G (rAll K) fAll := fun m b h hp xs ds d ok r e Q q => by
  match ds, e with
  | [d1], e =>
    obtain ⟨v, rfl, r1⟩ := r.len1
    unfold fAll at e
    dsimp only at e
    cases e1 : lstR hp d1 with
    | none => rw [e1] at e; cases e
    | some ys =>
      rw [e1] at e
      dsimp only at e
      obtain ⟨a, vs, rfl, s, qa⟩ := lstR_ok ok r1 e1
      cases e2 : bools ys with
      | none => rw [e2] at e; cases e
      | some bs =>
        rw [e2] at e; cases e
        rw [bools_ok qa e2] at s
        exact ⟨a, bs, rfl, s, q _ b h (Fr.rfl' ok.sub) (.bl _)⟩
theorem ok_any : BiOk K G (rAny K) fAny := fun m b h hp xs ds d ok r e Q q => by
  match ds, e with
  | [d1], e =>
    obtain ⟨v, rfl, r1⟩ := r.len1
    unfold fAny at e
    dsimp only at e
    cases e1 : lstR hp d1 with
    | none => rw [e1] at e; cases e
    | some ys =>
      rw [e1] at e
      dsimp only at e
      obtain ⟨a, vs, rfl, s, qa⟩ := lstR_ok ok r1 e1
      cases e2 : bools ys with
      | none => rw [e2] at e; cases e
      | some bs =>
        rw [e2] at e; cases e
        rw [bools_ok qa e2] at s
        exact ⟨a, bs, rfl, s, q _ b h (Fr.rfl' ok.sub) (.bl _)⟩
theorem ok_max : BiOk K G (fun xs H Q => ∃ i j, xs = [.int i, .int j] ∧ Q (.int (if j > i then j else i)) H) fMax := fun m b h hp xs ds d ok r e Q q => by
  match ds, e with
  | [.int i, .int j], e =>
    obtain ⟨v, w, rfl, r1, r2⟩ := r.len2
    cases r1; cases r2; cases e
    exact ⟨i, j, rfl, q _ b h (Fr.rfl' ok.sub) (.int _)⟩
theorem ok_min : BiOk K G (fun xs H Q => ∃ i j, xs = [.int i, .int j] ∧ Q (.int (if j < i then j else i)) H) fMin := fun m b h hp xs ds d ok r e Q q => by
  match ds, e with
  | [.int i, .int j], e =>
    obtain ⟨v, w, rfl, r1, r2⟩ := r.len2
    cases r1; cases r2; cases e
    exact ⟨i, j, rfl, q _ b h (Fr.rfl' ok.sub) (.int _)⟩
theorem ok_abs : BiOk K G (fun xs H Q => ∃ i, xs = [.int i] ∧ Q (.int (if i < 0 then -i else i)) H) fAbs := fun m b h hp xs ds d ok r e Q q => by
  match ds, e with
  | [.int i], e =>
    obtain ⟨v, rfl, r1⟩ := r.len1
    cases r1; cases e
    exact ⟨i, rfl, q _ b h (Fr.rfl' ok.sub) (.int _)⟩
theorem ok_int : BiOk K G (fun xs H Q => (∃ i, xs = [.int i] ∧ Q (.int i) H) ∨ ∃ k, xs = [.bl k] ∧ Q (.int (if k then 1 else 0)) H) fInt := fun m b h hp xs ds d ok r e Q q => by
  match ds, e with
  | [.int i], e =>
    obtain ⟨v, rfl, r1⟩ := r.len1
    cases r1; cases e
    exact .inl ⟨i, rfl, q _ b h (Fr.rfl' ok.sub) (.int _)⟩
  | [.bl c], e =>
    obtain ⟨v, rfl, r1⟩ := r.len1
    cases r1; cases e
    exact .inr ⟨c, rfl, q _ b h (Fr.rfl' ok.sub) (.int _)⟩
theorem ok_tuple : BiOk K G (rTupF K) fTuple := fun m b h hp xs ds d ok r e Q q => by
  match ds, e with
  | [d1], e =>
    obtain ⟨v, rfl, r1⟩ := r.len1
    have back : (lstR hp d1).map D.tup = some d → rTupF K [v] h Q := fun e => by
      cases e1 : lstR hp d1 with
      | none => rw [e1] at e; cases e
      | some ys =>
        rw [e1] at e; cases e
        obtain ⟨a, vs, rfl, s, qa⟩ := lstR_ok ok r1 e1
        exact ⟨a, vs, rfl, .inl ⟨s, fun l o hl hd => q _ _ _ (Fr.laid ok.sub hl) (.tup sqT_new (fun _ => TD.new hd) (qa.monoB (Fr.laid (B := []) ok.sub hl).base))⟩⟩
    cases d1 with
    | tup ys =>
      cases e
      cases r1 with
      | tup s t a => exact ⟨_, _, rfl, .inr ⟨sqT_mono ok.sub s, q _ b h (Fr.rfl' ok.sub) (.tup s t a)⟩⟩
    | _ => exact back e
  | d1 :: d2 :: r, e => cases d1 <;> cases e
theorem ok_list : BiOk K G (fun xs H Q => ∃ p ys, xs = [.ref p] ∧ (SqL K H p ys ∨ SqT K H p ys) ∧ ∀ l, H l = none → Q (.ref l) (upd H l (.lst ys))) fList := fun m b h hp xs ds d ok r e Q q => by
  match ds, e with
  | [d1], e =>
    obtain ⟨v, rfl, r1⟩ := r.len1
    have back : (lstR hp d1).map D.lst = some d → ∃ p ys, [v] = [.ref p] ∧ (SqL K h p ys ∨ SqT K h p ys) ∧ ∀ l, h l = none → Q (.ref l) (upd h l (.lst ys)) := fun e => by
      cases e1 : lstR hp d1 with
      | none => rw [e1] at e; cases e
      | some ys =>
        rw [e1] at e; cases e
        obtain ⟨a, vs, rfl, s, qa⟩ := lstR_ok ok r1 e1
        exact ⟨a, vs, rfl, .inl s, fun l hl => q _ _ _ (Fr.laid ok.sub hl) (.lst upd_same (qa.monoB (Fr.laid (B := []) ok.sub hl).base))⟩
    cases d1 with
    | tup ys =>
      cases e
      cases r1 with
      | tup s _ a => exact ⟨_, _, rfl, .inr (sqT_mono ok.sub s), fun l hl => q _ _ _ (Fr.laid ok.sub hl) (.lst upd_same (a.monoB (Fr.laid (B := []) ok.sub hl).base))⟩
    | _ => exact back e
  | d1 :: d2 :: r, e => cases d1 <;> cases e
theorem sqL_ty {H : Hp} {a : Addr} {xs : List V} (s : SqL K H a xs) : TyX K H (.ref a) (.type "list") := by
  rcases s with (s | ⟨o, s⟩) | ⟨o, its, n, e, c, _⟩
  · exact .base (.lst s)
  · exact .base (.frz s)
  · exact .kList e c
theorem tyKh_ok {m : List Addr} {b h : Hp} {hp : List O} {v : V} {d : D} {k : Option Ty} (ok : Ok K G m b h hp) (r : RD K G m b v d) (e : tyKh hp d = some k) : TyX K h v (.type (match k with
    | some k => k.nm
    | none => "NoneType")) := by
  cases r with
  | non => cases e; exact .base .non
  | bl x => cases e; exact .base (.bl x)
  | int x => cases e; exact .base (.int x)
  | str x => cases e; exact .base (.str x)
  | tup s _ a =>
    cases e
    rcases sqT_mono ok.sub s with (s | ⟨o, s⟩) | ⟨o, its, n, e, c, _⟩
    · exact .base (.tup s)
    · exact .fTuple s
    · exact .kTuple e c
  | lst s a => cases e; exact .base (.lst (ok.sub _ _ s))
  | frz s a => cases e; exact sqL_ty (sqL_mono ok.sub s)
  | @ref a n s =>
    unfold tyKh at e
    dsimp only at e
    cases o : hp[n]? with
    | none => rw [o] at e; cases e
    | some ob =>
      cases ob with
      | lst ys =>
        rw [o] at e; cases e
        obtain ⟨_, vs, e1, e2⟩ := ok.ob n a _ s o
        exact .base (.lst e1)
      | _ => rw [o] at e; cases e
  | fn i => cases e
  | ty t => cases e
theorem ok_isi : BiOk K G (rIsi K) fIsi := fun m b h hp xs ds d ok r e Q q => by
  match ds, e with
  | [d1, .ty t], e =>
    obtain ⟨v, w, rfl, r1, r2⟩ := r.len2
    cases r2
    unfold fIsi at e
    dsimp only at e
    cases e1 : tyKh hp d1 with
    | none => rw [e1] at e; cases e
    | some k =>
      rw [e1] at e
      have ty := tyKh_ok ok r1 e1
      cases k with
      | some k =>
        cases e
        exact ⟨v, .ty t.nm, _, _, isi k t, rfl, .ty _, ty, kit_ty (isi_ok k t), q _ b h (Fr.rfl' ok.sub) (.bl _)⟩
      | none =>
        cases e
        exact ⟨v, .ty t.nm, _, _, false, rfl, .ty _, ty, kit_ty (isi_non t), q _ b h (Fr.rfl' ok.sub) (.bl _)⟩
def eIsi2 (ea : EE) (t u : Ty) : EE := fun s hp => match ea s hp with
  | .ok d hp1 => (match tyKh hp1 d with
    | some (some k) => .ok (.bl (isi k t || isi k u)) hp1
    | some none => .ok (.bl false) hp1
    | none => .bad)
  | .exc x hp1 => .exc x hp1
  | .bad => .bad
theorem sn_isi2 (t u : Ty) (ha : SnE K G W ta ea) : SnE K G W (tCB (rIsiT K) (tCons ta (tCons (tTup (tCons (tC (.ty t.nm)) (tCons (tC (.ty u.nm)) tNil))) tNil))) (eIsi2 ea t u) := fun m b h hp σ s ok sl Q p => by
  refine ha m b h hp σ s ok sl _ ?_
  unfold eIsi2 at p
  cases e : ea s hp with
  | ok d hp1 =>
    rw [e] at p
    dsimp only at p
    intro v m1 b1 h1 x1 ok1 r1
    refine ⟨by show 2 ≤ sizeLine; decide, fun q hq => ?_⟩
    have F : Fr [] b1 h1 (upd b1 q (.tup [.ty t.nm, .ty u.nm])) (upd h1 q (.tup [.ty t.nm, .ty u.nm])) := Fr.laid ok1.sub hq
    have ok2 := ok1.pure F
    cases e1 : tyKh hp1 d with
    | none => rw [e1] at p; exact p.elim
    | some k =>
      rw [e1] at p
      have ty := tyKh_ok ok2 (r1.monoB F.base) e1
      cases k with
      | some k =>
        refine ⟨v, q, [.ty t.nm, .ty u.nm], _, [.type t.nm, .type u.nm], isi k t || isi k u, rfl, upd_same, .cons (.ty _) (.cons (.ty _) .nil), ty, ?_, p _ m1 _ _ (x1.trans (Stp.pure F)) ok2 (.bl _)⟩
        refine kitAny_cons (kit_ty (isi_ok k t)) (fun e => ?_) (fun e => by rw [e]; rfl)
        rw [e]
        refine kitAny_cons (kit_ty (isi_ok k u)) (fun e => ?_) (fun e => by rw [e]; rfl)
        rw [e]
        exact kitAny_nil
      | none =>
        refine ⟨v, q, [.ty t.nm, .ty u.nm], _, [.type t.nm, .type u.nm], false, rfl, upd_same, .cons (.ty _) (.cons (.ty _) .nil), ty, ?_, p _ m1 _ _ (x1.trans (Stp.pure F)) ok2 (.bl _)⟩
        refine kitAny_cons (kit_ty (isi_non t)) (fun e => ?_) (fun e => by cases e)
        refine kitAny_cons (kit_ty (isi_non u)) (fun e => ?_) (fun e => by cases e)
        exact kitAny_nil
  | exc x hp1 => rw [e] at p; exact p
  | bad => rw [e] at p; exact p.elim
end
end EV

namespace EV
open PySem L2 DV
/-! what is gone through -/
inductive RI where
  | ok (ds : List D) (hp : List O) | exc (x : Xc) (hp : List O) | bad
abbrev EI := Sl → List O → RI
section
variable (K : PySem.W.Frag) (G : Gs)
/-- J goes through items, whatever happens to what is tracked -/
def WOk (m : List Addr) (b : Hp) (J : It) (items : List D) : Prop := ∃ (Gd : Hp → Prop) (Y : Nat → Hp → V → Hp → Prop), Walk J items.length Gd Y ∧ (∀ b' h', Same b b' → Same b' h' → Gd h') ∧
  ∀ i h x h', Y i h x h' → i < items.length → ∀ m' ms b', m' = m ++ ms → Same b b' → Same b' h → ∃ b'' d, Fr [] b' h b'' h' ∧ items[i]? = some d ∧ RD K G m' b'' x d
def PostI (m : List Addr) (b h : Hp) (r : RI) (R : It → Hp → Prop) (E : XK) : Prop := match r with
  | .ok ds hp' => ∀ m' b' h' J, Stp m b h m' b' h' → Ok K G m' b' h' hp' → WOk K G m' b' J ds → R J h'
  | .exc x hp' => ∀ cls dx m' b' h', Stp m b h m' b' h' → Ok K G m' b' h' hp' → XR K G m' b' h' x cls dx → E cls dx h'
  | .bad => False
def SnI (W : WX) (wi : TI) (ei : EI) : Prop := ∀ m b h hp σ s, Ok K G m b h hp → Sls K G m b σ s → ∀ R : It → Hp → Prop, PostI K G m b h (ei s hp) R (fun c d H => W c d σ H) → wi σ h R
end
def signs (x : Str) : List D := x.cps.toList.map fun c => .str ⟨#[c]⟩
def seqI (hp : List O) : D → Option (List D)
  | .tup xs => some xs
  | .lst xs => some xs
  | .frz xs => some xs
  | .str x => if x.length ≤ 100000 then some (signs x) else none
  | _ => none
def iSeq (ea : EE) : EI := fun s hp => match ea s hp with
  | .ok d hp1 => (match seqI hp1 d with
    | some xs => .ok xs hp1
    | none => .bad)
  | .exc x hp1 => .exc x hp1
  | .bad => .bad
def rngE (lo : Int) (n : Nat) : List D := (List.range n).map fun (i : Nat) => .int (lo + (i : Int))
def numOk (i : Int) : Bool := decide (-1000000 ≤ i) && decide (i ≤ 1000000)
def iRange (ea : EA) : EI := fun s hp => match ea s hp with
  | .ok [.int j] hp1 => if numOk j then .ok (rngE 0 j.toNat) hp1 else .bad
  | .ok [.int i, .int j] hp1 => if numOk i && numOk j then .ok (rngE i (j - i).toNat) hp1 else .bad
  | .exc x hp1 => .exc x hp1
  | _ => .bad
def numb : Nat → List D → List D
  | _, [] => []
  | n, d :: ds => .tup [.int (n : Int), d] :: numb (n + 1) ds
def pairs : List D → List D → List D
  | x :: xs, y :: ys => .tup [x, y] :: pairs xs ys
  | _, _ => []
def iEnumE (ea : EA) : EI := fun s hp => match ea s hp with
  | .ok [.tup xs] hp1 => .ok (numb 0 xs) hp1
  | .ok [.lst xs] hp1 => .ok (numb 0 xs) hp1
  | .exc x hp1 => .exc x hp1
  | _ => .bad
def iZipE (ea : EA) : EI := fun s hp => match ea s hp with
  | .ok [.tup xs, .tup ys] hp1 => .ok (pairs xs ys) hp1
  | .ok [.lst xs, .lst ys] hp1 => .ok (pairs xs ys) hp1
  | .exc x hp1 => .exc x hp1
  | _ => .bad
theorem numb_at : ∀ (ds : List D) (n i : Nat) (d : D), ds[i]? = some d → (numb n ds)[i]? = some (.tup [.int ((n + i : Nat) : Int), d])
  | [], _, _, _, e => by simp at e
  | x :: xs, n, 0, d, e => by simp at e; subst e; unfold numb; simp
  | x :: xs, n, i + 1, d, e => by
    unfold numb
    rw [List.getElem?_cons_succ, numb_at xs (n + 1) i d (by simpa using e)]
    have : n + 1 + i = n + (i + 1) := by omega
    rw [this]
theorem numb_len : ∀ (ds : List D) (n : Nat), (numb n ds).length = ds.length
  | [], _ => rfl
  | x :: xs, n => by unfold numb; rw [List.length_cons, List.length_cons, numb_len xs]
theorem pairs_at : ∀ (ds es : List D) (i : Nat) (d e : D), ds[i]? = some d → es[i]? = some e → (pairs ds es)[i]? = some (.tup [d, e])
  | [], _, _, _, _, q, _ => by simp at q
  | _ :: _, [], _, _, _, _, q => by simp at q
  | x :: xs, y :: ys, 0, d, e, q, r => by simp at q r; subst q; subst r; unfold pairs; simp
  | x :: xs, y :: ys, i + 1, d, e, q, r => by
    unfold pairs
    rw [List.getElem?_cons_succ]
    exact pairs_at xs ys i d e (by simpa using q) (by simpa using r)
theorem pairs_len : ∀ (ds es : List D), (pairs ds es).length = min ds.length es.length
  | [], es => by unfold pairs; simp
  | _ :: _, [] => by unfold pairs; simp
  | x :: xs, y :: ys => by unfold pairs; rw [List.length_cons, List.length_cons, List.length_cons, pairs_len xs ys]; omega
theorem rngE_len (lo : Int) (n : Nat) : (rngE lo n).length = n := by unfold rngE; rw [List.length_map, List.length_range]
section
variable {K : PySem.W.Frag} {G : Gs} {W : WX} {m : List Addr} {b h : Hp} {ea : EE} {er : EA} {ta : TE} {tr : TA}
theorem wok_seq {J : It} {vs : List V} {xs : List D} {Gd : Hp → Prop} (w : Walk J vs.length Gd (YAt vs)) (hg : ∀ b' h', Same b b' → Same b' h' → Gd h') (q : RDs K G m b vs xs) : WOk K G m b J xs := by
  refine ⟨Gd, YAt vs, by rw [← q.length]; exact w, hg, fun i h x h' y hi m' ms b' em e1 e2 => ?_⟩
  obtain ⟨rfl, e⟩ := y
  obtain ⟨d, f1, f2⟩ := q.at e
  exact ⟨b', d, Fr.rfl' e2, f1, f2.mono em e1⟩
theorem snI_seq (ha : SnE K G W ta ea) : SnI K G W (fun σ H R => iTup K ta σ H R ∨ (fun σ H R => iList K ta σ H R ∨ iStr ta σ H R) σ H R) (iSeq ea) := fun m b h hp σ s ok sl R p => by
  unfold iSeq at p
  have go : ∀ Q : VK, PostE K G m b h (ea s hp) Q (fun c d H => W c d σ H) → ta σ h Q := fun Q q => ha m b h hp σ s ok sl Q q
  cases e : ea s hp with
  | bad => rw [e] at p; exact p.elim
  | exc x hp1 =>
    rw [e] at p go
    exact .inl (go _ p)
  | ok d hp1 =>
    rw [e] at p go
    dsimp only at p
    cases e1 : seqI hp1 d with
    | none => rw [e1] at p; exact p.elim
    | some xs =>
      rw [e1] at p
      dsimp only at p
      cases d with
      | tup ys =>
        cases e1
        refine .inl (go _ fun v m1 b1 h1 x1 ok1 r1 => ?_)
        cases r1 with
        | tup sa _ a => exact ⟨_, rfl, ⟨_, sqT_mono ok1.sub sa⟩, p m1 b1 h1 _ x1 ok1 (wok_seq walk_tup (fun b' h' e1 e2 => sqT_mono (e1.trans e2) sa) a)⟩
      | lst ys =>
        cases e1
        refine .inr (.inl (go _ fun v m1 b1 h1 x1 ok1 r1 => ?_))
        cases r1 with
        | lst sa a => exact ⟨_, rfl, ⟨_, .inl (.inl (ok1.sub _ _ sa))⟩, p m1 b1 h1 _ x1 ok1 (wok_seq walk_list (fun b' h' e1 e2 => .inl (.inl ((e1.trans e2) _ _ sa))) a)⟩
      | frz ys =>
        cases e1
        refine .inr (.inl (go _ fun v m1 b1 h1 x1 ok1 r1 => ?_))
        cases r1 with
        | frz sa a => exact ⟨_, rfl, ⟨_, sqL_mono ok1.sub sa⟩, p m1 b1 h1 _ x1 ok1 (wok_seq walk_list (fun b' h' e1 e2 => sqL_mono (e1.trans e2) sa) a)⟩
      | str z =>
        unfold seqI at e1
        dsimp only at e1
        split at e1
        · cases e1
          refine .inr (.inr (go _ fun v m1 b1 h1 x1 ok1 r1 => ?_))
          cases r1
          refine ⟨z, rfl, p m1 b1 h1 _ x1 ok1 ⟨fun _ => True, fun i H v H' => H' = H ∧ ∃ c, z.cps[i]? = some c ∧ v = .str ⟨#[c]⟩, ?_, fun _ _ _ _ => True.intro, fun i h x h' y hi m' ms b' em e1 e2 => ?_⟩⟩
          · have : (signs z).length = z.cps.size := by unfold signs; rw [List.length_map]; simp
            rw [this]
            exact walk_str
          · obtain ⟨rfl, c, q1, rfl⟩ := y
            refine ⟨b', .str ⟨#[c]⟩, Fr.rfl' e2, ?_, .str _⟩
            unfold signs
            rw [List.getElem?_map, show z.cps.toList[i]? = some c by simpa using q1]
            rfl
        · cases e1
      | _ => cases e1
theorem numOk_b {i : Int} (h : numOk i = true) : -1000000 ≤ i ∧ i ≤ 1000000 := by
  unfold numOk at h
  rw [Bool.and_eq_true, decide_eq_true_eq, decide_eq_true_eq] at h
  exact h
theorem wok_rng {lo : Int} {n : Nat} : WOk K G m b (Itr lo n) (rngE lo n) := by
  refine ⟨fun _ => True, _, by rw [rngE_len]; exact walk_range, fun _ _ _ _ => True.intro, fun i h x h' y hi m' ms b' em e1 e2 => ?_⟩
  obtain ⟨rfl, rfl⟩ := y
  refine ⟨b', .int (lo + (i : Int)), Fr.rfl' e2, ?_, .int _⟩
  rw [rngE_len] at hi
  unfold rngE
  rw [List.getElem?_map, List.getElem?_range hi]
  rfl
theorem snI_range1 (ha : SnA K G W tr er) (hn : ∀ s hp ds hp1, er s hp = .ok ds hp1 → ds.length = 1) : SnI K G W (iRng1 tr) (iRange er) := fun m b h hp σ s ok sl R p => by
  refine ha m b h hp σ s ok sl _ ?_
  unfold iRange at p
  cases e : er s hp with
  | bad => rw [e] at p; exact p.elim
  | exc x hp1 => rw [e] at p; exact p
  | ok ds hp1 =>
    have hl := hn s hp ds hp1 e
    rw [e] at p
    match ds, hl with
    | [d], _ =>
      cases d with
      | int j =>
        dsimp only at p
        split at p
        · rename_i hj
          have hj := numOk_b hj
          intro vs m1 b1 h1 x1 ok1 r1
          obtain ⟨v, rfl, r⟩ := r1.len1
          cases r
          exact ⟨j, rfl, by omega, by omega, p m1 b1 h1 _ x1 ok1 wok_rng⟩
        · exact p.elim
      | _ => exact p.elim
theorem snI_range2 (ha : SnA K G W tr er) (hn : ∀ s hp ds hp1, er s hp = .ok ds hp1 → ds.length = 2) : SnI K G W (iRng2 tr) (iRange er) := fun m b h hp σ s ok sl R p => by
  refine ha m b h hp σ s ok sl _ ?_
  unfold iRange at p
  cases e : er s hp with
  | bad => rw [e] at p; exact p.elim
  | exc x hp1 => rw [e] at p; exact p
  | ok ds hp1 =>
    have hl := hn s hp ds hp1 e
    rw [e] at p
    match ds, hl with
    | [d, d2], _ =>
      cases d with
      | int i =>
        cases d2 with
        | int j =>
          dsimp only at p
          split at p
          · rename_i hj
            rw [Bool.and_eq_true] at hj
            have h1 := numOk_b hj.1
            have h2 := numOk_b hj.2
            intro vs m1 b1 h1 x1 ok1 r1
            obtain ⟨v, w, rfl, r, r'⟩ := r1.len2
            cases r; cases r'
            exact ⟨i, j, rfl, ⟨by omega, by omega, by omega, by omega⟩, p m1 b1 h1 _ x1 ok1 wok_rng⟩
          · exact p.elim
        | _ => exact p.elim
      | _ => exact p.elim
theorem wok_pair {J : It} {n : Nat} {fx fy : Nat → Option V} {items : List D} {Gd : Hp → Prop} (w : Walk J n Gd (YPair fx fy)) (hn : n = items.length) (hg : ∀ b' h', Same b b' → Same b' h' → Gd h')
    (hi : ∀ i x y, i < n → fx i = some x → fy i = some y → ∃ d e, items[i]? = some (.tup [d, e]) ∧ tabL [d, e] = false ∧ RD K G m b x d ∧ RD K G m b y e) : WOk K G m b J items := by
  subst hn
  refine ⟨Gd, YPair fx fy, w, hg, fun i h x h' yy hl m' ms b' em e1 e2 => ?_⟩
  obtain ⟨T, x1, y1, rfl, hT, rfl, f1, f2⟩ := yy
  obtain ⟨d, e, g1, gt, g2, g3⟩ := hi i x1 y1 hl f1 f2
  have F : Fr [] b' h (upd b' T (.tup [x1, y1])) (upd h T (.tup [x1, y1])) := Fr.laid e2 hT
  exact ⟨_, _, F, g1, .tup (.inl (.inl upd_same)) (fun z => by rw [gt] at z; cases z) (.cons ((g2.mono em e1).monoB F.base) (.cons ((g3.mono em e1).monoB F.base) .nil))⟩
theorem snI_enum (ha : SnA K G W tr er) : SnI K G W (fun σ H R => iEnumT K tr σ H R ∨ iEnum K tr σ H R) (iEnumE er) := fun m b h hp σ s ok sl R p => by
  have go : ∀ Q, PostA K G m b h (er s hp) Q (fun c d H => W c d σ H) → tr σ h Q := fun Q q => ha m b h hp σ s ok sl Q q
  unfold iEnumE at p
  cases e : er s hp with
  | bad => rw [e] at p; exact p.elim
  | exc x hp1 => rw [e] at p go; exact .inl (go _ p)
  | ok ds hp1 =>
    rw [e] at p go
    match ds, p with
    | [.tup xs], p =>
      refine .inl (go _ fun vs m1 b1 h1 x1 ok1 r1 => ?_)
      obtain ⟨v, rfl, r⟩ := r1.len1
      cases r with
      | @tup a ws _ sa _ q =>
        refine ⟨_, _, rfl, sqT_mono ok1.sub sa, p m1 b1 h1 _ x1 ok1 ?_⟩
        refine wok_pair (n := ws.length) (fx := fun i => some (.int (i : Nat))) (fy := fun i => ws[i]?) ?_ (by rw [numb_len, q.length]) (fun b' h' e1 e2 => sqT_mono (e1.trans e2) sa) (fun i x y hi e1 e2 => ?_)
        · refine ⟨fun i _ hi q => ⟨ws, ws[i], q, by simp [hi]⟩, fun _ q => ⟨ws, q, rfl⟩, fun i H v H' _ q y => ?_⟩
          obtain ⟨T, x, h1, h2, h3, h4⟩ := y
          exact ⟨T, .int (i : Nat), x, h1, h2, h3, rfl, h4 ws q⟩
        · obtain ⟨d, f1, f2⟩ := q.at e2
          cases e1
          refine ⟨.int (i : Nat), d, ?_, rfl, .int _, f2⟩
          rw [numb_at xs 0 i d f1, Nat.zero_add]
    | [.lst xs], p =>
      refine .inr (go _ fun vs m1 b1 h1 x1 ok1 r1 => ?_)
      obtain ⟨v, rfl, r⟩ := r1.len1
      cases r with
      | @lst a ws _ sa q =>
        refine ⟨_, _, rfl, .inl (.inl (ok1.sub _ _ sa)), p m1 b1 h1 _ x1 ok1 ?_⟩
        refine wok_pair (n := ws.length) walk_enum (by rw [numb_len, q.length]) (fun b' h' e1 e2 => .inl (.inl ((e1.trans e2) _ _ sa))) (fun i x y hi e1 e2 => ?_)
        obtain ⟨d, f1, f2⟩ := q.at e2
        cases e1
        refine ⟨.int (i : Nat), d, ?_, rfl, .int _, f2⟩
        rw [numb_at xs 0 i d f1, Nat.zero_add]
end
/-! targets -/
abbrev EG := Sl → D → Option Sl
abbrev EGs := Sl → List D → Option Sl
def gNm (i : Nat) : EG := fun s d => some (s.set i (some d))
def gsNil : EGs := fun s ds => match ds with
  | [] => some s
  | _ => none
def gsCons (g : EG) (gs : EGs) : EGs := fun s ds => match ds with
  | d :: r => (match g s d with
    | some s1 => gs s1 r
    | none => none)
  | _ => none
def gTp (n : Nat) (gs : EGs) : EG := fun s d => match d with
  | .tup xs => if xs.length = n then gs s xs else none
  | _ => none
/-- only the slots at ns are other -/
def Only (ns : List Nat) (σ σ' : St) : Prop := σ'.length = σ.length ∧ ∀ i, i ∉ ns → σ'[i]? = σ[i]?
theorem Only.trans {ns ks : List Nat} {σ σ1 σ2 : St} (a : Only ns σ σ1) (b : Only ks σ1 σ2) : Only (ns ++ ks) σ σ2 := ⟨b.1.trans a.1, fun i hi => by
  rw [List.mem_append, not_or] at hi
  exact (b.2 i hi.2).trans (a.2 i hi.1)⟩
theorem wipe_at (σ : St) : ∀ (vs : List Nat) (i : Nat), (wipe σ vs)[i]? = if i ∈ vs then (if i < σ.length then some none else none) else σ[i]?
  | [], i => by simp [wipe]
  | v :: vs, i => by
    unfold wipe
    rw [List.getElem?_set, wipe_at σ vs i, wipe_length]
    by_cases hv : v = i
    · subst hv; simp
    · have : ¬ i = v := fun q => hv q.symm
      simp [hv, this]
theorem Only.wipe {ns vs : List Nat} {σ σ' : St} (o : Only ns (wipe σ vs) σ') (hs : ∀ i ∈ ns, i ∈ vs) : wipe σ' vs = L2.wipe σ vs := by
  apply List.ext_getElem?
  intro i
  rw [wipe_at, wipe_at, o.1, wipe_length]
  by_cases hi : i ∈ vs
  · rw [if_pos hi, if_pos hi]
  · rw [if_neg hi, if_neg hi, o.2 i fun q => hi (hs i q), wipe_at, if_neg hi]
section
variable (K : PySem.W.Frag) (G : Gs)
def SnG (ns : List Nat) (tg : TG) (eg : EG) : Prop := ∀ m b h σ s v d s', Same b h → Sls K G m b σ s → RD K G m b v d → eg s d = some s' → ∀ Q : St → Hp → Prop, (∀ σ', Only ns σ σ' → Sls K G m b σ' s' → Q σ' h) → tg v σ h Q
def SnGs (ns : List Nat) (tg : TGs) (eg : EGs) : Prop := ∀ m b h σ s vs ds s', Same b h → Sls K G m b σ s → RDs K G m b vs ds → eg s ds = some s' → ∀ Q : St → Hp → Prop, (∀ σ', Only ns σ σ' → Sls K G m b σ' s' → Q σ' h) → tg vs σ h Q
end
section
variable {K : PySem.W.Frag} {G : Gs} {ns ks : List Nat} {tg : TG} {tgs : TGs} {eg : EG} {egs : EGs}
theorem snG_name (i : Nat) : SnG K G [i] (gName i) (gNm i) := fun m b h σ s v d s' sub sl r e Q q => by
  cases e
  refine q _ ⟨List.length_set .., fun j hj => ?_⟩ (sl.set r i)
  rw [List.getElem?_set_ne]
  intro z; subst z; exact hj List.mem_cons_self
theorem snGs_nil : SnGs K G [] gNil gsNil := fun m b h σ s vs ds s' sub sl r e Q q => by
  cases r with
  | nil => cases e; exact ⟨rfl, q σ ⟨rfl, fun _ _ => rfl⟩ sl⟩
  | cons r t => cases e
theorem snGs_cons (hg : SnG K G ns tg eg) (hr : SnGs K G ks tgs egs) : SnGs K G (ns ++ ks) (gCons tg tgs) (gsCons eg egs) := fun m b h σ s vs ds s' sub sl r e Q q => by
  cases r with
  | nil => cases e
  | @cons v vs d ds r t =>
    unfold gsCons at e
    dsimp only at e
    cases e1 : eg s d with
    | none => rw [e1] at e; cases e
    | some s1 =>
      rw [e1] at e
      exact ⟨v, vs, rfl, hg m b h σ s v d s1 sub sl r e1 _ fun σ1 o1 sl1 => hr m b h σ1 s1 vs ds s' sub sl1 t e Q fun σ2 o2 sl2 => q σ2 (o1.trans o2) sl2⟩
theorem snG_tup {n : Nat} (hg : SnGs K G ns tgs egs) : SnG K G ns (gTup K n tgs) (gTp n egs) := fun m b h σ s v d s' sub sl r e Q q => by
  cases r with
  | @tup a xs ds sa _ t =>
    unfold gTp at e
    dsimp only at e
    split at e
    · rename_i hl
      exact ⟨a, xs, rfl, sqT_mono sub sa, by rw [t.length]; exact hl, hg m b h σ s xs ds s' sub sl t e Q q⟩
    · cases e
  | _ => cases e
end
/-! comprehensions -/
def compGo (eg : EG) (et ee : EE) (s : Sl) : List D → List O → RA
  | [], hp => .ok [] hp
  | d :: ds, hp => match eg s d with
    | some s1 => (match et s1 hp with
      | .ok (.bl c) hp1 => (match c with
        | true => (match ee s1 hp1 with
          | .ok y hp2 => (match compGo eg et ee s ds hp2 with
            | .ok ys hp3 => .ok (y :: ys) hp3
            | _ => .bad)
          | _ => .bad)
        | false => compGo eg et ee s ds hp1)
      | _ => .bad)
    | none => .bad
def eComp (ei : EI) (eg : EG) (et ee : EE) (vs : List Nat) : EE := fun s hp => match ei s hp with
  | .ok ds hp1 => if ds.length ≤ 100000 then (match compGo eg et ee (wipeE s vs) ds hp1 with
    | .ok ys hp2 => .ok (.lst ys) hp2
    | _ => .bad) else .bad
  | .exc x hp1 => .exc x hp1
  | .bad => .bad
/-- .. a list that may change -/
def eCompM (ei : EI) (eg : EG) (et ee : EE) (vs : List Nat) : EE := fun s hp => match ei s hp with
  | .ok ds hp1 => if ds.length ≤ 100000 then (match compGo eg et ee (wipeE s vs) ds hp1 with
    | .ok ys hp2 => .ok (.ref hp2.length) (hp2 ++ [.lst ys])
    | _ => .bad) else .bad
  | .exc x hp1 => .exc x hp1
  | .bad => .bad
abbrev WF : WX := fun _ _ _ _ => False
section
variable {K : PySem.W.Frag} {G : Gs} {W : WX} {m m' : List Addr} {b h b' h' : Hp} {hp hp' : List O}
theorem Ok.off (ok : Ok K G m b h hp) {p : Addr} {o : HO} (hb : b p = none) (hm : p ∉ m) : Ok K G m b (upd h p o) hp := by
  refine ⟨fun a u z => ?_, ok.nd, ok.len, fun i a ob e1 e2 => ?_⟩
  · rw [upd_ne (ne_of_none z hb)]; exact ok.sub a u z
  · obtain ⟨n, r⟩ := ok.ob i a ob e1 e2
    refine ⟨n, ?_⟩
    have ne : a ≠ p := fun z => hm (by rw [← z]; exact List.mem_of_getElem? e1)
    exact r.map (fun u e => by rw [upd_ne ne]; exact e) (fun u e => e) fun vs q => q
theorem Stp.off (x : Stp m b h m' b' h') {p : Addr} {o : HO} (hn : h p = none) (hb : b' p = none) : Stp m b h m' b' (upd h' p o) :=
  ⟨x.fr.new (Fr.mut x.fr.sub hb) fun a ha => .inr (by
    have : a = p := by simpa using ha
    rw [this]; exact hn), x.pre⟩
/-- what is one's own and untracked stands through a step -/
theorem Stp.own (x : Stp m b h m' b' h') {p : Addr} {o : HO} (hb : b p = none) (hm : p ∉ m) (hp : h p = some o) : b' p = none ∧ p ∉ m' ∧ h' p = some o := by
  refine ⟨x.fr.out p hb (by rw [hp]; rfl), fun z => ?_, x.fr.keep p o hb hm hp⟩
  obtain ⟨ms, e, n⟩ := x.pre
  rw [e] at z
  rcases List.mem_append.mp z with z | z
  · exact hm z
  · rw [n p z] at hp; cases hp
/-- .. and becomes data -/
theorem Ok.seal (ok : Ok K G m b h hp) {p : Addr} {o : HO} (hb : b p = none) (hm : p ∉ m) (hp' : h p = some o) : Ok K G m (upd b p o) h hp := by
  obtain ⟨s1, s2⟩ := Fr.seal ok.sub hb hp'
  refine ⟨s2, ok.nd, ok.len, fun i a ob e1 e2 => ?_⟩
  obtain ⟨n, r⟩ := ok.ob i a ob e1 e2
  have ne : a ≠ p := fun z => hm (by rw [← z]; exact List.mem_of_getElem? e1)
  refine ⟨n.map fun n => by rw [upd_ne ne]; exact n, ?_⟩
  exact r.map (fun u e => e) (fun u e => by rw [upd_ne ne]; exact e) fun vs q => q.monoB s1
theorem Stp.seal (x : Stp m b h m' b' h') {p : Addr} {o : HO} (hn : h p = none) (hb : b' p = none) (hp' : h' p = some o) : Stp m b h m' (upd b' p o) h' := by
  obtain ⟨s1, s2⟩ := Fr.seal x.fr.sub hb hp'
  refine ⟨⟨x.fr.base.trans s1, s2, fun c n z => ?_, x.fr.keep, x.fr.live⟩, x.pre⟩
  have ne : c ≠ p := fun e => by rw [e, hn] at z; cases z
  rw [upd_ne ne]
  exact x.fr.out c n z
/-- .. or an object that may change -/
theorem Ok.add (ok : Ok K G m b h hp) {p : Addr} {o : O} (hb : ObB b p o) (hm : p ∉ m) (r : ObjR K G m b h p o) : Ok K G (m ++ [p]) b h (hp ++ [o]) := by
  refine ⟨ok.sub, ?_, by rw [List.length_append, List.length_append, ok.len]; rfl, fun i a ob e1 e2 => ?_⟩
  · rw [List.nodup_append]
    exact ⟨ok.nd, by simp, fun a ha c hc z => hm (by
      have : c = p := by simpa using hc
      rw [← this, ← z]; exact ha)⟩
  · have up : ∀ {a : Addr} {ob : O}, ObjR K G m b h a ob → ObjR K G (m ++ [p]) b h a ob := fun {a ob} r => r.map (fun u e => e) (fun u e => e) fun vs q => q.mono rfl (Same.refl b)
    by_cases hi : i < m.length
    · rw [List.getElem?_append_left hi] at e1
      rw [List.getElem?_append_left (by rw [← ok.len]; exact hi)] at e2
      obtain ⟨n, q⟩ := ok.ob i a ob e1 e2
      exact ⟨n, up q⟩
    · have hl := ok.len
      rw [List.getElem?_append_right (by omega)] at e1 e2
      have e3 : i - hp.length = i - m.length := by rw [hl]
      rw [e3] at e2
      cases e4 : i - m.length with
      | zero =>
        rw [e4] at e1 e2
        simp at e1 e2
        subst e1; subst e2
        exact ⟨hb, up r⟩
      | succ k => rw [e4] at e1; simp at e1
theorem Stp.add (x : Stp m b h m' b' h') {p : Addr} (hn : h p = none) : Stp m b h (m' ++ [p]) b' h' := by
  obtain ⟨ms, e, n⟩ := x.pre
  refine ⟨x.fr, ms ++ [p], by rw [e, List.append_assoc], fun a ha => ?_⟩
  rcases List.mem_append.mp ha with z | z
  · exact n a z
  · have : a = p := by simpa using z
    rw [this]; exact hn
end
section
variable {K : PySem.W.Frag} {G : Gs} {W : WX} {ei : EI} {eg : EG} {et ee : EE} {wi : TI} {g : TG} {tt : TT} {te : TE} {ns vs : List Nat}
theorem comp_core (hg : SnG K G ns g eg) (hs : ∀ i ∈ ns, i ∈ vs) (ht : SnT K G WF tt et) (he : SnE K G WF te ee) {m : List Addr} {b h : Hp} {hp : List O} {σ : St} {s : Sl} (ok : Ok K G m b h hp) (sl : Sls K G m b σ s) {J : It} {ds : List D}
    (wk : WOk K G m b J ds) (hl : ds.length ≤ 100000) {ys : List D} {hpf : List O} (e : compGo eg et ee (wipeE s vs) ds hp = .ok ys hpf) {P : Addr} (hP : h P = none) {Qd : Hp → Prop}
    (q : ∀ m' b' h' acc, Stp m b h m' b' h' → Ok K G m' b' h' hpf → b' P = none → P ∉ m' → h' P = some (.lst acc) → RDs K G m' b' acc ys → Qd h') :
    ∃ Wk : Nat → Nat → Hp → Prop, (∃ k, Wk 0 k (upd h P (.lst []))) ∧ ∀ i k H, Wk i k H → (J.stop i H ∧ Qd H) ∨ (J.go i H ∧ ∃ Nx : Hp → Prop, (∀ H', Nx H' → ∃ k', k' < k ∧ Wk (i + 1) k' H') ∧ ∀ x H', J.yld i H x H' → g x (wipe σ vs) H' fun σ2 H2 => wipe σ2 vs = wipe σ vs ∧ tt σ2 H2 fun b H3 =>
        if b = true then te σ2 H3 fun y H4 => ∃ acc, H4 P = some (.lst acc) ∧ acc.length < sizeLine ∧ Nx (upd H4 P (.lst (acc ++ [y]))) else Nx H3) := by
  obtain ⟨Gd, Y, w, hG, hY⟩ := wk
  let Pv : Nat → Hp → Prop := fun i H => i ≤ ds.length ∧ ∃ m' b' hp' acc done rest, Stp m b h m' b' H ∧ Ok K G m' b' H hp' ∧ b' P = none ∧ P ∉ m' ∧ H P = some (.lst acc) ∧ RDs K G m' b' acc done ∧ done.length ≤ i ∧ compGo eg et ee (wipeE s vs) (ds.drop i) hp' = .ok rest hpf ∧ done ++ rest = ys
  have bP : b P = none := ok.sub.free hP
  have mP : P ∉ m := fun z => by
    obtain ⟨i, lt, e⟩ := List.mem_iff_getElem.mp z
    have e1 : m[i]? = some P := by rw [List.getElem?_eq_getElem lt, e]
    have lt2 : i < hp.length := by rw [← ok.len]; exact lt
    obtain ⟨_, r⟩ := ok.ob i P _ e1 (List.getElem?_eq_getElem lt2)
    obtain ⟨_, q, _⟩ := r.there
    rw [hP] at q; cases q
  refine lc_it w Pv ?_ (fun i H hi pv => ?_) (fun i x H H' hi pv yy => ?_) (fun H pv => ?_)
  · exact ⟨Nat.zero_le _, m, b, hp, [], [], ys, (Stp.rfl' ok.sub).off hP bP, ok.off bP mP, bP, mP, upd_same, .nil, Nat.le_refl _, e, rfl⟩
  · obtain ⟨_, m', b', hp', acc, done, rest, st, ok', _⟩ := pv
    exact hG b' H st.base ok'.sub
  · obtain ⟨_, m', b', hp', acc, done, rest, st, ok', bP', mP', hA, rA, hd, ec, ey⟩ := pv
    obtain ⟨ms, em, _⟩ := st.pre
    obtain ⟨b2, d, F, ed, rd⟩ := hY i H x H' yy hi m' ms b' em st.base ok'.sub
    have st2 : Stp m' b' H m' b2 H' := Stp.pure F
    have ok2 := ok'.pure F
    have sl2 : Sls K G m' b2 (wipe σ vs) (wipeE s vs) := ((sl.go st).go st2).wipe vs
    have hdrop : ds.drop i = d :: ds.drop (i + 1) := by
      obtain ⟨lt, e0⟩ := List.getElem?_eq_some_iff.mp ed
      rw [← e0]; exact List.drop_eq_getElem_cons lt
    rw [hdrop] at ec
    unfold compGo at ec
    cases e1 : eg (wipeE s vs) d with
    | none => rw [e1] at ec; cases ec
    | some s1 =>
      rw [e1] at ec
      dsimp only at ec
      refine hg m' b2 H' _ _ x d s1 ok2.sub sl2 rd e1 _ fun σ2 on sl3 => ⟨on.wipe hs, ?_⟩
      cases e2 : et s1 hp' with
      | ok dt hp1 =>
        rw [e2] at ec
        cases dt with
        | bl c =>
          dsimp only at ec
          refine snT_use ht ok2 sl3 (fun c' hpx ex m3 b3 H3 st3 ok3 => ?_) (fun x' hpx ex => by rw [e2] at ex; cases ex) (.inl ⟨c, hp1, e2⟩)
          rw [e2] at ex; cases ex
          have o2 := st2.own bP' mP' hA
          have o3 := st3.own o2.1 o2.2.1 o2.2.2
          have stA := (st.trans st2).trans st3
          cases c with
          | true =>
            rw [if_pos rfl]
            dsimp only at ec
            cases e3 : ee s1 hp1 with
            | ok y hp2 =>
              rw [e3] at ec
              dsimp only at ec
              cases e4 : compGo eg et ee (wipeE s vs) (ds.drop (i + 1)) hp2 with
              | ok rs hp3 =>
                rw [e4] at ec
                cases ec
                refine he m3 b3 H3 hp1 σ2 s1 ok3 (sl3.go st3) _ ?_
                rw [e3]
                intro v m4 b4 H4 st4 ok4 r4
                have o4 := st4.own o3.1 o3.2.1 o3.2.2
                refine ⟨acc, o4.2.2, ?_, hi, m4, b4, hp2, acc ++ [v], done ++ [y], rs, (stA.trans st4).off hP o4.1, ok4.off o4.1 o4.2.1, o4.1, o4.2.1, upd_same, ?_, ?_, e4, ?_⟩
                · rw [rA.length]
                  exact Nat.lt_of_le_of_lt (Nat.le_trans hd (Nat.le_trans (Nat.le_of_lt hi) hl)) (by decide)
                · exact ((((rA.go st2).go st3).go st4).append (.cons r4 .nil))
                · rw [List.length_append]; show done.length + 1 ≤ i + 1; omega
                · rw [List.append_assoc]; exact ey
              | exc _ _ => rw [e4] at ec; cases ec
              | bad => rw [e4] at ec; cases ec
            | exc _ _ => rw [e3] at ec; cases ec
            | bad => rw [e3] at ec; cases ec
          | false =>
            rw [if_neg Bool.false_ne_true]
            exact ⟨hi, m3, b3, hp1, acc, done, rest, stA, ok3, o3.1, o3.2.1, o3.2.2, (rA.go st2).go st3, by omega, ec, ey⟩
        | _ => cases ec
      | exc _ _ => rw [e2] at ec; cases ec
      | bad => rw [e2] at ec; cases ec
  · obtain ⟨_, m', b', hp', acc, done, rest, st, ok', bP', mP', hA, rA, hd, ec, ey⟩ := pv
    rw [List.drop_length] at ec
    unfold compGo at ec
    cases ec
    rw [List.append_nil] at ey
    subst ey
    exact q m' b' H acc st ok' bP' mP' hA rA
theorem sn_comp (hi : SnI K G W wi ei) (hg : SnG K G ns g eg) (hs : ∀ i ∈ ns, i ∈ vs) (ht : SnT K G WF tt et) (he : SnE K G WF te ee) : SnE K G W (tLc wi g tt te vs) (eComp ei eg et ee vs) := fun m b h hp σ s ok sl Q p => by
  refine hi m b h hp σ s ok sl _ ?_
  unfold eComp at p
  cases e : ei s hp with
  | bad => rw [e] at p; exact p.elim
  | exc x hp1 => rw [e] at p; exact p
  | ok ds hp1 =>
    rw [e] at p
    dsimp only at p ⊢
    split at p
    · rename_i hl
      intro m1 b1 h1 J x1 ok1 wk P hP
      cases e1 : compGo eg et ee (wipeE s vs) ds hp1 with
      | ok ys hp2 =>
        rw [e1] at p
        refine comp_core hg hs ht he ok1 (sl.go x1) wk hl e1 hP fun m' b' h' acc st ok' bP mP hA rA => ?_
        have st' := st.seal hP bP hA
        exact p _ m' _ h' (x1.trans st') (ok'.seal bP mP hA) (.lst upd_same (rA.monoB (Fr.seal ok'.sub bP hA).1))
      | exc _ _ => rw [e1] at p; exact p.elim
      | bad => rw [e1] at p; exact p.elim
    · exact p.elim
theorem sn_compM (hi : SnI K G W wi ei) (hg : SnG K G ns g eg) (hs : ∀ i ∈ ns, i ∈ vs) (ht : SnT K G WF tt et) (he : SnE K G WF te ee) : SnE K G W (tLc wi g tt te vs) (eCompM ei eg et ee vs) := fun m b h hp σ s ok sl Q p => by
  refine hi m b h hp σ s ok sl _ ?_
  unfold eCompM at p
  cases e : ei s hp with
  | bad => rw [e] at p; exact p.elim
  | exc x hp1 => rw [e] at p; exact p
  | ok ds hp1 =>
    rw [e] at p
    dsimp only at p ⊢
    split at p
    · rename_i hl
      intro m1 b1 h1 J x1 ok1 wk P hP
      cases e1 : compGo eg et ee (wipeE s vs) ds hp1 with
      | ok ys hp2 =>
        rw [e1] at p
        refine comp_core hg hs ht he ok1 (sl.go x1) wk hl e1 hP fun m' b' h' acc st ok' bP mP hA rA => ?_
        refine p _ (m' ++ [P]) b' h' (x1.trans (st.add hP)) (ok'.add bP mP ⟨acc, hA, rA⟩) (.ref ?_)
        rw [← ok'.len, List.getElem?_append_right (Nat.le_refl _)]
        simp
      | exc _ _ => rw [e1] at p; exact p.elim
      | bad => rw [e1] at p; exact p.elim
    · exact p.elim
end
end EV

namespace EV
open PySem L2 DV
/-! statements -/
def sNext : ES := fun s hp => .nx s hp
def sBreak : ES := fun s hp => .bk s hp
def sCont : ES := fun s hp => .ct s hp
def sSeq (a b : ES) : ES := fun s hp => match a s hp with
  | .nx s1 hp1 => b s1 hp1
  | .rt d hp1 => .rt d hp1
  | .bk s1 hp1 => .bk s1 hp1
  | .ct s1 hp1 => .ct s1 hp1
  | .exc x s1 hp1 => .exc x s1 hp1
  | .bad => .bad
def sIf (et : EE) (a b : ES) : ES := fun s hp => match et s hp with
  | .ok (.bl c) hp1 => (match c with
    | true => a s hp1
    | false => b s hp1)
  | .exc x hp1 => .exc x s hp1
  | _ => .bad
def sAsg (ea : EE) (g : EG) : ES := fun s hp => match ea s hp with
  | .ok d hp1 => (match g s d with
    | some s1 => .nx s1 hp1
    | none => .bad)
  | .exc x hp1 => .exc x s hp1
  | .bad => .bad
def sRet (ea : EE) : ES := fun s hp => match ea s hp with
  | .ok d hp1 => .rt d hp1
  | .exc x hp1 => .exc x s hp1
  | .bad => .bad
def sRetN : ES := fun s hp => .rt .non hp
def sExpr (ea : EE) : ES := fun s hp => match ea s hp with
  | .ok d hp1 => .nx s hp1
  | .exc x hp1 => .exc x s hp1
  | .bad => .bad
def sAug (i : Nat) (f : List O → D → D → Option D) (ea : EE) : ES := fun s hp => match s[i]? with
  | some (some d) => (match ea s hp with
    | .ok e hp1 => (match f hp1 d e with
      | some r => .nx (s.set i (some r)) hp1
      | none => .bad)
    | .exc x hp1 => .exc x s hp1
    | .bad => .bad)
  | _ => .bad
def sPar (i j : Nat) (ea : EA) : ES := fun s hp => match ea s hp with
  | .ok [d, e] hp1 => .nx ((s.set i (some d)).set j (some e)) hp1
  | .exc x hp1 => .exc x s hp1
  | _ => .bad
def sPar3 (i j k : Nat) (ea : EA) : ES := fun s hp => match ea s hp with
  | .ok [d, e, f] hp1 => .nx (((s.set i (some d)).set j (some e)).set k (some f)) hp1
  | .exc x hp1 => .exc x s hp1
  | _ => .bad
def forGo (g : EG) (eb : ES) : List D → Sl → List O → RS
  | [], s, hp => .nx s hp
  | d :: ds, s, hp => match g s d with
    | some s1 => (match eb s1 hp with
      | .nx s2 hp2 => forGo g eb ds s2 hp2
      | .ct s2 hp2 => forGo g eb ds s2 hp2
      | .bk s2 hp2 => .nx s2 hp2
      | .rt d hp2 => .rt d hp2
      | .exc x s2 hp2 => .exc x s2 hp2
      | .bad => .bad)
    | none => .bad
def sFor (ei : EI) (g : EG) (eb : ES) : ES := fun s hp => match ei s hp with
  | .ok ds hp1 => forGo g eb ds s hp1
  | .exc x hp1 => .exc x s hp1
  | .bad => .bad
def whileGo (et : EE) (eb : ES) : Nat → Sl → List O → RS
  | 0, _, _ => .bad
  | n + 1, s, hp => match et s hp with
    | .ok (.bl c) hp1 => (match c with
      | true => (match eb s hp1 with
        | .nx s2 hp2 => whileGo et eb n s2 hp2
        | .ct s2 hp2 => whileGo et eb n s2 hp2
        | .bk s2 hp2 => .nx s2 hp2
        | .rt d hp2 => .rt d hp2
        | .exc x s2 hp2 => .exc x s2 hp2
        | .bad => .bad)
      | false => .nx s hp1)
    | .exc x hp1 => .exc x s hp1
    | _ => .bad
def sWhile (et : EE) (eb : ES) : ES := fun s hp => whileGo et eb 100000 s hp
section
variable {K : PySem.W.Frag} {G : Gs} {W : WX} {ea et : EE} {er : EA} {ta : TE} {tr : TA} {tt : TT} {t u : TS} {a b' : ES} {ei : EI} {eg : EG} {wi : TI} {g : TG} {ns : List Nat}
theorem snS_next : SnS K G W tNext sNext := fun m b h hp σ s ok sl Z p => p σ m b h (Stp.rfl' ok.sub) ok sl
theorem snS_break : SnS K G W tBreak sBreak := fun m b h hp σ s ok sl Z p => p σ m b h (Stp.rfl' ok.sub) ok sl
theorem snS_cont : SnS K G W tCont sCont := fun m b h hp σ s ok sl Z p => p σ m b h (Stp.rfl' ok.sub) ok sl
theorem snS_retN : SnS K G W tRetN sRetN := fun m b h hp σ s ok sl Z p => p .non m b h (Stp.rfl' ok.sub) ok .non
theorem snS_seq (h1 : SnS K G W t a) (h2 : SnS K G W u b') : SnS K G W (tSeq t u) (sSeq a b') := fun m b h hp σ s ok sl Z p => by
  refine h1 m b h hp σ s ok sl { Z with nx := u Z } ?_
  unfold sSeq at p
  cases e : a s hp with
  | nx s1 hp1 =>
    rw [e] at p
    exact fun σ1 m1 b1 g1 x1 ok1 sl1 => h2 m1 b1 g1 hp1 σ1 s1 ok1 sl1 Z (p.go x1)
  | rt d hp1 => rw [e] at p; exact p
  | bk s1 hp1 => rw [e] at p; exact p
  | ct s1 hp1 => rw [e] at p; exact p
  | exc x s1 hp1 => rw [e] at p; exact p
  | bad => rw [e] at p; exact p.elim
theorem snS_if (ht : SnT K G W tt et) (h1 : SnS K G W t a) (h2 : SnS K G W u b') : SnS K G W (tIfS tt t u) (sIf et a b') := fun m b h hp σ s ok sl Z p => by
  unfold sIf at p
  cases e : et s hp with
  | ok d hp1 =>
    rw [e] at p
    cases d with
    | bl c =>
      refine snT_use ht ok sl (fun c' hp' e' m1 b1 g1 x1 ok1 => ?_) (fun x hp' e' => by rw [e] at e'; cases e') (.inl ⟨c, hp1, e⟩)
      rw [e] at e'; cases e'
      dsimp only at p
      cases c with
      | true =>
        rw [if_pos rfl]
        exact h1 m1 b1 g1 hp1 σ s ok1 (sl.go x1) Z (p.go x1)
      | false =>
        rw [if_neg Bool.false_ne_true]
        exact h2 m1 b1 g1 hp1 σ s ok1 (sl.go x1) Z (p.go x1)
    | _ => exact p.elim
  | exc x hp1 =>
    rw [e] at p
    exact snT_use ht ok sl (fun c hp' e' => by rw [e] at e'; cases e') (fun x' hp' e' => by
      rw [e] at e'; cases e'
      exact fun cls dx m1 b1 g1 x1 ok1 => p cls dx σ m1 b1 g1 x1 ok1 (sl.go x1)) (.inr ⟨x, hp1, e⟩)
  | bad => rw [e] at p; exact p.elim
theorem snS_asg (ha : SnE K G W ta ea) (hg : SnG K G ns g eg) : SnS K G W (tAsg ta g) (sAsg ea eg) := fun m b h hp σ s ok sl Z p => by
  refine ha m b h hp σ s ok sl _ ?_
  unfold sAsg at p
  cases e : ea s hp with
  | ok d hp1 =>
    rw [e] at p
    dsimp only at p
    intro v m1 b1 h1 x1 ok1 r1
    cases e2 : eg s d with
    | some s1 =>
      rw [e2] at p
      exact hg m1 b1 h1 σ s v d s1 ok1.sub (sl.go x1) r1 e2 _ fun σ1 _ sl1 => p σ1 m1 b1 h1 x1 ok1 sl1
    | none => rw [e2] at p; exact p.elim
  | exc x hp1 =>
    rw [e] at p
    exact fun cls dx m1 b1 g1 x1 ok1 => p cls dx σ m1 b1 g1 x1 ok1 (sl.go x1)
  | bad => rw [e] at p; exact p.elim
theorem snS_ret (ha : SnE K G W ta ea) : SnS K G W (tRet ta) (sRet ea) := fun m b h hp σ s ok sl Z p => by
  refine ha m b h hp σ s ok sl _ ?_
  unfold sRet at p
  cases e : ea s hp with
  | ok d hp1 => rw [e] at p; exact p
  | exc x hp1 =>
    rw [e] at p
    exact fun cls dx m1 b1 g1 x1 ok1 => p cls dx σ m1 b1 g1 x1 ok1 (sl.go x1)
  | bad => rw [e] at p; exact p.elim
theorem snS_expr (ha : SnE K G W ta ea) : SnS K G W (tDrop ta) (sExpr ea) := fun m b h hp σ s ok sl Z p => by
  refine ha m b h hp σ s ok sl _ ?_
  unfold sExpr at p
  cases e : ea s hp with
  | ok d hp1 => rw [e] at p; exact fun v m1 b1 h1 x1 ok1 _ => p σ m1 b1 h1 x1 ok1 (sl.go x1)
  | exc x hp1 =>
    rw [e] at p
    exact fun cls dx m1 b1 g1 x1 ok1 => p cls dx σ m1 b1 g1 x1 ok1 (sl.go x1)
  | bad => rw [e] at p; exact p.elim
theorem snS_aug {i : Nat} {r : TIp} {f : List O → D → D → Option D} (hf : OpOk K G r f) (ha : SnE K G W ta ea) : SnS K G W (tAug i ta r) (sAug i f ea) := fun m b h hp σ s ok sl Z p => by
  unfold sAug at p
  cases e0 : s[i]? with
  | none => rw [e0] at p; exact p.elim
  | some o =>
    cases o with
    | none => rw [e0] at p; exact p.elim
    | some d =>
      rw [e0] at p
      dsimp only at p
      obtain ⟨x, ex, rx⟩ := sl.at' i d e0
      refine ⟨x, ex, ha m b h hp σ s ok sl _ ?_⟩
      cases e : ea s hp with
      | ok d2 hp1 =>
        rw [e] at p
        dsimp only at p
        intro v m1 b1 h1 x1 ok1 r1
        cases e2 : f hp1 d d2 with
        | some r =>
          rw [e2] at p
          exact hf m1 b1 h1 hp1 x v d d2 r ok1 (rx.go x1) r1 e2 _ fun z b2 h2 F r2 => p _ m1 b2 h2 (x1.trans (Stp.pure F)) (ok1.pure F) (((sl.go x1).go (Stp.pure (m := m1) F)).set r2 i)
        | none => rw [e2] at p; exact p.elim
      | exc x hp1 =>
        rw [e] at p
        exact fun cls dx m1 b1 g1 x1 ok1 => p cls dx σ m1 b1 g1 x1 ok1 (sl.go x1)
      | bad => rw [e] at p; exact p.elim
theorem snS_par {i j : Nat} (ha : SnA K G W tr er) (hn : ∀ s hp ds hp1, er s hp = .ok ds hp1 → ds.length = 2) : SnS K G W (tPar i j tr) (sPar i j er) := fun m b h hp σ s ok sl Z p => by
  refine ha m b h hp σ s ok sl _ ?_
  unfold sPar at p
  cases e : er s hp with
  | ok ds hp1 =>
    have hl := hn s hp ds hp1 e
    rw [e] at p
    match ds, hl, p with
    | [d1, d2], _, p =>
      intro vs m1 b1 h1 x1 ok1 r1
      obtain ⟨v, w, rfl, r, r'⟩ := r1.len2
      exact ⟨v, w, rfl, p _ m1 b1 h1 x1 ok1 (((sl.go x1).set r i).set r' j)⟩
  | exc x hp1 =>
    rw [e] at p
    exact fun cls dx m1 b1 g1 x1 ok1 => p cls dx σ m1 b1 g1 x1 ok1 (sl.go x1)
  | bad => rw [e] at p; exact p.elim
theorem RDs.len3 {m : List Addr} {b : Hp} {vs : List V} {d e f : D} (h : RDs K G m b vs [d, e, f]) : ∃ v w z, vs = [v, w, z] ∧ RD K G m b v d ∧ RD K G m b w e ∧ RD K G m b z f := by
  cases h with
  | cons r t =>
    obtain ⟨w, z, rfl, q, q'⟩ := t.len2
    exact ⟨_, w, z, rfl, r, q, q'⟩
theorem snS_par3 {i j k : Nat} (ha : SnA K G W tr er) (hn : ∀ s hp ds hp1, er s hp = .ok ds hp1 → ds.length = 3) : SnS K G W (tPar3 i j k tr) (sPar3 i j k er) := fun m b h hp σ s ok sl Z p => by
  refine ha m b h hp σ s ok sl _ ?_
  unfold sPar3 at p
  cases e : er s hp with
  | ok ds hp1 =>
    have hl := hn s hp ds hp1 e
    rw [e] at p
    match ds, hl, p with
    | [d1, d2, d3], _, p =>
      intro vs m1 b1 h1 x1 ok1 r1
      obtain ⟨v, w, z, rfl, r, r', r''⟩ := r1.len3
      exact ⟨v, w, z, rfl, p _ m1 b1 h1 x1 ok1 ((((sl.go x1).set r i).set r' j).set r'' k)⟩
  | exc x hp1 =>
    rw [e] at p
    exact fun cls dx m1 b1 g1 x1 ok1 => p cls dx σ m1 b1 g1 x1 ok1 (sl.go x1)
  | bad => rw [e] at p; exact p.elim
theorem snS_for (hi : SnI K G W wi ei) (hg : SnG K G ns g eg) (hb : SnS K G W t a) : SnS K G W (tFor wi g t) (sFor ei eg a) := fun m b h hp σ s ok sl Z p => by
  refine hi m b h hp σ s ok sl _ ?_
  unfold sFor at p
  cases e : ei s hp with
  | bad => rw [e] at p; exact p.elim
  | exc x hp1 =>
    rw [e] at p
    exact fun cls dx m1 b1 g1 x1 ok1 => p cls dx σ m1 b1 g1 x1 ok1 (sl.go x1)
  | ok ds hp1 =>
    rw [e] at p
    dsimp only at p
    intro m1 b1 h1 J x1 ok1 ⟨Gd, Y, w, hG, hY⟩
    let Pv : Nat → St → Hp → Prop := fun i σ' H => ∃ m' b' hp' s', Stp m1 b1 h1 m' b' H ∧ Ok K G m' b' H hp' ∧ Sls K G m' b' σ' s' ∧ PostS K G m' b' H (forGo eg a (ds.drop i) s' hp') Z W
    refine for_it w Pv ?_ (fun i σ' H hi pv => ?_) (fun i x σ' H H' hi pv yy => ?_) (fun σ' H pv => ?_)
    · exact ⟨m1, b1, hp1, s, Stp.rfl' ok1.sub, ok1, sl.go x1, p.go x1⟩
    · obtain ⟨m', b', hp', s', st, ok', _⟩ := pv
      exact hG b' H st.base ok'.sub
    · obtain ⟨m', b', hp', s', st, ok', sl', p'⟩ := pv
      obtain ⟨ms, em, _⟩ := st.pre
      obtain ⟨b2, d, F, ed, rd⟩ := hY i H x H' yy hi m' ms b' em st.base ok'.sub
      have st2 : Stp m' b' H m' b2 H' := Stp.pure F
      have ok2 := ok'.pure F
      have hdrop : ds.drop i = d :: ds.drop (i + 1) := by
        obtain ⟨lt, e0⟩ := List.getElem?_eq_some_iff.mp ed
        rw [← e0]; exact List.drop_eq_getElem_cons lt
      rw [hdrop] at p'
      unfold forGo at p'
      cases e1 : eg s' d with
      | none => rw [e1] at p'; exact p'.elim
      | some s1 =>
        rw [e1] at p'
        dsimp only at p'
        refine hg m' b2 H' σ' s' x d s1 ok2.sub (sl'.go st2) rd e1 _ fun σ2 _ sl3 => ?_
        refine hb m' b2 H' hp' σ2 s1 ok2 sl3 _ ?_
        have p2 := p'.go st2
        cases e2 : a s1 hp' with
        | nx s2 hp2 =>
          rw [e2] at p2
          exact fun σ3 m3 b3 h3 x3 ok3 sl3 => ⟨m3, b3, hp2, s2, (st.trans st2).trans x3, ok3, sl3, p2.go x3⟩
        | ct s2 hp2 =>
          rw [e2] at p2
          exact fun σ3 m3 b3 h3 x3 ok3 sl3 => ⟨m3, b3, hp2, s2, (st.trans st2).trans x3, ok3, sl3, p2.go x3⟩
        | bk s2 hp2 => rw [e2] at p2; exact p2
        | rt d2 hp2 => rw [e2] at p2; exact p2
        | exc x2 s2 hp2 => rw [e2] at p2; exact p2
        | bad => rw [e2] at p2; exact p2.elim
    · obtain ⟨m', b', hp', s', st, ok', sl', p'⟩ := pv
      rw [List.drop_length] at p'
      exact p' σ' m' b' H (Stp.rfl' ok'.sub) ok' sl'
theorem snS_while (ht : SnT K G W tt et) (hb : SnS K G W t a) : SnS K G W (tWhile tt t) (sWhile et a) := fun m b h hp σ s ok sl Z p => by
  refine ⟨fun k σ' H => ∃ m' b' hp' s', Stp m b h m' b' H ∧ Ok K G m' b' H hp' ∧ Sls K G m' b' σ' s' ∧ PostS K G m' b' H (whileGo et a k s' hp') Z W, ⟨100000, m, b, hp, s, Stp.rfl' ok.sub, ok, sl, p⟩, fun k σ' H wk => ?_⟩
  obtain ⟨m', b', hp', s', st, ok', sl', p'⟩ := wk
  cases k with
  | zero => exact p'.elim
  | succ k =>
    unfold whileGo at p'
    cases e : et s' hp' with
    | ok d hp1 =>
      rw [e] at p'
      cases d with
      | bl c =>
        refine snT_use ht ok' sl' (fun c' hpx e' m1 b1 g1 x1 ok1 => ?_) (fun x hpx e' => by rw [e] at e'; cases e') (.inl ⟨c, hp1, e⟩)
        rw [e] at e'; cases e'
        dsimp only at p'
        cases c with
        | true =>
          rw [if_pos rfl]
          dsimp only at p'
          refine ⟨fun σ2 H2 => ∃ m2 b2 hp2 s2, Stp m b h m2 b2 H2 ∧ Ok K G m2 b2 H2 hp2 ∧ Sls K G m2 b2 σ2 s2 ∧ PostS K G m2 b2 H2 (whileGo et a k s2 hp2) Z W, fun σ2 H2 q => ⟨k, Nat.lt_succ_self k, q⟩, ?_⟩
          refine hb m1 b1 g1 hp1 σ' s' ok1 (sl'.go x1) _ ?_
          have p2 := p'.go x1
          cases e2 : a s' hp1 with
          | nx s2 hp2 =>
            rw [e2] at p2
            exact fun σ3 m3 b3 h3 x3 ok3 sl3 => ⟨m3, b3, hp2, s2, (st.trans x1).trans x3, ok3, sl3, p2.go x3⟩
          | ct s2 hp2 =>
            rw [e2] at p2
            exact fun σ3 m3 b3 h3 x3 ok3 sl3 => ⟨m3, b3, hp2, s2, (st.trans x1).trans x3, ok3, sl3, p2.go x3⟩
          | bk s2 hp2 => rw [e2] at p2; exact p2
          | rt d2 hp2 => rw [e2] at p2; exact p2
          | exc x2 s2 hp2 => rw [e2] at p2; exact p2
          | bad => rw [e2] at p2; exact p2.elim
        | false =>
          rw [if_neg Bool.false_ne_true]
          exact p' σ' m1 b1 g1 x1 ok1 (sl'.go x1)
      | _ => exact p'.elim
    | exc x hp1 =>
      rw [e] at p'
      exact snT_use ht ok' sl' (fun c hpx e' => by rw [e] at e'; cases e') (fun x' hpx e' => by
        rw [e] at e'; cases e'
        exact fun cls dx m1 b1 g1 x1 ok1 => p' cls dx σ' m1 b1 g1 x1 ok1 (sl'.go x1)) (.inr ⟨x, hp1, e⟩)
    | bad => rw [e] at p'; exact p'.elim
end
/-! lists that change -/
def eLstM (ea : EA) : EE := fun s hp => match ea s hp with
  | .ok ds hp1 => if ds.length ≤ 100000 then .ok (.ref hp1.length) (hp1 ++ [.lst ds]) else .bad
  | .exc x hp1 => .exc x hp1
  | .bad => .bad
def eListM (ea : EA) : EE := fun s hp => match ea s hp with
  | .ok ds hp1 => (match fList hp1 ds with
    | some (.lst xs) => .ok (.ref hp1.length) (hp1 ++ [.lst xs])
    | _ => .bad)
  | .exc x hp1 => .exc x hp1
  | .bad => .bad
/-- [..] * n -/
def eRepM (ea eb : EE) : EE := fun s hp => match ea s hp with
  | .ok (.lst xs) hp1 => (match eb s hp1 with
    | .ok (.int k) hp2 => if decide (-(2 ^ 63) ≤ k ∧ k < 2 ^ 63) && decide (xs.length * k.toNat ≤ 100000) then .ok (.ref hp2.length) (hp2 ++ [.lst (rep xs k.toNat)]) else .bad
    | .exc x hp2 => .exc x hp2
    | _ => .bad)
  | .exc x hp1 => .exc x hp1
  | _ => .bad
def isLst : Option O → Bool
  | some (.lst _) => true
  | _ => false
theorem isLst_of {o : Option O} (h : isLst o = true) : ∃ xs, o = some (.lst xs) := by
  unfold isLst at h
  split at h
  · exact ⟨_, rfl⟩
  · cases h
def eApp (eo ea : EE) : EE := fun s hp => match eo s hp with
  | .ok (.ref n) hp1 => if isLst hp1[n]? then (match ea s hp1 with
    | .ok d hp2 => (match hp2[n]? with
      | some (.lst xs) => if xs.length ≤ 99999 then .ok .non (hp2.set n (.lst (xs ++ [d]))) else .bad
      | _ => .bad)
    | .exc x hp2 => .exc x hp2
    | .bad => .bad) else .bad
  | .exc x hp1 => .exc x hp1
  | _ => .bad
def eExt (eo ea : EE) : EE := fun s hp => match eo s hp with
  | .ok (.ref n) hp1 => if isLst hp1[n]? then (match ea s hp1 with
    | .ok (.lst ys) hp2 => (match hp2[n]? with
      | some (.lst xs) => if xs.length + ys.length ≤ 100000 then .ok .non (hp2.set n (.lst (xs ++ ys))) else .bad
      | _ => .bad)
    | .exc x hp2 => .exc x hp2
    | _ => .bad) else .bad
  | .exc x hp1 => .exc x hp1
  | _ => .bad
def sSet (ea eo ei : EE) : ES := fun s hp => match ea s hp with
  | .ok d hp1 => (match eo s hp1 with
    | .ok (.ref n) hp2 => (match ei s hp2 with
      | .ok (.int k) hp3 => (match hp3[n]? with
        | some (.lst xs) => (match ixN xs.length k with
          | some j => .nx s (hp3.set n (.lst (xs.set j d)))
          | none => .bad)
        | _ => .bad)
      | .exc x hp3 => .exc x s hp3
      | _ => .bad)
    | .exc x hp2 => .exc x s hp2
    | _ => .bad)
  | .exc x hp1 => .exc x s hp1
  | .bad => .bad
section
variable {K : PySem.W.Frag} {G : Gs} {W : WX} {m m' : List Addr} {b h b' h' : Hp} {hp hp' : List O} {ea eb eo ei : EE} {er : EA} {ta tb to ti : TE} {tr : TA}
/-- a changing thing is changed -/
theorem Ok.mut (ok : Ok K G m b h hp) {n : Nat} {a : Addr} {xs ys : List D} {vs : List V} (e1 : m[n]? = some a) (e2 : hp[n]? = some (.lst xs)) (r : RDs K G m b vs ys) :
    Ok K G m b (upd h a (.lst vs)) (hp.set n (.lst ys)) ∧ Stp m b h m b (upd h a (.lst vs)) := by
  obtain ⟨nb, _, hx, _⟩ := ok.ob n a _ e1 e2
  have F : Fr [a] b h b (upd h a (.lst vs)) := Fr.mut ok.sub nb
  have am : a ∈ m := List.mem_of_getElem? e1
  refine ⟨⟨F.sub, ok.nd, by rw [List.length_set]; exact ok.len, fun i c o f1 f2 => ?_⟩, F.more (fun c hc => by
    have : c = a := by simpa using hc
    rw [this]; exact am), [], (List.append_nil m).symm, fun _ h => by cases h⟩
  · by_cases hi : n = i
    · subst hi
      rw [List.getElem?_set, if_pos rfl] at f2
      split at f2
      · cases f2
        rw [e1] at f1; cases f1
        exact ⟨nb, vs, upd_same, r⟩
      · cases f2
    · rw [List.getElem?_set_ne hi] at f2
      obtain ⟨n2, q⟩ := ok.ob i c o f1 f2
      refine ⟨n2, ?_⟩
      have ne : c ≠ a := fun z => by
        subst z
        obtain ⟨l1, g1⟩ := List.getElem?_eq_some_iff.mp e1
        obtain ⟨l2, g2⟩ := List.getElem?_eq_some_iff.mp f1
        exact hi ((List.getElem_inj ok.nd).mp (g1.trans g2.symm))
      exact q.map (fun u e => by rw [upd_ne ne]; exact e) (fun u e => e) fun vs r => r
/-- a new thing -/
theorem Ok.new (ok : Ok K G m b h hp) {p : Addr} {vs : List V} {xs : List D} (hp' : h p = none) (r : RDs K G m b vs xs) :
    Ok K G (m ++ [p]) b (upd h p (.lst vs)) (hp ++ [.lst xs]) ∧ Stp m b h (m ++ [p]) b (upd h p (.lst vs)) ∧ RD K G (m ++ [p]) b (.ref p) (.ref hp.length) := by
  have bP : b p = none := ok.sub.free hp'
  have mP : p ∉ m := fun z => by
    obtain ⟨i, lt, e⟩ := List.mem_iff_getElem.mp z
    have e1 : m[i]? = some p := by rw [List.getElem?_eq_getElem lt, e]
    have lt2 : i < hp.length := by rw [← ok.len]; exact lt
    obtain ⟨_, r⟩ := ok.ob i p _ e1 (List.getElem?_eq_getElem lt2)
    obtain ⟨_, q, _⟩ := r.there
    rw [hp'] at q; cases q
  refine ⟨(ok.off bP mP).add bP mP ⟨vs, upd_same, r⟩, ((Stp.rfl' ok.sub).off hp' bP).add hp', .ref ?_⟩
  rw [← ok.len, List.getElem?_append_right (Nat.le_refl _)]
  simp
theorem sn_lstM (ha : SnA K G W tr er) : SnE K G W (tLst tr) (eLstM er) := fun m b h hp σ s ok sl Q p => by
  refine ha m b h hp σ s ok sl _ ?_
  unfold eLstM at p
  cases e : er s hp with
  | ok ds hp1 =>
    rw [e] at p
    intro vs m1 b1 h1 x1 ok1 r1
    dsimp only at p
    split at p
    · rename_i hl
      refine ⟨Nat.le_trans (by rw [r1.length]; exact hl) (by decide), fun q hq => ?_⟩
      obtain ⟨ok2, st2, rd⟩ := ok1.new hq r1
      exact p _ _ _ _ (x1.trans st2) ok2 rd
    · exact p.elim
  | exc x hp1 => rw [e] at p; exact p
  | bad => rw [e] at p; exact p.elim
theorem sn_listM (ha : SnA K G W tr er) : SnE K G W (tCB (fun xs H Q => ∃ p ys, xs = [.ref p] ∧ (SqL K H p ys ∨ SqT K H p ys) ∧ ∀ l, H l = none → Q (.ref l) (upd H l (.lst ys))) tr) (eListM er) := fun m b h hp σ s ok sl Q p => by
  refine ha m b h hp σ s ok sl _ ?_
  unfold eListM at p
  cases e : er s hp with
  | ok ds hp1 =>
    rw [e] at p
    dsimp only at p
    intro us m1 b1 h1 x1 ok1 r1
    have back : ∀ d1 v, ds = [d1] → us = [v] → RD K G m1 b1 v d1 → ∃ q ys, us = [.ref q] ∧ (SqL K h1 q ys ∨ SqT K h1 q ys) ∧ ∀ l, h1 l = none → Q (.ref l) (upd h1 l (.lst ys)) := fun d1 v ed eu r => by
      subst ed; subst eu
      have lists : ∀ xs, lstR hp1 d1 = some xs → fList hp1 [d1] = some (.lst xs) → ∃ q ys, [v] = [.ref q] ∧ (SqL K h1 q ys ∨ SqT K h1 q ys) ∧ ∀ l, h1 l = none → Q (.ref l) (upd h1 l (.lst ys)) := fun xs e1 e2 => by
        rw [e2] at p
        obtain ⟨a, vs, rfl, sq, qa⟩ := lstR_ok ok1 r e1
        refine ⟨a, vs, rfl, .inl sq, fun l hl => ?_⟩
        obtain ⟨ok2, st2, rd⟩ := ok1.new hl qa
        exact p _ _ _ _ (x1.trans st2) ok2 rd
      cases d1 with
      | tup xs =>
        have p : PostE K G m b h (.ok (.ref hp1.length) (hp1 ++ [.lst xs])) Q (fun c d H => W c d σ H) := p
        cases r with
        | tup sa _ a =>
          refine ⟨_, _, rfl, .inr (sqT_mono ok1.sub sa), fun l hl => ?_⟩
          obtain ⟨ok2, st2, rd⟩ := ok1.new hl a
          exact p _ _ _ _ (x1.trans st2) ok2 rd
      | lst xs => exact lists xs rfl rfl
      | frz xs => exact lists xs rfl rfl
      | ref n =>
        cases e1 : lstR hp1 (.ref n) with
        | none =>
          have e2 : fList hp1 [.ref n] = none := by
            unfold fList
            dsimp only
            rw [e1]; rfl
          rw [e2] at p; exact p.elim
        | some xs =>
          refine lists xs e1 ?_
          unfold fList
          dsimp only
          rw [e1]; rfl
      | _ => exact p.elim
    match ds, r1 with
    | [], r1 => exact p.elim
    | [d1], r1 =>
      obtain ⟨v, rfl, r⟩ := r1.len1
      exact back d1 v rfl rfl r
    | d1 :: d2 :: r, r1 => cases d1 <;> exact p.elim
  | exc x hp1 => rw [e] at p; exact p
  | bad => rw [e] at p; exact p.elim
theorem sn_repM (ha : SnE K G W ta ea) (hb : SnE K G W tb eb) : SnE K G W (tOp (fun x y H Q => rMulA x y H Q ∨ rRepF K x y H Q) ta tb) (eRepM ea eb) := fun m b h hp σ s ok sl Q p => by
  refine ha m b h hp σ s ok sl _ ?_
  unfold eRepM at p
  cases e : ea s hp with
  | ok d hp1 =>
    rw [e] at p
    cases d with
    | lst xs =>
      dsimp only at p
      intro v m1 b1 h1 x1 ok1 r1
      refine hb m1 b1 h1 hp1 σ s ok1 (sl.go x1) _ ?_
      cases e2 : eb s hp1 with
      | ok d2 hp2 =>
        rw [e2] at p
        cases d2 with
        | int k =>
          dsimp only at p
          split at p
          · rename_i hc
            rw [Bool.and_eq_true, decide_eq_true_eq, decide_eq_true_eq] at hc
            intro w m2 b2 h2 x2 ok2 r2
            cases r2
            cases r1.go x2 with
            | lst sa a =>
              refine .inl (.inr (.inr ⟨_, k, _, rfl, rfl, ok2.sub _ _ sa, hc.1.1, hc.1.2, ?_, fun q hq => ?_⟩))
              · rw [a.length]; exact Nat.le_trans hc.2 (by decide)
              · obtain ⟨ok3, st3, rd⟩ := ok2.new hq (rep_rds a _)
                exact p _ _ _ _ ((x1.trans x2).trans st3) ok3 rd
          · exact p.elim
        | _ => exact p.elim
      | exc x hp2 =>
        rw [e2] at p
        exact fun c dx m2 b2 h2 x2 => p c dx m2 b2 h2 (x1.trans x2)
      | bad => rw [e2] at p; exact p.elim
    | _ => exact p.elim
  | exc x hp1 => rw [e] at p; exact p
  | bad => rw [e] at p; exact p.elim
theorem ref_at (ok : Ok K G m b h hp) {v : V} {n : Nat} {xs : List D} (r : RD K G m b v (.ref n)) (e : hp[n]? = some (.lst xs)) : ∃ a vs, v = .ref a ∧ m[n]? = some a ∧ h a = some (.lst vs) ∧ RDs K G m b vs xs := by
  cases r with
  | ref s =>
    obtain ⟨_, vs, q1, q2⟩ := ok.ob n _ _ s e
    exact ⟨_, vs, rfl, s, q1, q2⟩
theorem sn_app (ho : SnE K G W to eo) (ha : SnE K G W ta ea) : SnE K G W (tBM K "list" rAppend to (tCons ta tNil)) (eApp eo ea) := fun m b h hp σ s ok sl Q p => by
  refine ho m b h hp σ s ok sl _ ?_
  unfold eApp at p
  cases e : eo s hp with
  | ok d hp1 =>
    rw [e] at p
    cases d with
    | ref n =>
      dsimp only at p
      by_cases il : isLst hp1[n]? = true
      case neg => rw [if_neg il] at p; exact p.elim
      rw [if_pos il] at p
      obtain ⟨ws, e1⟩ := isLst_of il
      intro v m1 b1 h1 x1 ok1 r1
      cases r1 with
      | @ref a _ em =>
        obtain ⟨_, us, hu, _⟩ := ok1.ob n a _ em e1
        refine ⟨.inl ⟨rfl, us, .inl (.inl hu)⟩, ?_⟩
        refine ha m1 b1 h1 hp1 σ s ok1 (sl.go x1) _ ?_
        cases e2 : ea s hp1 with
        | ok d2 hp2 =>
          rw [e2] at p
          dsimp only at p
          intro w m2 b2 h2 x2 ok2 r2
          cases o2 : hp2[n]? with
          | none => rw [o2] at p; exact p.elim
          | some ob =>
            cases ob with
            | lst xs =>
              rw [o2] at p
              dsimp only at p
              split at p
              · rename_i hc
                have r3 : RD K G m2 b2 (.ref a) (.ref n) := (RD.ref em).go x2
                obtain ⟨a', vs, ea', em2, ha2, rv⟩ := ref_at ok2 r3 o2
                cases ea'
                obtain ⟨ok3, st3⟩ := ok2.mut em2 o2 (rv.append (.cons r2 .nil))
                refine ⟨a, vs, w, rfl, rfl, ha2, ?_, p _ _ _ _ ((x1.trans x2).trans st3) ok3 .non⟩
                rw [rv.length]; exact Nat.lt_of_le_of_lt hc (by decide)
              · exact p.elim
            | _ => rw [o2] at p; exact p.elim
        | exc x hp2 =>
          rw [e2] at p
          exact fun c dx m2 b2 h2 x2 => p c dx m2 b2 h2 (x1.trans x2)
        | bad => rw [e2] at p; exact p.elim
    | _ => exact p.elim
  | exc x hp1 => rw [e] at p; exact p
  | bad => rw [e] at p; exact p.elim
end
end EV

namespace EV
open PySem L2 DV
/-! a def's run: what was made within it and is not handed out is forgotten -/
def lowFs (n : Nat) : List (Str × D) → Bool
  | [] => true
  | x :: xs => below n x.2 && lowFs n xs
/-- what is older speaks of nothing later -/
def oldO (n : Nat) (o : O) : Bool := belows n (subs o)
def cutOk (n : Nat) (hp : List O) : Bool := (hp.take n).all (oldO n)
theorem cutOk_app {hp xs : List O} (h : cutOk hp.length hp = true) : cutOk hp.length (hp ++ xs) = true := by
  unfold cutOk at h ⊢
  rw [List.take_left' rfl]
  rw [List.take_length] at h
  exact h
def cutH (n : Nat) (hp : List O) : List O := if cutOk n hp then hp.take n else hp
def trunc (n : Nat) (d : D) (hp : List O) : RE :=
  if hp.length = n then .ok d hp else if cutOk n hp then (if below n d then .ok d (hp.take n) else match d with
    | .ref k => (match hp[k]? with
      | some (.lst xs) => if belows n xs then .ok (.lst xs) (hp.take n) else .ok d hp
      | _ => .ok d hp)
    | _ => .ok d hp) else .ok d hp
def runB (n : Nat) (body : ES) : List D → List O → RE := fun ds hp => match body (startE n ds) hp with
  | .nx _ hp1 => .ok .non (cutH hp.length hp1)
  | .rt d hp1 => trunc hp.length d hp1
  | .exc x _ hp1 => if lowFs hp.length x.fs then .exc x (cutH hp.length hp1) else .bad
  | _ => .bad
section
variable {K : PySem.W.Frag} {G : Gs} {W : WX} {m m' : List Addr} {b h b' h' : Hp} {hp hp' : List O}
theorem Ok.cut (ok : Ok K G m b h hp) (n : Nat) (hc : cutOk n hp = true) : Ok K G (m.take n) b h (hp.take n) := by
  refine ⟨ok.sub, ok.nd.sublist (List.take_sublist ..), by rw [List.length_take, List.length_take, ok.len], fun i a o e1 e2 => ?_⟩
  · rw [List.getElem?_take] at e1 e2
    split at e1
    · rename_i hi
      rw [if_pos hi] at e2
      obtain ⟨nb, r⟩ := ok.ob i a o e1 e2
      refine ⟨nb, ?_⟩
      have mem : o ∈ hp.take n := List.mem_of_getElem? (i := i) (by rw [List.getElem?_take, if_pos hi]; exact e2)
      exact r.map (fun u e => e) (fun u e => e) fun vs q => q.cut (List.all_eq_true.mp hc _ mem)
    · cases e1
/-- back to what was there at the beginning -/
theorem Stp.back (x : Stp m b h m' b' h') : Stp m b h m b' h' := ⟨x.fr, [], (List.append_nil m).symm, fun _ z => by cases z⟩
theorem Stp.cutm (x : Stp m b h m' b' h') : m'.take m.length = m := by
  obtain ⟨ms, e, _⟩ := x.pre
  rw [e]
  exact List.take_left ..
theorem cut_ok (x : Stp m b h m' b' h') (ok : Ok K G m b h hp) (ok' : Ok K G m' b' h' hp') (hc : cutOk hp.length hp' = true) : Ok K G m b' h' (hp'.take hp.length) := by
  have := ok'.cut hp.length hc
  rw [← ok.len, x.cutm] at this
  rw [← ok.len]
  exact this
theorem cut_rd' (x : Stp m b h m' b' h') (ok : Ok K G m b h hp) {v : V} {d : D} (r : RD K G m' b' v d) (e : below hp.length d = true) : RD K G m b' v d := by
  have := r.cut e
  rw [← ok.len, x.cutm] at this
  exact this
theorem cut_rds' (x : Stp m b h m' b' h') (ok : Ok K G m b h hp) {v : List V} {d : List D} (r : RDs K G m' b' v d) (e : belows hp.length d = true) : RDs K G m b' v d := by
  have := r.cut e
  rw [← ok.len, x.cutm] at this
  exact this
theorem lowFs_b {n : Nat} : ∀ {fs : List (Str × D)}, lowFs n fs = true → belows n (fs.map (·.2)) = true
  | [], _ => by unfold belows; rfl
  | x :: xs, e => by
    unfold lowFs at e
    rw [Bool.and_eq_true] at e
    rw [List.map_cons]
    unfold belows
    rw [e.1, lowFs_b e.2]
    rfl
theorem trunc_ok {d : D} {Q : VK} {E : XK} (ok : Ok K G m b h hp) (p : PostE K G m b h (trunc hp.length d hp') Q E) : ∀ v m' b' h', Stp m b h m' b' h' → Ok K G m' b' h' hp' → RD K G m' b' v d → Q v h' := fun v m' b' h' x ok' r => by
  unfold trunc at p
  split at p
  · exact p v m' b' h' x ok' r
  · by_cases hco : cutOk hp.length hp' = true
    case neg => rw [if_neg hco] at p; exact p v m' b' h' x ok' r
    rw [if_pos hco] at p
    by_cases hnl : below hp.length d = true
    · rw [if_pos hnl] at p
      have hc := hnl
      exact p v m b' h' x.back (cut_ok x ok ok' hco) (cut_rd' x ok r hc)
    · rw [if_neg hnl] at p
      cases d with
      | ref k =>
        dsimp only at p
        split at p
        · rename_i xs e
          split at p
          · rename_i hc
            obtain ⟨a, vs, rfl, em, ha, rv⟩ := ref_at ok' r e
            have hkn : ¬ k < hp.length := fun z => hnl (by unfold below; exact decide_eq_true z)
            have han : h a = none := by
              obtain ⟨ms, e2, n2⟩ := x.pre
              rw [e2, List.getElem?_append_right (by rw [ok.len]; omega)] at em
              exact n2 a (List.mem_of_getElem? em)
            obtain ⟨nb, _⟩ := ok'.ob k a _ em e
            have okc := cut_ok x ok ok' hco
            have am : a ∉ m := fun z => by
              obtain ⟨i, lt, e3⟩ := List.mem_iff_getElem.mp z
              have e1 : m[i]? = some a := by rw [List.getElem?_eq_getElem lt, e3]
              have lt2 : i < hp.length := by rw [← ok.len]; exact lt
              obtain ⟨_, r⟩ := ok.ob i a _ e1 (List.getElem?_eq_getElem lt2)
              obtain ⟨_, q, _⟩ := r.there
              rw [han] at q; cases q
            exact p _ m _ h' (x.back.seal han nb ha) (okc.seal nb am ha) (.lst upd_same ((cut_rds' x ok rv hc).monoB (Fr.seal okc.sub nb ha).1))
          · exact p v m' b' h' x ok' r
        · exact p v m' b' h' x ok' r
      | _ => exact p v m' b' h' x ok' r
theorem cutH_ok (x : Stp m b h m' b' h') (ok : Ok K G m b h hp) (ok' : Ok K G m' b' h' hp') : ∃ m1, Stp m b h m1 b' h' ∧ Ok K G m1 b' h' (cutH hp.length hp') ∧ (m1 = m ∨ m1 = m') := by
  unfold cutH
  by_cases hco : cutOk hp.length hp' = true
  · rw [if_pos hco]; exact ⟨m, x.back, cut_ok x ok ok' hco, .inl rfl⟩
  · rw [if_neg hco]; exact ⟨m', x, ok', .inr rfl⟩
end
section
variable {P : Program} {w : World} {K : PySem.W.Frag} {G : Gs} {mg : Str → Option Value} {base : Heap}
theorem run_ok {n : Nat} {ev : ES} {m : List Addr} {b H : Hp} {hp : List O} {ds : List D} {Q : VK} {E : XK} (ok : Ok K G m b H hp) (p : PostE K G m b H (runB n ev ds hp) Q E) :
    PostS K G m b H (ev (startE n ds) hp) { nx := fun _ H' => Q .non H', rt := Q } (fun cls d _ H => E cls d H) := by
  unfold runB at p
  cases e : ev (startE n ds) hp with
  | nx s hp1 =>
    rw [e] at p
    intro σ' m' b' h' x ok' _
    obtain ⟨m1, x1, ok1, _⟩ := cutH_ok x ok ok'
    exact p .non m1 b' h' x1 ok1 .non
  | rt d hp1 =>
    rw [e] at p
    exact trunc_ok ok p
  | exc x s hp1 =>
    rw [e] at p
    dsimp only at p
    split at p
    · rename_i hc
      intro cls dx σ' m' b' h' st ok' _ xr
      obtain ⟨m1, x1, ok1, hm1⟩ := cutH_ok st ok ok'
      refine p cls dx m1 b' h' x1 ok1 ?_
      obtain ⟨q1, q2⟩ := xr
      refine ⟨q1, ?_⟩
      rcases q2 with q2 | ⟨dd, vs, e1, e2, e3, e4, e5, e6⟩
      · exact .inl q2
      · rcases hm1 with rfl | rfl
        · refine .inr ⟨dd, vs, e1, e2, fun z => e3 ?_, e4, e5, cut_rds' st ok e6 (lowFs_b hc)⟩
          obtain ⟨ms, em, _⟩ := st.pre
          rw [em]; exact List.mem_append_left _ z
        · exact .inr ⟨dd, vs, e1, e2, e3, e4, e5, e6⟩
    · exact p.elim
  | bk s hp1 => rw [e] at p; exact p.elim
  | ct s hp1 => rw [e] at p; exact p.elim
  | bad => rw [e] at p; exact p.elim
/-- THE RULE for a def of the text, by its body's reading -/
theorem fn_ev {x qual : Str} {st : Stmt} {f : Addr} {fd : FuncData} {N ps : List Str} {k : Nat} {ev : ES} (F : Fun K x qual st f fd) (S : FnScope N ps (defScope st))
    (hB : ∀ (cdv : Value) (A : Around) (outer : List Env) (s : Shared) (H : Hp) (E : XK), Room k (A.deeper (PyProof.Rows.envOfC qual (defScope st) s.heap.objs.size f cdv)) →
      Takes (cxOf (L2.CX P w) P w K mg base N qual (defScope st) f cdv A outer s H E) (fun cls d _ H => E cls d H) →
      PassesOwn (model P w) (A.deeper (PyProof.Rows.envOfC qual (defScope st) s.heap.objs.size f cdv)) (PyProof.Rows.envOfC qual (defScope st) s.heap.objs.size f cdv) (cxOf (L2.CX P w) P w K mg base N qual (defScope st) f cdv A outer s H E).xe →
      PXB K G (fun cls d _ H => E cls d H) (cxOf (L2.CX P w) P w K mg base N qual (defScope st) f cdv A outer s H E) (defBody st) ev) :
    FnOk P w K mg base (L2.CX P w) (k + 1) f fd ps (spEv K G (runB N.length ev) ps.length) := by
  refine F.okX S (fun vs H Q E h => ?_) fun cdv A outer s H vs Q E hr h => ?_
  · obtain ⟨m, b, hp, ds, ok, r, hl, _⟩ := h
    rw [r.length, hl]
  · obtain ⟨m, b, hp, ds, ok, r, hl, p⟩ := h
    refine ⟨_, hB cdv A outer s H E hr (takes_of rfl rfl rfl rfl) (passes_of rfl), m, b, hp, _, ok, Sls.start r N, run_ok ok p⟩
theorem fnD_ev {x qual : Str} {params : Arguments} {body : List Stmt} {scope : Scope} {dvs : List V} {kws : List (Str × V)} {f : Addr} {fd : FuncData} {N ps : List Str} {k : Nat} {ev : ES} (F : FunD K x qual params body scope dvs kws f fd) (S : FnScope N ps scope)
    (hB : ∀ (cdv : Value) (A : Around) (outer : List Env) (s : Shared) (H : Hp) (E : XK), Room k (A.deeper (PyProof.Rows.envOfC qual scope s.heap.objs.size f cdv)) →
      Takes (cxOf (L2.CX P w) P w K mg base N qual scope f cdv A outer s H E) (fun cls d _ H => E cls d H) →
      PassesOwn (model P w) (A.deeper (PyProof.Rows.envOfC qual scope s.heap.objs.size f cdv)) (PyProof.Rows.envOfC qual scope s.heap.objs.size f cdv) (cxOf (L2.CX P w) P w K mg base N qual scope f cdv A outer s H E).xe →
      PXB K G (fun cls d _ H => E cls d H) (cxOf (L2.CX P w) P w K mg base N qual scope f cdv A outer s H E) body ev) :
    FnOk P w K mg base (L2.CX P w) (k + 1) f fd ps (spEv K G (runB N.length ev) ps.length) := by
  refine F.ok S (fun vs H Q E h => ?_) fun cdv A outer s H vs Q E hr h => ?_
  · obtain ⟨m, b, hp, ds, ok, r, hl, _⟩ := h
    rw [r.length, hl]
  · obtain ⟨m, b, hp, ds, ok, r, hl, p⟩ := h
    refine ⟨_, hB cdv A outer s H E hr (takes_of rfl rfl rfl rfl) (passes_of rfl), m, b, hp, _, ok, Sls.start r N, run_ok ok p⟩
/-- a def at a lower level -/
theorem spEv_imp {F F' : List D → List O → RE} {n : Nat} (h : ∀ ds hp, F ds hp = .bad ∨ F ds hp = F' ds hp) {vs : List V} {H : Hp} {Q : VK} {E : XK} (s : spEv K G F n vs H Q E) : spEv K G F' n vs H Q E := by
  obtain ⟨m, b, hp, ds, ok, r, hl, p⟩ := s
  refine ⟨m, b, hp, ds, ok, r, hl, ?_⟩
  rcases h ds hp with e | e
  · rw [e] at p; exact p.elim
  · rw [← e]; exact p
end
end EV

namespace EV
open PySem L2 DV
/-! the rules: syntax beside its reading -/
def ArN (er : EA) (n : Nat) : Prop := ∀ s hp ds hp1, er s hp = .ok ds hp1 → ds.length = n
theorem arN_nil : ArN aNil 0 := fun s hp ds hp1 e => by unfold aNil at e; cases e; rfl
theorem arN_cons {ea : EE} {er : EA} {n : Nat} (h : ArN er n) : ArN (aCons ea er) (n + 1) := fun s hp ds hp1 e => by
  unfold aCons at e
  cases e1 : ea s hp with
  | ok d hp2 =>
    rw [e1] at e
    dsimp only at e
    cases e2 : er s hp2 with
    | ok es hp3 =>
      rw [e2] at e; cases e
      rw [List.length_cons, h s hp2 es _ e2]
    | exc x hp3 => rw [e2] at e; cases e
    | bad => rw [e2] at e; cases e
  | exc x hp2 => rw [e1] at e; cases e
  | bad => rw [e1] at e; cases e
structure PXN (K : PySem.W.Frag) (G : Gs) (W : WX) (X : Cx) (es : List Expr) (er : EA) (n : Nat) : Prop where
  pa : PA X es (tOfA K G W er)
  ar : ArN er n
def PXT (K : PySem.W.Frag) (G : Gs) (W : WX) (X : Cx) (e : Expr) (ev : EE) : Prop := PT X e (tOfT K G W ev)
def PXW (K : PySem.W.Frag) (G : Gs) (W : WX) (X : Cx) (e : Expr) (ev : EE) : Prop := PW X e (tOfT K G W ev)
def PXI (K : PySem.W.Frag) (G : Gs) (W : WX) (X : Cx) (tg e : Expr) (ei : EI) : Prop := PI X tg e (fun σ h R => ∃ m b hp s, Ok K G m b h hp ∧ Sls K G m b σ s ∧ PostI K G m b h (ei s hp) R (fun c d H => W c d σ H))
def PXG (K : PySem.W.Frag) (G : Gs) (X : Cx) (ns : List Nat) (tg : Expr) (eg : EG) : Prop := ∃ g, PG X tg g ∧ SnG K G ns g eg
def PXO (K : PySem.W.Frag) (G : Gs) (W : WX) (X : Cx) (e : Option Expr) (eo : EO) : Prop := ∃ t, PO X e t ∧ SnO K G W t eo
section
variable {K : PySem.W.Frag} {G : Gs} {W : WX} {X : Cx} {e a b c l r : Expr} {es : List Expr} {ea eb ec et ev : EE} {er : EA} {n : Nat} {x : Str} {p pos : Pos} {st : Stmt} {sts : List Stmt} {A B : ES}
theorem PXT.of {tt : TT} (h : PT X e tt) (s : SnT K G W tt ev) : PXT K G W X e ev := ⟨fun pins z σ H Q I ⟨m, b, hp, sl, ok, ss, q⟩ => h.run pins z σ H Q I (s m b H hp σ sl ok ss Q q)⟩
theorem PXW.of {tt : TT} (h : PW X e tt) (s : SnT K G W tt ev) : PXW K G W X e ev := ⟨fun whole pins z σ H Q I ⟨m, b, hp, sl, ok, ss, q⟩ => h.run whole pins z σ H Q I (s m b H hp σ sl ok ss Q q)⟩
theorem PXI.of {tg : Expr} {wi : TI} {ei : EI} (h : PI X tg e wi) (s : SnI K G W wi ei) : PXI K G W X tg e ei := ⟨fun pins z σ H R I ⟨m, b, hp, sl, ok, ss, q⟩ => h.run pins z σ H R I (s m b H hp σ sl ok ss R q)⟩
theorem PXI.sn {ei : EI} : SnI K G W (fun σ h R => ∃ m b hp s, Ok K G m b h hp ∧ Sls K G m b σ s ∧ PostI K G m b h (ei s hp) R (fun c d H => W c d σ H)) ei := fun m b h hp σ s ok sl R q => ⟨m, b, hp, s, ok, sl, q⟩
theorem PXT.pw (h : PXW K G W X e ev) : PXT K G W X e ev := PW.pt h
/-! names, literals -/
theorem xv (i : Nat) {x : Str} {pos : Pos} (hN : X.N[i]? = some x := by rfl) (hv : Vis X.env.scope x := by first | exact Or.inl rfl | exact Or.inr (Or.inl rfl) | exact Or.inr (Or.inr rfl)) (hd : (x == ("__debug__" : Str)) = false := by decide)
    (hcd : (x == ("__classdict__" : Str)) = false := by decide) : PX K G W X (.Name x pos) (eVar i) := px (pe_var hN hv hd hcd) (sn_var i)
theorem xint {i : Int} {j : Nat} : PX K G W X (.Constant (.int i) j pos) (eCon (.int i)) := px pe_int (sn_con fun _ _ => .int i)
theorem xstr {i : Str} {j : Nat} : PX K G W X (.Constant (.str i) j pos) (eCon (.str i)) := px pe_str (sn_con fun _ _ => .str i)
theorem xbl {i : Bool} {j : Nat} : PX K G W X (.Constant (.bool i) j pos) (eCon (.bl i)) := px pe_bl (sn_con fun _ _ => .bl i)
theorem xnon {j : Nat} : PX K G W X (.Constant .none j pos) (eCon .non) := px pe_non (sn_con fun _ _ => .non)
theorem xglob {u : Value} {v : V} {d : D} (hg : Gl X x) (hm : X.mg x = some u) (hr : RelV v u) (rd : ∀ m b, RD K G m b v d) (hd : (x == ("__debug__" : Str)) = false := by decide) : PX K G W X (.Name x pos) (eCon d) := px (pe_glob hg hm hr hd) (sn_con rd)
theorem xglobX {v : V} {d : D} (hg : Gl X x) (hm : ∃ u, X.mg x = some u ∧ RelV v u) (rd : ∀ m b, RD K G m b v d) (hd : (x == ("__debug__" : Str)) = false := by decide) : PX K G W X (.Name x pos) (eCon d) := px (pe_globX hg hm hd) (sn_con rd)
theorem xty (t : Ty) {u : Value} (hg : Gl X x) (hm : X.mg x = none) (hv : bootBuiltins x = some u) (hr : RelV (.ty t.nm) u) (hn : x ≠ "__name__" := by decide) (hd : (x == ("__debug__" : Str)) = false := by decide) : PX K G W X (.Name x pos) (eCon (.ty t)) :=
  px (pe_bltn (v := .ty t.nm) hg hm hv hr hn hd) (sn_con fun _ _ => .ty t)
/-! arguments, displays -/
theorem xa_nil : PXN K G W X [] aNil 0 := ⟨⟨fun pos pins z σ H Q I ⟨m, b, hp, sl, ok, ss, q⟩ => pa_nil.run pos pins z σ H Q I (snA_nil m b H hp σ sl ok ss Q q)⟩, arN_nil⟩
theorem xa_cons (ha : PX K G W X e ea) (hr : PXN K G W X es er n) (hs : starEach (e :: es) X.env = (false, eval e X.env) :: starEach es X.env := by rfl) : PXN K G W X (e :: es) (aCons ea er) (n + 1) :=
  ⟨⟨fun pos pins z σ H Q I ⟨m, b, hp, sl, ok, ss, q⟩ => (pa_cons ha hr.pa hs).run pos pins z σ H Q I (snA_cons sn_of snA_of m b H hp σ sl ok ss Q q)⟩, arN_cons hr.ar⟩
theorem xtup {k : Nat} (h : PXN K G W X es er n) : PX K G W X (.Tuple es k pos) (eTup er) := px (pe_tupF h.pa) (sn_tup snA_of)
theorem xlst (h : PXN K G W X es er n) : PX K G W X (.List es pos) (eLst er) := px (pe_lst h.pa) (sn_lst snA_of)
theorem xlstM (h : PXN K G W X es er n) : PX K G W X (.List es pos) (eLstM er) := px (pe_lst h.pa) (sn_lstM snA_of)
/-! operators -/
theorem xop {op : Operator} {r : R2} {f : List O → D → D → Option D} (ho : OpR X (binaryOp op) r) (hf : OpOk K G r f) (ha : PX K G W X a ea) (hb : PX K G W X b eb) : PX K G W X (.BinOp a op b pos) (eBin f ea eb) := px (pe_op ho ha hb) (sn_op hf sn_of sn_of)
theorem xadd (hK : X.K = K) (ha : PX K G W X a ea) (hb : PX K G W X b eb) : PX K G W X (.BinOp a .Add b pos) (eBin fAdd ea eb) := by subst hK; exact xop (op_addF rfl) ok_add ha hb
theorem xsub (ha : PX K G W X a ea) (hb : PX K G W X b eb) : PX K G W X (.BinOp a .Sub b pos) (eBin fSub ea eb) := xop op_sub ok_sub ha hb
theorem xmul (hK : X.K = K) (ha : PX K G W X a ea) (hb : PX K G W X b eb) : PX K G W X (.BinOp a .Mult b pos) (eBin fMul ea eb) := by subst hK; exact xop (OpR.or op_mulA op_repF) ok_mul ha hb
theorem xrepM (hK : X.K = K) (ha : PX K G W X a ea) (hb : PX K G W X b eb) : PX K G W X (.BinOp a .Mult b pos) (eRepM ea eb) := by subst hK; exact px (pe_op (OpR.or op_mulA op_repF) ha hb) (sn_repM sn_of sn_of)
theorem xmod (ha : PX K G W X a ea) (hb : PX K G W X b eb) : PX K G W X (.BinOp a .Mod b pos) (eBin fMod ea eb) := xop op_mod ok_mod ha hb
theorem xdiv (ha : PX K G W X a ea) (hb : PX K G W X b eb) : PX K G W X (.BinOp a .FloorDiv b pos) (eBin fDiv ea eb) := xop op_fdivW ok_div ha hb
theorem xneg (ha : PX K G W X a ea) : PX K G W X (.UnaryOp .USub a pos) (eUn fNeg ea) := px (pe_un un_neg ha) (sn_un ok_neg sn_of)
theorem xnot (ha : PX K G W X a ea) : PX K G W X (.UnaryOp .Not a pos) (eNot ea) := px (pe_not ha) (sn_notV sn_of)
theorem xone {op : BoolOp} (ha : PX K G W X a ea) : PX K G W X (.BoolOp op [a] pos) ea := pe_one ha
theorem xand (ha : PX K G W X a ea) (hb : PX K G W X (.BoolOp .And (b :: es) pos) eb) : PX K G W X (.BoolOp .And (a :: b :: es) pos) (eAnd ea eb) := px (pe_and ha hb) (sn_andV sn_of sn_of)
theorem xor (ha : PX K G W X a ea) (hb : PX K G W X (.BoolOp .Or (b :: es) pos) eb) : PX K G W X (.BoolOp .Or (a :: b :: es) pos) (eOr ea eb) := px (pe_or ha hb) (sn_orV sn_of sn_of)
theorem xif (ht : PXT K G W X c et) (ha : PX K G W X a ea) (hb : PX K G W X b eb) : PX K G W X (.IfExp c a b pos) (eIf et ea eb) := px (pe_ifExp ht ha hb) (sn_if snT_of sn_of sn_of)
/-! comparisons -/
/-- one comparison: its rule, its reading -/
structure CpR (K : PySem.W.Frag) (G : Gs) (X : Cx) (op : CmpOp) (f : List O → D → D → Option D) : Prop where
  ex : ∃ r, OpR X (compareOp op) r ∧ OpOk K G r f
theorem c_eq (hK : X.K = K) (hu : X.A.units + 64 < cLine) : CpR K G X .Eq (fEq false) := by subst hK; exact ⟨_, op_eqP hu, ok_eqP false⟩
theorem c_ne (hK : X.K = K) (hu : X.A.units + 64 < cLine) : CpR K G X .NotEq (fEq true) := by subst hK; exact ⟨_, op_neP hu, ok_eqP true⟩
theorem c_in (hK : X.K = K) (hu : X.A.units + 64 < cLine) : CpR K G X .In (fIn false) := by subst hK; exact ⟨_, OpR.or (op_inP hu) op_in_sign, ok_inP false⟩
theorem c_notIn (hK : X.K = K) (hu : X.A.units + 64 < cLine) : CpR K G X .NotIn (fIn true) := by subst hK; exact ⟨_, OpR.or (op_notInP hu) op_notIn_sign, ok_inP true⟩
theorem c_is : CpR K G X .Is (fIs false) := ⟨_, op_isN, ok_isN⟩
theorem c_isNot : CpR K G X .IsNot (fIs true) := ⟨_, op_notN, ok_notN⟩
theorem c_lt : CpR K G X .Lt (fLt fun i j => decide (i < j)) := ⟨_, op_lt, ok_lt _⟩
theorem c_le : CpR K G X .LtE (fLt fun i j => decide (i ≤ j)) := ⟨_, op_le, ok_lt _⟩
theorem c_gt : CpR K G X .Gt (fLt fun i j => decide (j < i)) := ⟨_, op_gt, ok_lt _⟩
theorem c_ge : CpR K G X .GtE (fLt fun i j => decide (j ≤ i)) := ⟨_, op_ge, ok_lt _⟩
section
variable {op op' : CmpOp} {f f' : List O → D → D → Option D}
theorem xcmp (h : CpR K G X op f) (ha : PX K G W X a ea) (hb : PX K G W X b eb) (hm : behindInMarks op b = false) : PX K G W X (.Compare a [op] [b] pos) (eBin f ea eb) := by
  obtain ⟨r, h1, h2⟩ := h.ex
  exact px (pe_cmpR h1 ha hb hm) (sn_op h2 sn_of sn_of)
theorem xchain (h : CpR K G X op f) (h' : CpR K G X op' f') (ha : PX K G W X a ea) (hb : PX K G W X b eb) (hc : PX K G W X c ec) (hm : lastMarks [op, op'] [b, c] = false := by rfl) : PX K G W X (.Compare a [op, op'] [b, c] pos) (eChain f f' ea eb ec) := by
  obtain ⟨r, h1, h2⟩ := h.ex
  obtain ⟨r', h1', h2'⟩ := h'.ex
  exact px (pe_chain h1 h1' ha hb hc hm) (sn_chain h2 h2' sn_of sn_of sn_of)
theorem tcmp (h : CpR K G X op f) (ha : PX K G W X a ea) (hb : PX K G W X b eb) (hm : behindInMarks op b = false) : PXT K G W X (.Compare a [op] [b] pos) (eBin f ea eb) := by
  obtain ⟨r, h1, h2⟩ := h.ex
  exact .of (pt_cmpR h1 ha hb hm) (snT_test (sn_op h2 sn_of sn_of))
theorem tchain (h : CpR K G X op f) (h' : CpR K G X op' f') (ha : PX K G W X a ea) (hb : PX K G W X b eb) (hc : PX K G W X c ec) (hm : lastMarks [op, op'] [b, c] = false := by rfl) : PXT K G W X (.Compare a [op, op'] [b, c] pos) (eChain f f' ea eb ec) := by
  obtain ⟨r, h1, h2⟩ := h.ex
  obtain ⟨r', h1', h2'⟩ := h'.ex
  exact .of (pt_chain h1 h1' ha hb hc hm) (snT_test (sn_chain h2 h2' sn_of sn_of sn_of))
end
/-! tests -/
theorem tval (h : PX K G W X e ev) (he : ∀ whole, isTrue e X.env whole = (do let v ← whole; standAt e.pos; holding [v] (truthy v)) := by intro _; rfl) : PXT K G W X e ev := .of (pt_val h he) (snT_B sn_of)
theorem tnot (h : PXT K G W X a ea) : PXT K G W X (.UnaryOp .Not a pos) (eNot ea) := .of (pt_not h) (snT_not snT_of)
theorem wand1 (h : PXT K G W X a ea) : PXW K G W X (.BoolOp .And [a] pos) ea := pw_and1 h
theorem wor1 (h : PXT K G W X a ea) : PXW K G W X (.BoolOp .Or [a] pos) ea := pw_or1 h
theorem wand (ha : PXT K G W X a ea) (hb : PXW K G W X (.BoolOp .And (b :: es) pos) eb) : PXW K G W X (.BoolOp .And (a :: b :: es) pos) (eAnd ea eb) := .of (pw_and ha hb) (snT_and snT_of snT_of)
theorem wor (ha : PXT K G W X a ea) (hb : PXW K G W X (.BoolOp .Or (b :: es) pos) eb) : PXW K G W X (.BoolOp .Or (a :: b :: es) pos) (eOr ea eb) := .of (pw_or ha hb) (snT_or snT_of snT_of)
/-! places, pieces -/
theorem xix (hK : X.K = K) (ha : PX K G W X a ea) (hb : PX K G W X b eb) (hs : PlainIx b) : PX K G W X (.Subscript a b pos) (eBin fIx ea eb) := by subst hK; exact px (pe_ix ix_seq ha hb hs) (sn_op ok_ix sn_of sn_of)
theorem xo_none : PXO K G W X none oNone := ⟨_, po_none, snO_none⟩
theorem xo_some (h : PX K G W X e ev) : PXO K G W X (some e) (oSome ev) := ⟨_, po_some h, snO_some sn_of⟩
theorem xsl {lo hi : Option Expr} {el eh : EO} {p2 : Pos} (hK : X.K = K) (ha : PX K G W X a ea) (hl : PXO K G W X lo el) (hh : PXO K G W X hi eh) : PX K G W X (.Subscript a (.Slice lo hi none p2) pos) (eSl ea el eh) := by
  subst hK
  obtain ⟨t, h1, h2⟩ := hl
  obtain ⟨u, h3, h4⟩ := hh
  exact px (pe_slice sl_X ha h1 h3) (sn_sl sn_of h2 h4)
theorem xback {k : Nat} {p1 p2 p3 : Pos} (hK : X.K = K) (ha : PX K G W X a ea) : PX K G W X (.Subscript a (.Slice none none (some (.UnaryOp .USub (.Constant (.int 1) k p1) p2)) p3) pos) (eUn fRevT ea) := by subst hK; exact px (DV.pe_backF ha) (sn_backT sn_of)
/-! calls -/
theorem xbi {id : String} {r : List V → Hp → VK → Prop} {f : List O → List D → Option D} (hc : CallR X (.builtin id) r) (hf : BiOk K G r f) (hg : Gl X x) (hm : X.mg x = none) (hv : bootBuiltins x = some (.builtin id)) (ha : PXN K G W X (e :: es) er n) (hn : x ≠ "__name__" := by decide) (hdb : (x == ("__debug__" : Str)) = false := by decide)
    (he : starEach (e :: es) X.env = (false, eval e X.env) :: starEach es X.env := by rfl) (hpl : (backTo pos (starEach es X.env)).any (·.1) = false := by rfl) : PX K G W X (.Call (.Name x p) (e :: es) [] pos) (eBi f er) := px (pe_callB hc hg hm hv ha.pa hn hdb he hpl) (sn_bi hf snA_of)
theorem xbt {T : String} {r : List V → Hp → VK → Prop} {f : List O → List D → Option D} (hc : CallR X (.type T) r) (hf : BiOk K G r f) (hg : Gl X x) (hm : X.mg x = none) (hv : bootBuiltins x = some (.type T)) (ha : PXN K G W X (e :: es) er n) (hn : x ≠ "__name__" := by decide) (hdb : (x == ("__debug__" : Str)) = false := by decide)
    (he : starEach (e :: es) X.env = (false, eval e X.env) :: starEach es X.env := by rfl) (hpl : (backTo pos (starEach es X.env)).any (·.1) = false := by rfl) : PX K G W X (.Call (.Name x p) (e :: es) [] pos) (eBi f er) := px (pe_callTy hc hg hm hv ha.pa hn hdb he hpl) (sn_bi hf snA_of)
theorem xlistM (hK : X.K = K) (hg : Gl X x) (hm : X.mg x = none) (hv : bootBuiltins x = some (.type "list")) (ha : PXN K G W X (e :: es) er n) (hn : x ≠ "__name__" := by decide) (hdb : (x == ("__debug__" : Str)) = false := by decide)
    (he : starEach (e :: es) X.env = (false, eval e X.env) :: starEach es X.env := by rfl) (hpl : (backTo pos (starEach es X.env)).any (·.1) = false := by rfl) : PX K G W X (.Call (.Name x p) (e :: es) [] pos) (eListM er) := by subst hK; exact px (pe_callTy call_list_of hg hm hv ha.pa hn hdb he hpl) (sn_listM snA_of)
theorem len_ok (hK : X.K = K) : CallR X (.builtin "len") (fun xs H Q => ∃ x n, xs = [x] ∧ LenV K x H n ∧ Q (.int n) H) := by subst hK; exact call_len
theorem all_ok' (hK : X.K = K) (hc : X.calm = true) : CallR X (.builtin "all") (rAll K) := by subst hK; exact cr_all hc
theorem any_ok' (hK : X.K = K) (hc : X.calm = true) : CallR X (.builtin "any") (rAny K) := by subst hK; exact cr_any hc
theorem tuple_ok' (hK : X.K = K) : CallR X (.type "tuple") (rTupF K) := by subst hK; exact call_tupleF
theorem list_ok' (hK : X.K = K) : CallR X (.type "list") (fun xs H Q => ∃ p ys, xs = [.ref p] ∧ (SqL K H p ys ∨ SqT K H p ys) ∧ ∀ l, H l = none → Q (.ref l) (upd H l (.lst ys))) := by subst hK; exact call_list_of
theorem isi_ok' (hK : X.K = K) : CallR X (.builtin "isinstance") (rIsi K) := by subst hK; exact call_isi
/-- isinstance(e, (T, U)) -/
theorem xisi2 {t u : Ty} {k : Nat} {tx ux : Str} {p1 p2 p3 : Pos} {vt vu : Value} (hK : X.K = K) (hg : Gl X x) (hm : X.mg x = none) (hv : bootBuiltins x = some (.builtin "isinstance")) (ha : PX K G W X a ea)
    (gt : Gl X tx) (mt : X.mg tx = none) (bt : bootBuiltins tx = some vt) (rt : RelV (.ty t.nm) vt) (gu : Gl X ux) (mu : X.mg ux = none) (bu : bootBuiltins ux = some vu) (ru : RelV (.ty u.nm) vu)
    (hn : x ≠ "__name__" := by decide) (hdb : (x == ("__debug__" : Str)) = false := by decide) (nt : tx ≠ "__name__" := by decide) (dt : (tx == ("__debug__" : Str)) = false := by decide) (nu : ux ≠ "__name__" := by decide) (du : (ux == ("__debug__" : Str)) = false := by decide)
    (hs : starEach (a :: [.Tuple [.Name tx p1, .Name ux p2] k p3]) X.env = (false, eval a X.env) :: starEach [.Tuple [.Name tx p1, .Name ux p2] k p3] X.env := by rfl) : PX K G W X (.Call (.Name x p) [a, .Tuple [.Name tx p1, .Name ux p2] k p3] [] pos) (eIsi2 ea t u) := by
  subst hK
  exact px (pe_callB call_isiT hg hm hv (pa_cons ha (pa_cons (pe_tup (pa_cons (pe_bltn (v := .ty t.nm) gt mt bt rt nt dt) (pa_cons (pe_bltn (v := .ty u.nm) gu mu bu ru nu du) pa_nil))) pa_nil) hs) hn hdb hs rfl) (sn_isi2 t u sn_of)
/-- a def of the text -/
theorem xcall {k : Nat} {f : Addr} {fd : FuncData} {ps : List Str} {F : List D → List O → RE} {N : Nat} {vs : List D} {dvs : List V} {ds : List Value} (Fo : FnOk X.prog X.w X.K X.mg X.base (L2.CX X.prog X.w) k f fd ps (spEv K G F N)) (hr : Room k X.A) (hg : Gl X x) (hm : X.mg x = some (.ref f)) (hk : PySem.W.keepIn X.K (.ref f) = true)
    (hb : Binds X.K fd ps ds) (hd : Vals dvs ds) (hv : ∀ m b, RDs K G m b dvs vs) (tk : Takes X W) (ha : PXN K G W X (e :: es) er n) (hN : n + vs.length = N) (hdb : (x == ("__debug__" : Str)) = false := by decide)
    (he : starEach (e :: es) X.env = (false, eval e X.env) :: starEach es X.env := by rfl) (hpl : (backTo pos (starEach es X.env)).any (·.1) = false := by rfl) : PX K G W X (.Call (.Name x p) (e :: es) [] pos) (eCall F vs er) :=
  px (pe_callSD Fo hr hg hm hk hb hd (fun σ => passAt tk σ) ha.pa hdb he hpl) (sn_call hv snA_of fun s hp ds hp1 e => by rw [List.length_append, ha.ar s hp ds hp1 e]; exact hN)
def eCall0 (F : List D → List O → RE) (vs : List D) : EE := fun s hp => match F vs hp with
  | .ok d hp1 => .ok d hp1
  | _ => .bad
theorem sn_call0 {F : List D → List O → RE} {N : Nat} {vs : List D} {dvs : List V} (hv : ∀ m b, RDs K G m b dvs vs) (hN : vs.length = N) : SnE K G W (tCall (spEv K G F N) dvs E0 tNil) (eCall0 F vs) := fun m b h hp σ s ok sl Q p => by
  unfold eCall0 at p
  refine ⟨m, b, hp, vs, ok, hv m b, hN, ?_⟩
  cases e : F vs hp with
  | ok d hp1 => rw [e] at p; exact p
  | exc x hp1 => rw [e] at p; exact p.elim
  | bad => rw [e] at p; exact p.elim
theorem xcall0 {k : Nat} {f : Addr} {fd : FuncData} {ps : List Str} {F : List D → List O → RE} {N : Nat} {vs : List D} {dvs : List V} {ds : List Value} (Fo : FnOk X.prog X.w X.K X.mg X.base (L2.CX X.prog X.w) k f fd ps (spEv K G F N)) (hr : Room k X.A) (hg : Gl X x) (hm : X.mg x = some (.ref f)) (hk : PySem.W.keepIn X.K (.ref f) = true)
    (hb : Binds X.K fd ps ds) (hd : Vals dvs ds) (hv : ∀ m b, RDs K G m b dvs vs) (hN : vs.length = N) (hdb : (x == ("__debug__" : Str)) = false := by decide) : PX K G W X (.Call (.Name x p) [] [] pos) (eCall0 F vs) :=
  px (pe_call0 Fo hr hg hm hk hb hd passL hdb) (sn_call0 hv hN)
def eCallV' (i k : Nat) (F : List D → List O → RE) (er : EA) : EE := fun s hp => match s[i]? with
  | some (some (.fn j)) => if j = k then (match er s hp with
      | .ok ds hp1 => (match F ds hp1 with
        | .ok d hp2 => .ok d hp2
        | _ => .bad)
      | _ => .bad) else .bad
  | _ => .bad
theorem sn_callV {i k : Nat} {F : List D → List O → RE} {N : Nat} {tr : TA} (ha : SnA K G W tr er) (hn : ArN er N) : SnE K G W (tCallL i (G.fa k) (spEv K G F N) [] E0 tr) (eCallV' i k F er) := fun m b h hp σ s ok sl Q p => by
  unfold eCallV' at p
  cases e0 : s[i]? with
  | none => rw [e0] at p; exact p.elim
  | some o =>
    cases o with
    | none => rw [e0] at p; exact p.elim
    | some d =>
      rw [e0] at p
      cases d with
      | fn j =>
        dsimp only at p
        split at p
        · rename_i hj
          subst hj
          obtain ⟨v, e1, r⟩ := sl.at' i _ e0
          cases r
          refine ⟨e1, ha m b h hp σ s ok sl _ ?_⟩
          cases e : er s hp with
          | ok ds hp1 =>
            rw [e] at p
            dsimp only at p
            intro xs m1 b1 h1 x1 ok1 r1
            rw [List.append_nil]
            refine ⟨m1, b1, hp1, ds, ok1, r1, hn s hp ds hp1 e, ?_⟩
            cases e2 : F ds hp1 with
            | ok d hp2 => rw [e2] at p; exact p.go x1
            | exc x hp2 => rw [e2] at p; exact p.elim
            | bad => rw [e2] at p; exact p.elim
          | exc x hp1 => rw [e] at p; exact p.elim
          | bad => rw [e] at p; exact p.elim
        · exact p.elim
      | _ => exact p.elim
theorem xcallV {i j k : Nat} {f : Addr} {fd : FuncData} {ps : List Str} {F : List D → List O → RE} (Fo : FnOk X.prog X.w X.K X.mg X.base (L2.CX X.prog X.w) k f fd ps (spEv K G F n)) (hf : G.fa j = f) (hr : Room k X.A) (hN : X.N[i]? = some x) (hv : Vis X.env.scope x) (hk : PySem.W.keepIn X.K (.ref f) = true) (hb : Binds X.K fd ps []) (ha : PXN K G W X (e :: es) er n)
    (hdb : (x == ("__debug__" : Str)) = false := by decide) (hcd : (x == ("__classdict__" : Str)) = false := by decide)
    (he : starEach (e :: es) X.env = (false, eval e X.env) :: starEach es X.env := by rfl) (hpl : (backTo pos (starEach es X.env)).any (·.1) = false := by rfl) : PX K G W X (.Call (.Name x p) (e :: es) [] pos) (eCallV' i j F er) := by
  subst hf
  exact px (pe_callL Fo hr hN hv hk hb .nil passL ha.pa hdb hcd he hpl) (sn_callV snA_of ha.ar)
/-! targets, walks, comprehensions -/
variable {tg : Expr} {tgs : List Expr} {eg : EG} {egs : EGs} {ns ks : List Nat} {ei : EI}
def PXGs (K : PySem.W.Frag) (G : Gs) (X : Cx) (ns : List Nat) (tgs : List Expr) (eg : EGs) : Prop := ∃ g, PGs X tgs g ∧ SnGs K G ns g eg
theorem g_nm {i : Nat} (hN : X.N.Nodup) (hi : X.N[i]? = some x) (hx : Loc X.env.scope x) (hf : X.fn x = true ∨ X.env.scope.names.lookup x = some .local := by first | exact .inl rfl | exact .inr rfl | assumption) : PXG K G X [i] (.Name x pos) (gNm i) := ⟨_, pg_name hN hi hx hf, snG_name i⟩
theorem gs_nil : PXGs K G X [] [] gsNil := ⟨_, pgs_nil, snGs_nil⟩
theorem gs_cons (h : PXG K G X ns tg eg) (h2 : PXGs K G X ks tgs egs) (hs : (assignEach (tg :: tgs) X.env).map (·.2) = assign tg X.env :: (assignEach tgs X.env).map (·.2) := by rfl) : PXGs K G X (ns ++ ks) (tg :: tgs) (gsCons eg egs) := by
  obtain ⟨g, a1, a2⟩ := h
  obtain ⟨g', b1, b2⟩ := h2
  exact ⟨_, pgs_cons a1 b1 hs, snGs_cons a2 b2⟩
theorem g_tp {k : Nat} (n : Nat) (hK : X.K = K) (hc : X.calm = true) (h : PXGs K G X ns tgs egs) (hn : (assignEach tgs X.env).length = n := by rfl) (hst : (assignEach tgs X.env).findIdx? (·.1) = none := by rfl) : PXG K G X ns (.Tuple tgs k pos) (gTp n egs) := by
  subst hK
  obtain ⟨g, a1, a2⟩ := h
  exact ⟨_, pg_tup hc a1 hn hst, snG_tup a2⟩
theorem PIor {w1 w2 : TI} (h1 : PI X tg e w1) (h2 : PI X tg e w2) : PI X tg e (fun σ H R => w1 σ H R ∨ w2 σ H R) := ⟨fun pins s σ H R I h => h.elim (h1.run pins s σ H R I) (h2.run pins s σ H R I)⟩
theorem xi_seq (hK : X.K = K) (h : PX K G W X e ev) : PXI K G W X tg e (iSeq ev) := by subst hK; exact .of (PIor (pi_tup h) (PIor (pi_list h) (pi_str h))) (snI_seq sn_of)
theorem xi_range1 (hg : Gl X "range") (hm : X.mg "range" = none) (ha : PXN K G W X [a] er 1) (hs : starEach [a] X.env = [(false, eval a X.env)] := by rfl) : PXI K G W X tg (.Call (.Name "range" p) [a] [] pos) (iRange er) := .of (pi_range1 hg hm ha.pa hs) (snI_range1 snA_of ha.ar)
theorem xi_range2 (hg : Gl X "range") (hm : X.mg "range" = none) (ha : PXN K G W X [a, b] er 2) (hs : starEach [a, b] X.env = [(false, eval a X.env), (false, eval b X.env)] := by rfl) (hs2 : starEach [b] X.env = [(false, eval b X.env)] := by rfl) : PXI K G W X tg (.Call (.Name "range" p) [a, b] [] pos) (iRange er) := .of (pi_range2 hg hm ha.pa hs hs2) (snI_range2 snA_of ha.ar)
theorem xi_enum {kk : Nat} {tpos : Pos} {elts : List Expr} (hK : X.K = K) (hg : Gl X "enumerate") (hm : X.mg "enumerate" = none) (ha : PXN K G W X [e] er n) (hs : starEach [e] X.env = [(false, eval e X.env)] := by rfl) : PXI K G W X (.Tuple elts kk tpos) (.Call (.Name "enumerate" p) [e] [] pos) (iEnumE er) := by
  subst hK; exact .of (PIor (pi_enumT hg hm ha.pa hs) (pi_enum hg hm ha.pa hs)) (snI_enum snA_of)
/-- a comprehension's tests -/
def PXTs (K : PySem.W.Frag) (G : Gs) (X : Cx) (es : List Expr) (ev : EE) : Prop := PTs X es (tOfT K G WF ev)
theorem ts_nil : PXTs K G X [] (eCon (.bl true)) := ⟨fun pins z σ H Q I ⟨m, b, hp, sl, ok, ss, q⟩ => pts_nil.run pins z σ H Q I (by
  obtain ⟨c, e1, e2⟩ := q (.bl true) m b H (Stp.rfl' ok.sub) ok (.bl true)
  cases e1; exact e2)⟩
theorem ts_one (h : PXT K G WF X e ev) : PXTs K G X [e] ev := pts_one h
variable {own : List (Str × Nat)} {scope : Scope} {elt : Expr} {ifs : List Expr}
theorem xcomp (hc : X.calm = true) (hN : X.N.Nodup) (hi : PXI K G W X tg e ei) (ok : BlkOk X.N X.env.scope scope own) (hs0 : ∀ i ∈ ns, i ∈ own.map (·.2))
    (hg : ∃ g, (∀ (s : Shared) (H : Hp) (C : Addr) (cl : List (Str × Addr)) (fp : List Addr), PG (X.blk s H scope (compEnvC scope cl C X.env) fp) tg g) ∧ SnG K G ns g eg)
    (ht : ∀ (s : Shared) (H : Hp) (C : Addr) (cl : List (Str × Addr)) (fp : List Addr), PXTs K G (X.blk s H scope (compEnvC scope cl C X.env) fp) ifs et)
    (he : ∀ (s : Shared) (H : Hp) (C : Addr) (cl : List (Str × Addr)) (fp : List Addr), PX K G WF (X.blk s H scope (compEnvC scope cl C X.env) fp) elt ev) (hs : ∀ x, foldedSetIterable e X.env x = pure x := by intro _; rfl) :
    PX K G W X (.ListComp elt [⟨tg, e, ifs, 0⟩] scope pos) (eComp ei eg et ev (own.map (·.2))) := by
  obtain ⟨g, g1, g2⟩ := hg
  exact px (pe_lc hc hN hi ok g1 ht he hs) (sn_comp PXI.sn g2 hs0 snT_of sn_of)
/-- name = [..] -/
theorem xsetlc {i : Nat} {y : Str} {py spos : Pos} (M : Bool) (hc : X.calm = true) (hN : X.N.Nodup) (hy : X.N[i]? = some y) (hyl : X.env.scope.names.lookup y = some .local)
    (hsw : swapsWith (.ListComp elt [⟨tg, e, ifs, 0⟩] scope pos) (some (.Name y py)) spos.line X.env = pure true) (hi : PXI K G W X tg e ei) (ok : BlkOk X.N X.env.scope scope own) (hs0 : ∀ i ∈ ns, i ∈ own.map (·.2))
    (hg : ∃ g, (∀ (s : Shared) (H : Hp) (C : Addr) (cl : List (Str × Addr)) (fp : List Addr), PG (X.blk s H scope (compEnvC scope cl C X.env) fp) tg g) ∧ SnG K G ns g eg)
    (ht : ∀ (s : Shared) (H : Hp) (C : Addr) (cl : List (Str × Addr)) (fp : List Addr), PXTs K G (X.blk s H scope (compEnvC scope cl C X.env) fp) ifs et)
    (he : ∀ (s : Shared) (H : Hp) (C : Addr) (cl : List (Str × Addr)) (fp : List Addr), PX K G WF (X.blk s H scope (compEnvC scope cl C X.env) fp) elt ev) (hs : ∀ x, foldedSetIterable e X.env x = pure x := by intro _; rfl) :
    PXS K G W X (.Assign [.Name y py] (.ListComp elt [⟨tg, e, ifs, 0⟩] scope pos) spos) (sAsg (if M then eCompM ei eg et ev (own.map (·.2)) else eComp ei eg et ev (own.map (·.2))) (gNm i)) := by
  obtain ⟨g, g1, g2⟩ := hg
  refine pxS (ps_setLc hc hN hy hyl hsw hi ok g1 ht he hs) (snS_asg ?_ (snG_name i))
  cases M
  · exact sn_comp PXI.sn g2 hs0 snT_of sn_of
  · exact sn_compM PXI.sn g2 hs0 snT_of sn_of
/-! statements -/
theorem xs_next : PXB K G W X [] sNext := pxB pss_nil snS_next
theorem xs_cons (h1 : PXS K G W X st A) (h2 : PXB K G W X sts B) : PXB K G W X (st :: sts) (sSeq A B) := pxB (pss_cons h1 h2) (snS_seq snS_of snS_of)
theorem xs_one (h1 : PXS K G W X st A) : PXB K G W X [st] A := pss_one h1
theorem xs_break : PXS K G W X (.Break pos) sBreak := pxS ps_break snS_break
theorem xs_cont : PXS K G W X (.Continue pos) sCont := pxS ps_continue snS_cont
theorem xs_pass : PXS K G W X (.Pass pos) sNext := pxS ps_pass snS_next
theorem xs_expr (h : PX K G W X e ev) (hs : swapsWith e none pos.line X.env = pure false := by rfl) : PXS K G W X (.Expr e pos) (sExpr ev) := pxS (ps_expr h hs) (snS_expr sn_of)
theorem xs_ret (h : PX K G W X e ev) : PXS K G W X (.Return (some e) pos) (sRet ev) := pxS (ps_ret h) (snS_ret sn_of)
theorem xs_retN : PXS K G W X (.Return none pos) sRetN := pxS ps_retN snS_retN
def sNever : ES := fun _ _ => .bad
theorem snS_never : SnS K G W tNever sNever := fun m b h hp σ s ok sl Z p => p.elim
theorem xs_never : PXS K G W X st sNever := pxS ps_never snS_never
theorem xs_if (hc : PXT K G W X c et) (h1 : PXB K G W X sts A) {sts2 : List Stmt} (h2 : PXB K G W X sts2 B) : PXS K G W X (.If c sts sts2 pos) (sIf et A B) := pxS (ps_if hc h1 h2) (snS_if snT_of snS_of snS_of)
theorem xs_asg (h : PX K G W X e ev) (hg : PXG K G X ns tg eg) (hs : swapsWithSole [tg] e pos.line X.env = pure false := by rfl) (hw : swappedStores [tg] e X.env = pure none := by rfl)
    (h1 : (assignEach [tg] X.env).map (·.2) = [assign tg X.env] := by rfl) : PXS K G W X (.Assign [tg] e pos) (sAsg ev eg) := by
  obtain ⟨g, g1, g2⟩ := hg
  exact pxS (ps_asg h g1 hs hw h1) (snS_asg sn_of g2)
theorem xs_set {i : Nat} {pos' : Pos} (hN : X.N.Nodup) (hi : X.N[i]? = some x) (hx : Loc X.env.scope x) (h : PX K G W X e ev) (hs : swapsWith e (some (.Name x pos')) pos.line X.env = pure false := by rfl) (hf : X.fn x = true ∨ X.env.scope.names.lookup x = some .local := by first | exact .inl rfl | exact .inr rfl | assumption) :
    PXS K G W X (.Assign [.Name x pos'] e pos) (sAsg ev (gNm i)) := pxS (ps_set hN hi hx h hs hf) (snS_asg sn_of (snG_name i))
theorem xs_par {i j : Nat} {y : Str} {px' py pt : Pos} {kt k2 pt2} (hc : X.calm = true) (hN : X.N.Nodup) (hi : X.N[i]? = some x) (hj : X.N[j]? = some y) (hij : i ≠ j) (hx : X.env.scope.names.lookup x = some .local) (hy : X.env.scope.names.lookup y = some .local) (ha : PXN K G W X [a, b] er 2)
    (hw : swappedStores [.Tuple [.Name x px', .Name y py] kt pt] (.Tuple [a, b] k2 pt2) X.env = pure (some [x, y])) (hs : swapsWithSole [.Tuple [.Name x px', .Name y py] kt pt] (.Tuple [a, b] k2 pt2) pos.line X.env = pure false := by rfl) :
    PXS K G W X (.Assign [.Tuple [.Name x px', .Name y py] kt pt] (.Tuple [a, b] k2 pt2) pos) (sPar i j er) := pxS (ps_par hc hN hi hj hij hx hy ha.pa hw hs) (snS_par snA_of ha.ar)
theorem xs_par3 {i j l : Nat} {y z : Str} {px' py pz pt : Pos} {kt k2 pt2} (hc : X.calm = true) (hN : X.N.Nodup) (hi : X.N[i]? = some x) (hj : X.N[j]? = some y) (hl : X.N[l]? = some z) (hij : i ≠ j) (hil : i ≠ l) (hjl : j ≠ l) (hx : X.env.scope.names.lookup x = some .local) (hy : X.env.scope.names.lookup y = some .local) (hz : X.env.scope.names.lookup z = some .local) (ha : PXN K G W X [a, b, c] er 3)
    (hw : swappedStores [.Tuple [.Name x px', .Name y py, .Name z pz] kt pt] (.Tuple [a, b, c] k2 pt2) X.env = pure (some [x, y, z])) (hs : swapsWithSole [.Tuple [.Name x px', .Name y py, .Name z pz] kt pt] (.Tuple [a, b, c] k2 pt2) pos.line X.env = pure false := by rfl) :
    PXS K G W X (.Assign [.Tuple [.Name x px', .Name y py, .Name z pz] kt pt] (.Tuple [a, b, c] k2 pt2) pos) (sPar3 i j l er) := pxS (ps_par3 hc hN hi hj hl hij hil hjl hx hy hz ha.pa hw hs) (snS_par3 snA_of ha.ar)
theorem xs_aug {i : Nat} {op : Operator} {ti : TIp} {f : List O → D → D → Option D} {pos' : Pos} (hN : X.N.Nodup) (hi : X.N[i]? = some x) (hx : Loc X.env.scope x) (h : PX K G W X e ev) (ho : PIp X op ti) (hf : OpOk K G ti f) (hf' : X.fn x = true ∨ X.env.scope.names.lookup x = some .local := by first | exact .inl rfl | exact .inr rfl | assumption) :
    PXS K G W X (.AugAssign (.Name x pos') op e pos) (sAug i f ev) := pxS (ps_aug hN hi hx h ho hf') (snS_aug hf sn_of)
def fAddI (hp : List O) (d1 d2 : D) : Option D := match d1, d2 with
  | .int i, .int j => some (.int (i + j))
  | _, _ => none
theorem ok_augAdd : OpOk K G (ipI fun i j => i + j) fAddI := fun m b h hp x y d1 d2 d ok r1 r2 e Q q => by
  cases r1 <;> cases r2 <;> cases e
  exact ⟨_, _, rfl, rfl, q _ b h (Fr.rfl' ok.sub) (.int _)⟩
theorem ok_augSub : OpOk K G (ipI fun i j => i - j) fSub := fun m b h hp x y d1 d2 d ok r1 r2 e Q q => by
  cases r1 <;> cases r2 <;> cases e
  exact ⟨_, _, rfl, rfl, q _ b h (Fr.rfl' ok.sub) (.int _)⟩
theorem xs_for (hp : PassesOwn (model X.prog X.w) X.A X.env X.xe) (hc : X.calm = true) (hi : PXI K G W X tg e ei) (hg : PXG K G X ns tg eg) (hb : PXB K G W X sts A) (hs : ∀ x, foldedSetIterable e X.env x = pure x := by intro _; rfl) : PXS K G W X (.For tg e sts [] pos) (sFor ei eg A) := by
  obtain ⟨g, g1, g2⟩ := hg
  exact pxS (ps_for hp hc hi g1 hb hs) (snS_for PXI.sn g2 snS_of)
theorem xs_while (hp : PassesOwn (model X.prog X.w) X.A X.env X.xe) (hc : PXT K G W X c et) (hb : PXB K G W X sts A) : PXS K G W X (.While c sts [] pos) (sWhile et A) := pxS (ps_while hp hc hb) (snS_while snT_of snS_of)
theorem xapp {apos cpos : Pos} (hK : X.K = K) (ho : PX K G W X a ea) (hb : PX K G W X b eb) (hbase : attributeBase a "append" X.env (eval a X.env) = eval a X.env := by rfl)
    (hfew : ((backTo cpos (starEach [b] X.env)).all (fun x => !x.1) && (backToKw cpos (keywordEach [] X.env)).all (fun x => x.1.isSome)
      && decide ([b].length + ([] : List Keyword).length + (if ([] : List Keyword).isEmpty then 0 else 1) < 30)) = true := by rfl)
    (hline : (apos.endLine == cpos.line) = true := by rfl) (hs : starEach [b] X.env = (false, eval b X.env) :: starEach [] X.env := by rfl) (hplain : (backTo cpos (starEach ([] : List Expr) X.env)).any (·.1) = false := by rfl) : PX K G W X (.Call (.Attribute a "append" apos) [b] [] cpos) (eApp ea eb) := by
  subst hK
  exact px (pe_bm PySem.F.plainAttrs_list PySem.F.slot_list_append PySem.F.type_list_append mt_append ho (pa_cons hb pa_nil hs) hbase hfew hline hs hplain) (sn_app sn_of sn_of)
end
end EV

namespace EV
open PySem L2 DV
section
variable {K : PySem.W.Frag} {G : Gs} {W : WX} {X : Cx}
theorem rd_fn {m : List Addr} {b : Hp} {i : Nat} {a : Addr} (h : G.fa i = a) : RD K G m b (.ref a) (.fn i) := by subst h; exact .fn i
theorem xs_nevers {sts : List Stmt} : PXB K G W X sts sNever := pxB pss_never snS_never
end
section
variable {P : Program} {w : World} {K : PySem.W.Frag} {G : Gs} {mg : Str → Option Value} {base : Heap} {CX : CXT}
theorem fnOk_bad {k : Nat} {f : Addr} {fd : FuncData} {ps : List Str} {n : Nat} : FnOk P w K mg base CX k f fd ps (spEv K G (fun _ _ => .bad) n) := by
  refine ⟨fun vs H Q E h => ?_, fun A outer s H args us vs Q E _ _ _ _ h => ?_⟩
  · obtain ⟨_, _, _, _, _, _, _, p⟩ := h
    exact p.elim
  · obtain ⟨_, _, _, _, _, _, _, p⟩ := h
    exact p.elim
end
end EV
namespace EV
open PySem L2 DV
/-! a def that hands back a list that may change -/
def truncM (n : Nat) (d : D) (hp : List O) : RE := match d with
  | .ref k => if k < n then trunc n d hp else if cutOk n hp then (match hp[k]? with
    | some (.lst xs) => if belows n xs then .ok (.ref n) (hp.take n ++ [.lst xs]) else .ok d hp
    | some o => if belows n (subs o) then .ok (.ref n) (hp.take n ++ [o]) else .ok d hp
    | none => .bad) else .ok d hp
  | _ => trunc n d hp
def runM (n : Nat) (body : ES) : List D → List O → RE := fun ds hp => match body (startE n ds) hp with
  | .nx _ hp1 => .ok .non (cutH hp.length hp1)
  | .rt d hp1 => truncM hp.length d hp1
  | .exc x _ hp1 => if lowFs hp.length x.fs then .exc x (cutH hp.length hp1) else .bad
  | _ => .bad
section
variable {K : PySem.W.Frag} {G : Gs} {W : WX} {m m' : List Addr} {b h b' h' : Hp} {hp hp' : List O}
theorem Ok.notin (ok : Ok K G m b h hp) {a : Addr} (n : h a = none) : a ∉ m := fun z => by
  obtain ⟨i, lt, e3⟩ := List.mem_iff_getElem.mp z
  have e1 : m[i]? = some a := by rw [List.getElem?_eq_getElem lt, e3]
  have lt2 : i < hp.length := by rw [← ok.len]; exact lt
  obtain ⟨_, r⟩ := ok.ob i a _ e1 (List.getElem?_eq_getElem lt2)
  obtain ⟨_, q, _⟩ := r.there
  rw [n] at q; cases q
theorem truncM_ok {d : D} {Q : VK} {E : XK} (ok : Ok K G m b h hp) (p : PostE K G m b h (truncM hp.length d hp') Q E) : ∀ v m' b' h', Stp m b h m' b' h' → Ok K G m' b' h' hp' → RD K G m' b' v d → Q v h' := fun v m' b' h' x ok' r => by
  unfold truncM at p
  cases d with
  | ref k =>
    dsimp only at p
    split at p
    · exact trunc_ok ok p v m' b' h' x ok' r
    · rename_i hkn
      by_cases hco : cutOk hp.length hp' = true
      case neg => rw [if_neg hco] at p; exact p v m' b' h' x ok' r
      rw [if_pos hco] at p
      have core : ∀ o : O, hp'[k]? = some o → belows hp.length (subs o) = true → PostE K G m b h (.ok (.ref hp.length) (hp'.take hp.length ++ [o])) Q E → Q v h' := fun o e hc p => by
        cases r with
        | @ref a _ em =>
          have han : h a = none := by
            obtain ⟨ms, e2, n2⟩ := x.pre
            rw [e2, List.getElem?_append_right (by rw [ok.len]; omega)] at em
            exact n2 a (List.mem_of_getElem? em)
          obtain ⟨nb, ro⟩ := ok'.ob k a _ em e
          have okc := cut_ok x ok ok' hco
          have am := ok.notin han
          refine p _ (m ++ [a]) b' h' (x.back.add han) (okc.add nb am (ro.map (fun u e => e) (fun u e => e) fun vs q => cut_rds' x ok q hc)) (.ref ?_)
          have hl := okc.len
          rw [← ok.len, List.getElem?_append_right (Nat.le_refl _)]
          simp
      split at p
      · rename_i xs e
        split at p
        · rename_i hc
          exact core _ e hc p
        · exact p v m' b' h' x ok' r
      · rename_i o _ e
        split at p
        · rename_i hc
          exact core _ e hc p
        · exact p v m' b' h' x ok' r
      · exact p.elim
  | _ => exact trunc_ok ok p v m' b' h' x ok' r
theorem runM_ok {n : Nat} {ev : ES} {m : List Addr} {b H : Hp} {hp : List O} {ds : List D} {Q : VK} {E : XK} (ok : Ok K G m b H hp) (p : PostE K G m b H (runM n ev ds hp) Q E) :
    PostS K G m b H (ev (startE n ds) hp) { nx := fun _ H' => Q .non H', rt := Q } (fun cls d _ H => E cls d H) := by
  cases e : ev (startE n ds) hp with
  | rt d hp1 =>
    unfold runM at p
    rw [e] at p
    exact truncM_ok ok p
  | _ =>
    have q : PostE K G m b H (runB n ev ds hp) Q E := by
      unfold runM at p
      unfold runB
      rw [e] at p ⊢
      exact p
    have := run_ok ok q
    rw [e] at this
    exact this
end
section
variable {P : Program} {w : World} {K : PySem.W.Frag} {G : Gs} {mg : Str → Option Value} {base : Heap}
theorem fn_evM {x qual : Str} {st : Stmt} {f : Addr} {fd : FuncData} {N ps : List Str} {k : Nat} {ev : ES} (F : Fun K x qual st f fd) (S : FnScope N ps (defScope st))
    (hB : ∀ (cdv : Value) (A : Around) (outer : List Env) (s : Shared) (H : Hp) (E : XK), Room k (A.deeper (PyProof.Rows.envOfC qual (defScope st) s.heap.objs.size f cdv)) →
      Takes (cxOf (L2.CX P w) P w K mg base N qual (defScope st) f cdv A outer s H E) (fun cls d _ H => E cls d H) →
      PassesOwn (model P w) (A.deeper (PyProof.Rows.envOfC qual (defScope st) s.heap.objs.size f cdv)) (PyProof.Rows.envOfC qual (defScope st) s.heap.objs.size f cdv) (cxOf (L2.CX P w) P w K mg base N qual (defScope st) f cdv A outer s H E).xe →
      PXB K G (fun cls d _ H => E cls d H) (cxOf (L2.CX P w) P w K mg base N qual (defScope st) f cdv A outer s H E) (defBody st) ev) :
    FnOk P w K mg base (L2.CX P w) (k + 1) f fd ps (spEv K G (runM N.length ev) ps.length) := by
  refine F.okX S (fun vs H Q E h => ?_) fun cdv A outer s H vs Q E hr h => ?_
  · obtain ⟨m, b, hp, ds, ok, r, hl, _⟩ := h
    rw [r.length, hl]
  · obtain ⟨m, b, hp, ds, ok, r, hl, p⟩ := h
    refine ⟨_, hB cdv A outer s H E hr (takes_of rfl rfl rfl rfl) (passes_of rfl), m, b, hp, _, ok, Sls.start r N, runM_ok ok p⟩
end
end EV

namespace EV
open PySem L2 DV
def fPow (hp : List O) (d1 d2 : D) : Option D := match d1, d2 with
  | .int i, .int j => if decide (0 ≤ j ∧ j ≤ 1000) && decide (i.natAbs < 2 ^ 64) then some (.int (i ^ j.toNat)) else none
  | _, _ => none
/-- a text's method -/
def eSM (f : Str → List D → Option D) (eo : EE) (er : EA) : EE := fun s hp => match eo s hp with
  | .ok (.str x) hp1 => (match er s hp1 with
    | .ok ds hp2 => (match f x ds with
      | some d => .ok d hp2
      | none => .bad)
    | .exc e hp2 => .exc e hp2
    | .bad => .bad)
  | .exc e hp1 => .exc e hp1
  | _ => .bad
def SmOk (K : PySem.W.Frag) (G : Gs) (r : V → List V → Hp → VK → Prop) (f : Str → List D → Option D) : Prop := ∀ m b h hp x xs ds d, Ok K G m b h hp → RDs K G m b xs ds → f x ds = some d → ∀ Q : VK, (∀ v b' h', Fr [] b h b' h' → RD K G m b' v d → Q v h') → r (.str x) xs h Q
def fRemP (x : Str) (ds : List D) : Option D := match ds with
  | [.str y] => if x.length ≤ 100000 then some (.str (Txt.removeprefix x y)) else none
  | _ => none
section
variable {K : PySem.W.Frag} {G : Gs} {W : WX} {X : Cx} {e a b : Expr} {ea eb ev ei eo : EE} {pos : Pos} {ta tb tc to ti : TE}
theorem ok_pow : OpOk K G (rI CPow fun i j => .int (i ^ j.toNat)) fPow := fun m b h hp x y d1 d2 d ok r1 r2 e Q q => by
  cases d1 <;> cases d2 <;> try (cases e; done)
  cases r1; cases r2
  unfold fPow at e
  dsimp only at e
  split at e
  · rename_i hc
    rw [Bool.and_eq_true, decide_eq_true_eq, decide_eq_true_eq] at hc
    cases e
    exact ⟨_, _, rfl, rfl, ⟨hc.1.1, Int.le_trans hc.1.2 (by decide), hc.2⟩, q _ b h (Fr.rfl' ok.sub) (.int _)⟩
  · cases e
theorem xpow (ha : PX K G W X a ea) (hb : PX K G W X b eb) : PX K G W X (.BinOp a .Pow b pos) (eBin fPow ea eb) := xop op_pow ok_pow ha hb
theorem sn_sm {r : V → List V → Hp → VK → Prop} {f : Str → List D → Option D} {tr : TA} {er : EA} (hf : SmOk K G r f) (ho : SnE K G W to eo) (ha : SnA K G W tr er) : SnE K G W (tBM K "str" r to tr) (eSM f eo er) := fun m b h hp σ s ok sl Q p => by
  refine ho m b h hp σ s ok sl _ ?_
  unfold eSM at p
  cases e : eo s hp with
  | ok d hp1 =>
    rw [e] at p
    cases d with
    | str x =>
      dsimp only at p
      intro v m1 b1 h1 x1 ok1 r1
      cases r1
      refine ⟨rfl, ha m1 b1 h1 hp1 σ s ok1 (sl.go x1) _ ?_⟩
      cases e2 : er s hp1 with
      | ok ds hp2 =>
        rw [e2] at p
        dsimp only at p
        intro w m2 b2 h2 x2 ok2 r2
        cases e3 : f x ds with
        | some d3 =>
          rw [e3] at p
          exact hf m2 b2 h2 hp2 x w ds d3 ok2 r2 e3 Q fun z b3 h3 F r3 => p z m2 b3 h3 ((x1.trans x2).trans (Stp.pure F)) (ok2.pure F) r3
        | none => rw [e3] at p; exact p.elim
      | exc x hp2 =>
        rw [e2] at p
        exact fun c dx m2 b2 h2 x2 => p c dx m2 b2 h2 (x1.trans x2)
      | bad => rw [e2] at p; exact p.elim
    | _ => exact p.elim
  | exc x hp1 => rw [e] at p; exact p
  | bad => rw [e] at p; exact p.elim
theorem sm_remp : SmOk K G (fun x xs H Q => ∃ a b, x = .str a ∧ xs = [.str b] ∧ a.length ≤ sizeLine ∧ Q (.str (Txt.removeprefix a b)) H) fRemP := fun m b h hp x xs ds d ok r e Q q => by
  unfold fRemP at e
  split at e
  · rename_i y
    split at e
    · rename_i hl
      cases e
      obtain ⟨v, rfl, r1⟩ := r.len1
      cases r1
      exact ⟨x, y, rfl, rfl, Nat.le_trans hl (by decide), q _ b h (Fr.rfl' ok.sub) (.str _)⟩
    · cases e
  · cases e
theorem xsm {id : String} {name : Str} {r : V → List V → Hp → VK → Prop} {f : Str → List D → Option D} {er : EA} {n : Nat} {es : List Expr} {apos cpos : Pos} (hK : X.K = K) (slot : Slot "str" name id) (hty : typeOf (.builtin id) = pure (.type "method_descriptor")) (hm : MtR X id r) (hf : SmOk K G r f) (ho : PX K G W X a ea) (ha : PXN K G W X (b :: es) er n)
    (hbase : attributeBase a name X.env (eval a X.env) = eval a X.env := by rfl)
    (hfew : ((backTo cpos (starEach (b :: es) X.env)).all (fun x => !x.1) && (backToKw cpos (keywordEach [] X.env)).all (fun x => x.1.isSome)
      && decide ((b :: es).length + ([] : List Keyword).length + (if ([] : List Keyword).isEmpty then 0 else 1) < 30)) = true := by rfl)
    (hline : (apos.endLine == cpos.line) = true := by rfl) (hs : starEach (b :: es) X.env = (false, eval b X.env) :: starEach es X.env := by rfl) (hplain : (backTo cpos (starEach es X.env)).any (·.1) = false := by rfl) : PX K G W X (.Call (.Attribute a name apos) (b :: es) [] cpos) (eSM f ea er) := by
  subst hK
  exact px (pe_bm PySem.F.plainAttrs_str slot hty hm ho ha.pa hbase hfew hline hs hplain) (sn_sm hf sn_of snA_of)
theorem snS_set (ha : SnE K G W ta ea) (ho : SnE K G W to eo) (hi : SnE K G W ti ei) : SnS K G W (tAsg ta (gSub to ti rSetL)) (sSet ea eo ei) := fun m b h hp σ s ok sl Z p => by
  refine ha m b h hp σ s ok sl _ ?_
  unfold sSet at p
  cases e : ea s hp with
  | ok d hp1 =>
    rw [e] at p
    dsimp only at p
    intro v m1 b1 h1 x1 ok1 r1
    refine ho m1 b1 h1 hp1 σ s ok1 (sl.go x1) _ ?_
    cases e2 : eo s hp1 with
    | ok d2 hp2 =>
      rw [e2] at p
      cases d2 with
      | ref n =>
        dsimp only at p
        intro w m2 b2 h2 x2 ok2 r2
        refine hi m2 b2 h2 hp2 σ s ok2 ((sl.go x1).go x2) _ ?_
        cases e3 : ei s hp2 with
        | ok d3 hp3 =>
          rw [e3] at p
          cases d3 with
          | int k =>
            dsimp only at p
            intro z m3 b3 h3 x3 ok3 r3
            cases r3
            cases o : hp3[n]? with
            | none => rw [o] at p; exact p.elim
            | some ob =>
              cases ob with
              | lst xs =>
                rw [o] at p
                dsimp only at p
                cases e4 : ixN xs.length k with
                | none => rw [e4] at p; exact p.elim
                | some j =>
                  rw [e4] at p
                  dsimp only at p
                  obtain ⟨a, vs, rfl, em, hv, rv⟩ := ref_at ok3 (r2.go x3) o
                  obtain ⟨ok4, st4⟩ := ok3.mut em o (RDs.set ((r1.go x2).go x3) j rv)
                  have st := ((x1.trans x2).trans x3).trans st4
                  exact ⟨a, vs, k, j, rfl, rfl, hv, by rw [rv.length]; exact e4, p σ m3 b3 _ st ok4 (sl.go st)⟩
              | _ => rw [o] at p; exact p.elim
          | _ => exact p.elim
        | exc x hp3 =>
          rw [e3] at p
          exact fun cls dx m3 b3 h3 x3 ok3 => p cls dx σ m3 b3 h3 ((x1.trans x2).trans x3) ok3 (sl.go ((x1.trans x2).trans x3))
        | bad => rw [e3] at p; exact p.elim
      | _ => exact p.elim
    | exc x hp2 =>
      rw [e2] at p
      exact fun cls dx m2 b2 h2 x2 ok2 => p cls dx σ m2 b2 h2 (x1.trans x2) ok2 (sl.go (x1.trans x2))
    | bad => rw [e2] at p; exact p.elim
  | exc x hp1 =>
    rw [e] at p
    exact fun cls dx m1 b1 h1 x1 ok1 => p cls dx σ m1 b1 h1 x1 ok1 (sl.go x1)
  | bad => rw [e] at p; exact p.elim
theorem xs_setix {o i : Expr} {pos' : Pos} (ha : PX K G W X a ea) (ho : PX K G W X o eo) (hi : PX K G W X i ei) (hass : ∀ v, assign (.Subscript o i pos') X.env v = (do let ov ← holding [v] (eval o X.env); let iv ← holding [v, ov] (eval i X.env); standAt pos'; holding [v, ov, iv] (setItem ov iv v); release [v, ov, iv] []) := by intro _; rfl) (hs : swapsWithSole [.Subscript o i pos'] a pos.line X.env = pure false := by rfl) (hw : swappedStores [.Subscript o i pos'] a X.env = pure none := by rfl)
    (h1 : (assignEach [.Subscript o i pos'] X.env).map (·.2) = [assign (.Subscript o i pos') X.env] := by rfl) : PXS K G W X (.Assign [.Subscript o i pos'] a pos) (sSet ea eo ei) := pxS (ps_asg ha (pg_sub ho hi set_list hass) hs hw h1) (snS_set sn_of sn_of sn_of)
end
end EV

/-! errors of the program's own, over ValueError or LookupError, with one field or none -/
namespace EV
open PyProof.Rows PySem PySem.W PySem.Calls
structure BaseF (B newId initId : String) (bmB : List Value) : Prop where
  F : ExcBaseFacts B newId initId bmB
  pass : ∀ self, refuseLoop self "__setattr__" bmB = pure ()
  hob : bmB.contains (.type "object") = true
  ty : typeOf (.type B) = pure (.type "type")
theorem baseVE : BaseF "ValueError" "ValueError.__new__" "ValueError.__init__" [.type "ValueError", .type "Exception", .type "BaseException", .type "object"] :=
  ⟨PySem.F.excBase_ValueError, fun self => PySem.F.store_ValueError.passes self, by decide +kernel, by kernel_rfl⟩
theorem baseLE : BaseF "LookupError" "LookupError.__new__" "LookupError.__init__" [.type "LookupError", .type "Exception", .type "BaseException", .type "object"] :=
  ⟨PySem.F.excBase_LookupError, fun self => PySem.F.store_LookupError.passes self, by decide +kernel, by kernel_rfl⟩
/-- the class at C lies right above the built-in B -/
structure OxC (K : PySem.W.Frag) (C : Addr) (newId : String) (bmB : List Value) : Prop where
  cls : ∃ nm q N bs sn sub ab col dd k0 k1 k2 k3 k5, K.lookup C = some (excClassObj nm q C N bs bmB true sn sub ab col dd k0 k1 k2 k3 k5 newId)
  rest : PySem.W.findIn K (.ref C) "__setattr__" = some (some (.builtin "object.__setattr__")) ∧ PySem.W.subIn K (.ref C) (.type "BaseException") = some true ∧ PySem.W.typeIn K (.ref C) = some (.type "type") ∧ PySem.W.keepIn K (.ref C) = true
theorem OxC.raises {X : L2.Cx} {C : Addr} {newId : String} {bmB : List Value} (T : OxC X.K C newId bmB) : L2.Raises X (.ref C) := L2.raises_own T.rest.2.1 T.rest.2.2.1
theorem OxC.data {K : PySem.W.Frag} {C : Addr} {newId : String} {bmB : List Value} (T : OxC K C newId bmB) : ∃ cd : ClassData, PySem.W.clsIn K C = some cd ∧ cd.mro = .ref C :: bmB ∧ cd.hasDict = true := by
  rcases T.cls with ⟨n1, n2, N, l1, n3, l2, b1, o1, o2, o3, o4, o5, o6, o7, look⟩
  exact ⟨{ name := n1, bases := l1, mro := .ref C :: bmB, ns := N, qualname := n2, hasDict := true, slotNames := n3, subclasses := l2, abstract := b1, collection := o1, hasDel := false }, by unfold PySem.W.clsIn; rw [look] <;> rfl, rfl, rfl⟩
/-- an error without a dict stands at e in the heap z, its class known to K -/
structure Plain (K : PySem.W.Frag) (z : Heap) (e C : Addr) (vs : Array Value) (bmB : List Value) (cd : ClassData) : Prop where
  kin : K.In z
  here : z.get? e = some { cls := .ref C, data := .fields vs }
  cd_ : PySem.W.clsIn K C = some cd
  way : cd.mro = .ref C :: bmB
  open_ : cd.hasDict = true
section
open Builtin.ObjectAttr Builtin
variable {prog : Program} {w : World} {K : PySem.W.Frag} {z : Heap} {e C : Addr} {vs : Array Value} {cd : ClassData} {B newId initId : String} {bmB : List Value}
theorem Plain.inst (p : Plain K z e C vs bmB cd) : PySem.W.InstAt z e { cls := .ref C, data := .fields vs } C none := ⟨p.here, rfl, rfl, trivial⟩
theorem Plain.object (p : Plain K z e C vs bmB cd) (F : BaseF B newId initId bmB) : PySem.W.Looks (model prog w) z (isInstance (.ref e) (.type "object")) true := by
  refine p.inst.type.andThen (PySem.W.looks_mroIn p.kin ?_)
  have ne : ¬ cd.mro.isEmpty = true := by rw [p.way]; exact Bool.false_ne_true
  unfold PySem.W.mroIn
  rw [p.cd_, Option.bind_some, if_neg ne, p.way, List.contains_cons, F.hob, Bool.or_true]
theorem Plain.along (p : Plain K z e C vs bmB cd) : PySem.W.Looks (model prog w) z (mroOf (.ref C)) (.ref C :: bmB) := by
  have q : PySem.W.Looks (model prog w) z (mroOf (.ref C)) cd.mro := (PySem.W.looks_clsIn p.kin p.cd_).andThen .now
  rwa [p.way] at q
/-- the dict that the first field brings: new, one entry -/
structure Grown (z z' : Heap) (e C d : Addr) (vs : Array Value) (f : Str) (v : Value) : Prop where
  old : ∀ b o, b ≠ e → z.get? b = some o → z'.get? b = some o
  new : z.objs.size ≤ d
  off : d ≠ e
  obj : z'.get? e = some { cls := .ref C, dict := some d, data := .fields vs }
  ns : z'.Ns1 d (fun y => if y = f then some v else none)
variable {A : Around} {E : Value → Shared → Prop} {R : Result → Shared → Prop} {g : Array GenState} {dr : Drawn} {t : Nat} {os : OsState} {f : Str} {tk : Tok} {v : Value}
theorem Plain.own (p : Plain K z e C vs bmB cd) {P : Fin → Shared → Prop} (fin : ∀ z' t' d, Grown z z' e C d vs f v → P (.done (.ret .none)) ⟨z', g, dr, t', os⟩) :
    PySem.wpAny (model prog w) A (storeInOwnDict (.ref e) (.ref C) (.str f tk) f v false) P E ⟨z, g, dr, t, os⟩ := by
  have away : e ≠ z.objs.size := Nat.ne_of_lt (Heap.lt_size p.here)
  have known : PySem.W.Looks (model prog w) z (classData C) cd := PySem.W.looks_clsIn p.kin p.cd_
  have here := p.here
  have od := p.open_
  rcases cd with ⟨c1, c2, c3, c4, c5, c6, c7, c8, c9, c10, c11⟩
  simp only at od
  subst od
  unfold storeInOwnDict
  unfold ownDictForStores
  repeat (first | (with_reducible refine HandSPX.store_in_new ?_ ?_) | (with_reducible refine wpAny_loadPart_at here ?_) | (with_reducible refine known.at ?_) | wp_step)
  · exact ⟨_, #[], _, (Heap.get?_update_ne _ _ _ _ (Ne.symm away)).trans (Heap.get?_push_at rfl rfl), rfl, fun x hx => absurd hx (by simp), fun _ => rfl⟩
  · intro z2 t2 one same
    have there : (z.push { cls := .type "dict", data := .dict #[] }).get? e = some { cls := .ref C, data := .fields vs } := Heap.get?_push_of_some _ p.here
    refine fin z2 t2 z.objs.size ⟨fun b o ne q => ?_, Nat.le_refl _, Ne.symm away, ?_, one⟩
    · exact (same.2 b (Nat.ne_of_lt (Heap.lt_size q))).trans (by rw [Heap.get?_update_ne _ _ _ _ ne]; exact Heap.get?_push_of_some _ q)
    · rw [same.2 e away]
      exact Heap.get?_update_self _ there rfl
/-- self.f = v on an error that has no dict yet, its class right above a built-in one -/
theorem Plain.put (p : Plain K z e C vs bmB cd) (F : BaseF B newId initId bmB) (free : PySem.W.findIn K (.ref C) f = some none) (fin : ∀ z' t' d, Grown z z' e C d vs f v → R (.ok (.ret .none)) ⟨z', g, dr, t', os⟩) :
    codeAny (model prog w) A (.call (.builtin "object.__setattr__") ⟨[.ref e, .str f tk, v], []⟩) R ⟨z, g, dr, t, os⟩ := by
  have ob := PySem.F.store_object
  have none_ : PySem.W.Looks (model prog w) z (storeTaker? none) none := .now
  refine codeAny_call_builtin ob.slot.plain ob.entry ?_
  refine @PySem.W.check_slot (model prog w) _ _ ⟨z, g, dr, t, os⟩ _ _ _ _ _ _ _ ob.kind ob.split (p.object F) (ob.args _ _ _) ?_
  rw [PySem.W.osa_eq, refuse_eq]
  refine wpAny_bind (wpAny_bind (p.inst.type.at ?_))
  refine wpAny_bind (p.along.at ?_)
  rw [refuseLoop_ref, F.pass]
  refine wpAny_pure (wpAny_bind (p.inst.type.at ?_))
  refine wpAny_bind ((PySem.W.looks_findIn p.kin free).at ?_)
  exact wpAny_bind (none_.at (p.own fin))
end
end EV
namespace EV
open PySem L2 DV PySem.Spec PyProof.Rows
/-- how the tracked heap changes where an error gets its first field -/
def withF (H : Hp) (a C d : Addr) (f : Str) (y : V) : Hp := upd (upd H d (exd d [(f, y)])) a (exo a C (some d))
section
variable {X : Cx} {pins : List (Addr × Obj)} {σ : L2.St} {H : Hp} {s : Shared} {a C d : Addr} {f : Str} {y : V} {u : Value} {B newId initId : String} {bmB : List Value}
theorem withF_off {b : Addr} (h1 : b ≠ a) (h2 : b ≠ d) : withF H a C d f y b = H b := by
  unfold withF
  rw [upd_ne h1, upd_ne h2]
/-- what stands in H as another kind than an error and is not new stays -/
theorem withF_keep {b : Addr} {o : HO} (e : H a = some (exo a C none)) (n : H d = none) (ne : exo a C none ≠ o) (q : H b = some o) : withF H a C d f y b = some o := by
  rw [withF_off (at_ne e q ne) (ne_of_none q n)]
  exact q
theorem Grown.tracked {z z' : Heap} {t1 : Addr} (I : Inv X pins σ H s) (ez : s.heap = z) (e : H a = some (exo a C none)) (ry : RelV y u) (w : Grown z z' a C d #[.ref t1, .none, .none, .none, .bool false, .none] f u) (t' : Nat) :
    H d = none ∧ Inv X pins σ (withF H a C d f y) ⟨z', s.gens, s.drawn, t', s.os⟩ := by
  obtain ⟨hz, hg, hd, ht, ho⟩ := s
  simp only at ez
  subst ez
  have n : H d = none := I.hok.fresh w.new
  have other : ∀ {b : Addr}, H b = none → b ≠ a := fun {b} hb eq => by
    subst eq
    rw [hb] at e
    exact absurd e (fun x => nomatch x)
  have far : ∀ {b : Addr} {o : Obj}, hz.get? b = some o → b ≠ d := fun {b o} q eq => absurd (Heap.lt_size q) (Nat.not_lt.mpr (eq ▸ w.new))
  refine ⟨n, I.un (t' := t') ?_ ?_⟩
  · exact {
      free := fun b o q hb _ => (withF_off (other hb) (far q)).trans hb
      keep := fun b o q hb _ _ => w.old b o (other hb) q
      slot := fun b o q hb _ _ => ⟨o.slots, w.old b o (other hb) q⟩
      there := fun b o q _ => if hb : b = a then ⟨_, hb ▸ w.obj⟩ else ⟨o, w.old b o hb q⟩
      tups := fun b xs q => withF_keep e n exo_tup q
      frzs := fun b o v q => withF_keep e n exo_frz q
      tbls := fun b ps q => ⟨#[], (withF_keep e n exo_tbl q).trans (by simp)⟩ }
  · intro b o q
    unfold withF at q
    by_cases hb : b = a
    · rw [hb, upd_same] at q
      cases q
      rw [hb]
      exact exo_ok w.obj
    rw [upd_ne hb] at q
    by_cases hc : b = d
    · rw [hc, upd_same] at q
      cases q
      rw [hc]
      exact exd_ok w.ns (relO_put (fs := []) ry fun _ => True.intro)
    rw [upd_ne hc] at q
    refine (I.hok b o q).stay (fun c v hv x => w.old c v ?_ x) (fun c x => withF_keep e n exo_own x) (fun c xs x => withF_keep e n exo_tup x)
    exact hv.elim (fun x => x ▸ hb) fun x => at_ne e x exo_own
/-- self.f = y, the first field -/
theorem fld_new {Q : Unit → Shared → Prop} {E : Value → Shared → Prop} {A : Around} (F : BaseF B newId initId bmB) (T : OxC X.K C newId bmB) (I : Inv X pins σ H s) (e : H a = some (exo a C none)) (hno : PySem.W.findIn X.K (.ref C) f = some none) (ry : RelV y u)
    (h : ∀ d s', H d = none → d ≠ a → Inv X pins σ (withF H a C d f y) s' → Q () s') : wpAny (model X.prog X.w) A (setAttr (.ref a) f u) Q E s := by
  obtain ⟨cd, c1, c2, c3⟩ := T.data
  obtain ⟨t1, stands⟩ := exo_at I.hok e
  have p : Plain X.K s.heap a C #[.ref t1, .none, .none, .none, .bool false, .none] bmB cd := ⟨I.kIn, stands, c1, c2, c3⟩
  refine PySem.W.set_plain I.kIn p.inst T.rest.1 ?_
  refine p.put (g := s.gens) (dr := s.drawn) (t := s.toks + 1) (os := s.os) F hno fun z' t' d w => ?_
  obtain ⟨n, J⟩ := w.tracked I rfl e ry t'
  exact h d _ n w.off J
/-- B.__init__(self, ..): nothing of it is told -/
theorem base_init {us : List Value} {Q : Value → Shared → Prop} {E : Value → Shared → Prop} {A : Around} (F : BaseF B newId initId bmB) (T : OxC X.K C newId bmB) (I : Inv X pins σ H s) (e : H a = some (exo a C none)) (short : us.length ≤ sizeLine) (fin : ∀ s', Inv X pins σ H s' → Q .none s') :
    wpAny (model X.prog X.w) A (call (.builtin initId) (.ref a :: us)) Q E s := by
  rcases T.cls with ⟨_, _, _, _, _, _, _, _, _, _, _, _, _, _, look⟩
  obtain ⟨t1, stands⟩ := exo_at I.hok e
  have same : upd H a (exo a C none) = H := funext fun b => if hb : b = a then by rw [hb, upd_same, e] else upd_ne hb
  refine wpAny_call (PySem.HandSPX.init_base F.F (fun _ => rfl) (I.kIn _ _ look) stands short fun z t2 old obj => ?_)
  have J := I.write (h' := z) (t' := s.toks) (x := a) (e := a) (o := exo a C none) (e ▸ True.intro) (.inl rfl) old ⟨_, obj⟩ (exo_ok obj)
  exact fin _ (same ▸ J)
end
/-- B.__init__(self, ..): the reading -/
def rIni (K : PySem.W.Frag) (newId : String) (bmB : List Value) : List V → Hp → VK → Prop := fun vs H Q =>
  ∃ (a C : Addr) (ws : List V), vs = .ref a :: ws ∧ ws.length ≤ 1000 ∧ OxC K C newId bmB ∧ H a = some (exo a C none) ∧ Q .non H
abbrev tIni (K : PySem.W.Frag) (newId : String) (bmB : List Value) (ta : TA) : TE := tCB (rIni K newId bmB) ta
/-- self.f = e, the first field -/
def tFld (K : PySem.W.Frag) (newId : String) (bmB : List Value) (f : Str) (to te : TE) : TS := fun D σ H => te σ H fun y H1 => to σ H1 fun x H2 =>
  ∃ a C : Addr, x = .ref a ∧ OxC K C newId bmB ∧ PySem.W.findIn K (.ref C) f = some none ∧ H2 a = some (exo a C none) ∧ ∀ d, H2 d = none → d ≠ a → D.nx σ (withF H2 a C d f y)
section
variable {X : Cx} {o e : Expr} {es : List Expr} {to te : TE} {ta : TA} {f x : Str} {p p' p1 p2 pos : Pos} {B newId initId : String} {bmB : List Value}
theorem ps_fld (F : BaseF B newId initId bmB) (ho : PE X o to) (he : PE X e te) (hs : swapsWith e (some (.Attribute o f p')) pos.line X.env = pure false := by rfl) : PS X (.Assign [.Attribute o f p'] e pos) (tFld X.K newId bmB f to te) where
  run := fun pins s σ H D I h => by
    refine plainObj_wpAny_Assign_Attribute (thn (he.run pins s σ H _ I h) ?_) hs
    rintro v1 s1 ⟨y, H1, I1, r1, q1⟩
    refine thn (ho.run pins s1 σ H1 _ I1 q1) ?_
    rintro v2 s2 ⟨_, H2, I2, r2, a, C, rfl, T, free, ea, q⟩
    cases r2
    exact fld_new F T I2 ea free r1 fun d s' n ne J => ⟨σ, _, J, q d n ne⟩
/-- B.__init__ as it is called -/
theorem call_ini (F : BaseF B newId initId bmB) : CallR X (.builtin initId) (rIni X.K newId bmB) := by
  rintro pins s σ H _ us Q I r ⟨a, C, ws, rfl, short, T, ea, q⟩
  cases r with
  | cons r1 r2 =>
    cases r1
    refine base_init F T I ea ?_ fun s' J => ⟨.non, H, J, rfl, q⟩
    have := Paired.length r2
    rw [sizeLine_eq]
    omega
theorem at_VE : NwS.TyAt "ValueError" "__init__" "ValueError.__init__" := ⟨by decide +kernel, by kernel_rfl, fun K => by kernel_rfl, by decide +kernel⟩
theorem at_LE : NwS.TyAt "LookupError" "__init__" "LookupError.__init__" := ⟨by decide +kernel, by kernel_rfl, fun K => by kernel_rfl, by decide +kernel⟩
theorem bt_VE : bootBuiltins "ValueError" = some (.type "ValueError") := by kernel_rfl
theorem bt_LE : bootBuiltins "LookupError" = some (.type "LookupError") := by kernel_rfl
end
end EV

/-! own errors: __init__, the making, raise -/
namespace EV
open PySem L2 DV
open PyProof.Rows hiding St
def FmtV (y : V) : Prop := (∃ i : Int, y = .int i ∧ i.natAbs.log2 < 1920) ∨ ∃ x : Str, y = .str x ∧ (reprText x).length ≤ 200000
/-- what an own error's __init__ promises: fo its one field, if it has one -/
def spI (K : PySem.W.Frag) (newId : String) (bmB : List Value) (fo : Option Str) : Sp := fun vs H Q _ => match fo with
  | none => ∃ a C : Addr, vs = [.ref a] ∧ OxC K C newId bmB ∧ H a = some (exo a C none) ∧ Q .non H
  | some f => ∃ (a C : Addr) (y : V), vs = [.ref a, y] ∧ OxC K C newId bmB ∧ PySem.W.findIn K (.ref C) f = some none ∧ H a = some (exo a C none) ∧ FmtV y ∧ ∀ d, H d = none → d ≠ a → Q .non (upd (upd H d (exd d [(f, y)])) a (exo a C (some d)))
/-! an object is let go: the heap without it -/
structure Off (G z : Heap) (a : Addr) : Prop where
  as : ∀ b, b ≠ a → G.get? b = z.get? b
  no : G.get? a = none
theorem off_ex (z : Heap) (a : Addr) : ∃ G, Off G z a := by
  obtain ⟨G, q1, q2⟩ := restrict z fun b => decide (b ≠ a)
  exact ⟨G, fun b ne => q1 b (decide_eq_true ne), q2 a (decide_eq_false fun x => x rfl)⟩
theorem Off.sub {G z : Heap} {a : Addr} (f : Off G z a) (b : Addr) (o : Obj) (q : G.get? b = some o) : z.get? b = some o := by
  by_cases ne : b = a
  · rw [ne, f.no] at q
    exact nomatch q
  · rw [← f.as b ne]; exact q
section
variable {P : Program} {w : World} {fs : List Addr} {H1 H2 : Hp} {h0 h1 h2 G : Heap} {a C : Addr} {d : Option Addr} {o1 : HO}
theorem Un.without (u : Un fs [] (upd H1 a o1) H2 h1 h2) (f : Off G h2 a) (new : h0.objs.size ≤ a) (n : H1 a = none) (old : ∀ b o, h0.get? b = some o → h1.get? b = some o) : Un fs [] H1 (del H2 a) h0 G := by
  have ne : ∀ {b o}, h0.get? b = some o → b ≠ a := fun {b o} q x => absurd (Heap.lt_size q) (Nat.not_lt.mpr (x ▸ new))
  have free : ∀ {b o}, h0.get? b = some o → H1 b = none → upd H1 a o1 b = none := fun q z => (upd_ne (ne q)).trans z
  have other : ∀ {b o}, H1 b = some o → upd H1 a o1 b = some o := fun q => (upd_ne (ne_of_none q n)).trans q
  have left_ : ∀ {b o}, H1 b = some o → ∀ {o2}, H2 b = some o2 → del H2 a b = some o2 := fun {b o} q {o2} x => (del_ne (ne_of_none q n)).trans x
  constructor
  case keep => exact fun b o q z m1 m2 => (f.as b (ne q)).trans (u.keep b o (old b o q) (free q z) m1 m2)
  case slot => exact fun b o q z m1 m2 => (u.slot b o (old b o q) (free q z) m1 m2).imp fun _ x => (f.as b (ne q)).trans x
  case free => exact fun b o q z m => (del_ne (ne q)).trans (u.free b o (old b o q) (free q z) m)
  case there => exact fun b o q m => (u.there b o (old b o q) m).imp fun _ x => (f.as b (ne q)).trans x
  case tups => exact fun b xs q => left_ q (u.tups b xs (other q))
  case frzs => exact fun b o v q => left_ q (u.frzs b o v (other q))
  case tbls => exact fun b ps q => (u.tbls b ps (other q)).imp fun _ x => left_ q x
theorem HOk.without (x : HOk P w H2 h2) (e : H2 a = some (exo a C d)) (f : Off G h2 a) : HOk P w (del H2 a) G := by
  have stays : ∀ {c o}, exo a C d ≠ o → H2 c = some o → del H2 a c = some o := fun ne q => (del_ne (at_ne e q ne)).trans q
  intro b o q
  have ne : b ≠ a := fun z => by rw [z, del_same] at q; exact nomatch q
  rw [del_ne ne] at q
  refine (x b o q).stay (fun c v at_ y => (f.as c ?_).trans y) (fun c => stays exo_own) fun c xs => stays exo_tup
  exact at_.elim (fun z => z ▸ ne) fun z => at_ne e z exo_own
end
section
variable {X : Cx} {pins : List (Addr × Obj)} {σ : St} {H1 H2 : Hp} {h0 h1 h2 : Heap} {g0 g2 : Array GenState} {d0 d2 : Drawn} {t0 t2 : Nat} {o0 o2 : OsState} {a C d : Addr} {fs : List (Str × V)}
/-- the making's end without a field: the error is let go -/
theorem let_go (I : Inv X pins σ H1 ⟨h0, g0, d0, t0, o0⟩) (new : h0.objs.size ≤ a) (old : ∀ b o, h0.get? b = some o → h1.get? b = some o) (u : Un (frs X.stack) [] (upd H1 a (exo a C none)) H2 h1 h2)
    (ok : HOk X.prog X.w H2 h2) (os : o2 = o0) (bare : AllBare g2) (e : H2 a = some (exo a C none)) :
    ∃ (T : Addr) (G : Heap), Off G h2 a ∧ Inv X pins σ (del H2 a) ⟨G, g2, d2, t2, o2⟩ ∧ h2.get? a = some ({ cls := .ref C, dict := none, data := .fields #[.ref T, .none, .none, .none, .bool false, .none] } : Obj) := by
  obtain ⟨T, stands⟩ := exo_at ok e
  obtain ⟨G, f⟩ := off_ex h2 a
  have un := Un.without u f new (I.hok.fresh new) old
  exact ⟨T, G, f, Inv.call' (ch := []) I os un (HOk.without ok e f) bare (fun _ z => nomatch z), stands⟩
theorem del_upd {H : Hp} {a : Addr} {o : HO} (n : H a = none) : del (upd H a o) a = H := by
  funext b
  by_cases hb : b = a
  · rw [hb, del_same, n]
  · rw [del_ne hb, upd_ne hb]
theorem upd_del {H : Hp} {a d : Addr} {o1 o2 o3 : HO} (n : H a = none) : upd (del (upd (upd H d o1) a o2) a) d o3 = upd H d o3 := by
  funext b
  by_cases hb : b = d
  · rw [hb, upd_same, upd_same]
  · rw [upd_ne hb, upd_ne hb]
    by_cases ha : b = a
    · rw [ha, del_same, n]
    · rw [del_ne ha, upd_ne ha, upd_ne hb]
end
section
variable {X : Cx} {x : Str} {es : List Expr} {C fI : Addr} {k : Nat} {fd : FuncData} {ps : List Str} {fo : Option Str} {ta : TA} {p pos : Pos} {B newId initId : String} {bmB : List Value}
/-- the heap where C(..) has laid the arguments' tuple and the error -/
def born (z : Heap) (us : List Value) (C : Addr) : Heap := (z.push (PySem.W.kdv_tup us)).push (PySem.HandSPX.excO C z.objs.size)
theorem born_old {z : Heap} {us : List Value} {C : Addr} (b : Addr) (o : Obj) (q : z.get? b = some o) : (born z us C).get? b = some o := by
  unfold born
  exact Heap.get?_push_of_some _ (Heap.get?_push_of_some _ q)
theorem born_at {z : Heap} {us : List Value} {C : Addr} : (born z us C).get? (z.objs.size + 1) = some (PySem.HandSPX.excO C z.objs.size) := by unfold born; heap_get
theorem Inv.born {X : Cx} {pins : List (Addr × Obj)} {σ : St} {H : Hp} {s : Shared} (I : Inv X pins σ H s) (us : List Value) (C : Addr) :
    Inv X pins σ (upd H (s.heap.objs.size + 1) (exo (s.heap.objs.size + 1) C none)) ⟨EV.born s.heap us C, s.gens, s.drawn, s.toks, s.os⟩ :=
  Inv.laid (t' := s.toks) I born_old (Nat.le_succ _) (exo_ok born_at)
/-- what the caller of the making wishes -/
def Wish (Q : XK) (C : Addr) (fo : Option Str) (vs : List V) (H : Hp) : Prop := match fo with
  | none => vs = [] ∧ Q (.ref C) none H
  | some f => ∃ y, vs = [y] ∧ FmtV y ∧ ∀ d, H d = none → Q (.ref C) (some d) (upd H d (.xd [(f, y)]))
/-- how __init__ leaves the tracked heap -/
def Left (Q : XK) (C n : Addr) (H : Hp) (v : V) (H2 : Hp) : Prop := v = .non ∧ ((H2 = upd H n (exo n C none) ∧ Q (.ref C) none H) ∨
  ∃ f y d, H2 = withF (upd H n (exo n C none)) n C d f y ∧ (H d = none ∧ d ≠ n) ∧ Q (.ref C) (some d) (upd H d (.xd [(f, y)])))
theorem Wish.spI {K : PySem.W.Frag} {Q : XK} {C n : Addr} {vs : List V} {H : Hp} (q : Wish Q C fo vs H) (T : OxC K C newId bmB) (free : ∀ f, fo = some f → PySem.W.findIn K (.ref C) f = some none) :
    EV.spI K newId bmB fo (V.ref n :: vs) (upd H n (exo n C none)) (Left Q C n H) (fun _ _ _ => False) := by
  cases fo with
  | none =>
    obtain ⟨rfl, q⟩ := q
    exact ⟨n, C, rfl, T, upd_same, rfl, .inl ⟨rfl, q⟩⟩
  | some f =>
    obtain ⟨y, rfl, hf, q⟩ := q
    refine ⟨n, C, y, rfl, T, free f rfl, upd_same, hf, fun d hd ne => ?_⟩
    rw [upd_ne ne] at hd
    exact ⟨rfl, .inr ⟨f, y, d, rfl, ⟨hd, ne⟩, q d hd⟩⟩
theorem Wish.short {Q : XK} {C : Addr} {vs : List V} {H : Hp} (q : Wish Q C fo vs H) : vs.length ≤ 1 := by
  cases fo with
  | none => rw [q.1]; exact Nat.zero_le _
  | some f => obtain ⟨y, e, _⟩ := q; rw [e]; exact Nat.le_refl _
theorem made_here {X : Cx} {pins : List (Addr × Obj)} {σ : St} {Q : XK} {H : Hp} {n T C : Addr} {d : Option Addr} {G h2 : Heap} {g2 : Array GenState} {d2 : Drawn} {t2 : Nat} {o2 : OsState} (J : Inv X pins σ H ⟨G, g2, d2, t2, o2⟩) (sub : ∀ b o, G.get? b = some o → h2.get? b = some o) (no : G.get? n = none)
    (stands : h2.get? n = some ({ cls := .ref C, dict := d, data := .fields #[.ref T, .none, .none, .none, .bool false, .none] } : Obj)) (free : H n = none) (bare : AllBare g2) (r : Raises X (.ref C)) (q : Q (.ref C) d H) : MkP X pins σ Q (.ref n) ⟨h2, g2, d2, t2, o2⟩ :=
  ⟨n, _, _, ⟨G, g2, d2, t2, o2⟩, H, .ref C, d, rfl, J, sub, no, stands, ⟨rfl, rfl⟩, rfl, rfl, free, rfl, bare, r, q⟩
theorem Left.done {X : Cx} {pins : List (Addr × Obj)} {σ : St} {Q : XK} {H H2 : Hp} {n : Addr} {v : V} {h0 h1 h2 : Heap} {g0 g2 : Array GenState} {d0 d2 : Drawn} {t0 t2 : Nat} {o0 o2 : OsState} (q : Left Q C n H v H2) (T : OxC X.K C newId bmB) (I : Inv X pins σ H ⟨h0, g0, d0, t0, o0⟩)
    (new : h0.objs.size ≤ n) (old : ∀ b o, h0.get? b = some o → h1.get? b = some o) (u : Un (frs X.stack) [] (upd H n (exo n C none)) H2 h1 h2) (ok : HOk X.prog X.w H2 h2) (os : o2 = o0) (bare : AllBare g2) : MkP X pins σ Q (.ref n) ⟨h2, g2, d2, t2, o2⟩ := by
  have free : H n = none := I.hok.fresh new
  rcases q with ⟨_, ⟨rfl, q⟩ | ⟨f, y, d, rfl, ⟨nd, ne⟩, q⟩⟩
  · obtain ⟨T', G, off, J, stands⟩ := let_go (d2 := d2) (t2 := t2) I new old u ok os bare upd_same
    rw [del_upd free] at J
    exact made_here J off.sub off.no stands free bare T.raises q
  · have at_d : withF (upd H n (exo n C none)) n C d f y d = some (exd d [(f, y)]) := (upd_ne ne).trans upd_same
    obtain ⟨T', G, J, sub, no, stands, _⟩ := mk_end0 (d2 := d2) (t2 := t2) I new old u ok os bare upd_same at_d nd
    have eq : upd (del (withF (upd H n (exo n C none)) n C d f y) n) d (.xd [(f, y)]) = upd H d (.xd [(f, y)]) := funext fun b => by
      by_cases e1 : b = d
      · rw [e1, upd_same, upd_same]
      rw [upd_ne e1, upd_ne e1]
      by_cases e2 : b = n
      · rw [e2, del_same, free]
      · rw [del_ne e2, withF_off e2 e1, upd_ne e2]
    rw [eq] at J
    exact made_here J sub no stands ((upd_ne ne.symm).trans free) bare T.raises q
theorem ox_call {pins : List (Addr × Obj)} {σ : St} {H1 : Hp} {Q : XK} {s1 : Shared} {vs : List V} {us : List Value} (F : BaseF B newId initId bmB) (T : OxC X.K C newId bmB) (iC : PySem.W.findIn X.K (.ref C) "__init__" = some (some (.ref fI))) (tI : PySem.W.typeIn X.K (.ref fI) = some (.type "function")) (hno : ∀ f, fo = some f → PySem.W.findIn X.K (.ref C) f = some none)
    (F1 : FnOk X.prog X.w X.K X.mg X.base (L2.CX X.prog X.w) k fI fd ps (spI X.K newId bmB fo)) (hr : Room (k + 1) X.A) (hb : Binds X.K fd ps []) (hx : Passes (L2.CX X.prog X.w) X (fun _ _ _ => False)) (I1 : Inv X pins σ H1 s1) (r1 : Vals vs us) (q1 : Wish Q C fo vs H1) :
    PySem.wpAny (model X.prog X.w) X.A (call (.ref C) us) (MkP X pins σ Q) X.xe s1 := by
  rcases T.cls with ⟨_, _, _, _, _, _, _, _, _, _, _, _, _, _, look⟩
  have J := Inv.born I1 us C
  have sp := q1.spI (n := s1.heap.objs.size + 1) T hno
  have rel : Vals (V.ref (s1.heap.objs.size + 1) :: vs) (.ref (s1.heap.objs.size + 1) :: us) := .cons rfl r1
  have many : (Value.ref (s1.heap.objs.size + 1) :: us).length = ps.length := rel.length.symm.trans (F1.len _ _ _ _ sp)
  have few : us.length ≤ sizeLine := by
    have := q1.short
    have := Paired.length r1
    rw [sizeLine_eq]
    omega
  have bound := hb ⟨EV.born s1.heap us C, s1.gens, s1.drawn, s1.toks, s1.os⟩ (.ref (s1.heap.objs.size + 1) :: us) J.kIn (by rw [List.append_nil]; exact many)
  rw [List.append_nil] at bound
  refine wpAny_call ?_
  refine PySem.HandSPX.call_own (h := s1.heap) (g := s1.gens) (d := s1.drawn) (t := s1.toks) (os := s1.os) F.F (fun _ => rfl) (I1.kIn _ _ look) (PySem.W.looks_findIn I1.kIn iC) (fun self => PySem.W.bind_fn I1.kIn self tI) few ?_
  refine codeAny_mono (F1.run _ X.stack _ _ ⟨.ref (s1.heap.objs.size + 1) :: us, []⟩ _ _ (Left Q C (s1.heap.objs.size + 1) H1) (fun _ _ _ => False) (hr.make C us []) (J.env0.make C us []) bound rel sp) fun r s' fin => ?_
  rcases r with er | fl
  · exact hx pins σ _ _ er s' J fin
  · cases fl with
    | ret u =>
      obtain ⟨v, H2, os, bare, un, ok, rv, fin⟩ := fin
      have eu : v = .non := fin.1
      subst eu
      exact ⟨rv, fin.done T I1 (Nat.le_succ _) born_old un ok os bare⟩
    | _ => exact fin.elim
def tMkB (C : Addr) (fo : Option Str) (ta : TA) : St → Hp → XK → Prop := fun σ H Q => ta σ H (Wish Q C fo)
theorem pmk_ox0 (F : BaseF B newId initId bmB) (T : OxC X.K C newId bmB) (iC : PySem.W.findIn X.K (.ref C) "__init__" = some (some (.ref fI))) (tI : PySem.W.typeIn X.K (.ref fI) = some (.type "function"))
    (F1 : FnOk X.prog X.w X.K X.mg X.base (L2.CX X.prog X.w) k fI fd ps (spI X.K newId bmB none)) (hr : Room (k + 1) X.A) (hb : Binds X.K fd ps []) (hx : Passes (L2.CX X.prog X.w) X (fun _ _ _ => False)) (hg : Gl X x) (hm : X.mg x = some (.ref C))
    (hdb : (x == ("__debug__" : Str)) = false := by decide) : PMk X (.Call (.Name x p) [] [] pos) (tMkB C none tNil) := by
  intro pins s σ H Q I h
  refine wpAny_Call_Name_kw (ld_glob (hd := hdb) I hg hm ?_)
  exact PySem.W.callWith_K0 (first := []) I.kIn T.rest.2.2.2 (ox_call (us := []) F T iC tI (fun f e => by cases e) F1 hr hb hx I .nil h)
theorem pmk_ox1 {e : Expr} {f : Str} (F : BaseF B newId initId bmB) (T : OxC X.K C newId bmB) (iC : PySem.W.findIn X.K (.ref C) "__init__" = some (some (.ref fI))) (tI : PySem.W.typeIn X.K (.ref fI) = some (.type "function")) (hno : PySem.W.findIn X.K (.ref C) f = some none)
    (F1 : FnOk X.prog X.w X.K X.mg X.base (L2.CX X.prog X.w) k fI fd ps (spI X.K newId bmB (some f))) (hr : Room (k + 1) X.A) (hb : Binds X.K fd ps []) (hx : Passes (L2.CX X.prog X.w) X (fun _ _ _ => False)) (hg : Gl X x) (hm : X.mg x = some (.ref C)) (ha : PA X (e :: es) ta)
    (hdb : (x == ("__debug__" : Str)) = false := by decide) (he : starEach (e :: es) X.env = (false, eval e X.env) :: starEach es X.env := by rfl) (hpl : (backTo pos (starEach es X.env)).any (·.1) = false := by rfl) : PMk X (.Call (.Name x p) (e :: es) [] pos) (tMkB C (some f) ta) := by
  intro pins s σ H Q I h
  refine wpAny_Call_Name_kw (ld_glob (hd := hdb) I hg hm ?_)
  exact PySem.W.callWith_K (first := []) I.kIn T.rest.2.2.2 (thn (ha.run pos pins s σ H _ I h) fun us s1 ⟨vs, H1, I1, r1, q1⟩ => ⟨I1.kIn, ox_call F T iC tI (fun f' e => by cases e; exact hno) F1 hr hb hx I1 r1 q1⟩) he hpl
end
end EV

/-! raise and try, read -/
namespace EV
open PySem L2 DV
/-! __init__ -/
section
variable {P : Program} {w : World} {K : PySem.W.Frag} {mg : Str → Option Value} {base : Heap} {x qual : Str} {st : Stmt} {f : Addr} {fd : FuncData} {newId : String} {bmB : List Value}
theorem ini0 {n1 m : Str} (F : Fun K x qual st f fd) (S : FnScope [n1] [n1] (defScope st))
    (hB : ∀ (cdv : Value) (A : Around) (outer : List Env) (s : Shared) (H : Hp) (E : XK), PSs (cxOf (L2.CX P w) P w K mg base [n1] qual (defScope st) f cdv A outer s H E) (defBody st) (tDrop (tIni K newId bmB (tCons (tVar 0) (tCons (tC (.str m)) tNil))))) :
    FnOk P w K mg base (L2.CX P w) 1 f fd [n1] (spI K newId bmB none) := by
  refine F.okX S (fun vs H Q E h => ?_) fun cdv A outer s H vs Q E hr h => ⟨_, hB cdv A outer s H E, ?_⟩
  · obtain ⟨a, C, rfl, _⟩ := h; rfl
  · obtain ⟨a, C, rfl, T, e, q⟩ := h
    exact ⟨.ref a, rfl, a, C, [.str m], rfl, Nat.le_of_ble_eq_true rfl, T, e, q⟩
theorem ini1 {n1 n2 m fl : Str} (F : Fun K x qual st f fd) (S : FnScope [n1, n2] [n1, n2] (defScope st)) (hm : m.length ≤ 1000)
    (hB : ∀ (cdv : Value) (A : Around) (outer : List Env) (s : Shared) (H : Hp) (E : XK), PSs (cxOf (L2.CX P w) P w K mg base [n1, n2] qual (defScope st) f cdv A outer s H E) (defBody st)
      (tSeq (tDrop (tIni K newId bmB (tCons (tVar 0) (tCons (fun σ H Q => tJs [tC (.str m), tFmtR (tVar 1)] Str.empty σ H fun out H1 => Q (.str out) H1) tNil)))) (tFld K newId bmB fl (tVar 0) (tVar 1)))) :
    FnOk P w K mg base (L2.CX P w) 1 f fd [n1, n2] (spI K newId bmB (some fl)) := by
  refine F.okX S (fun vs H Q E h => ?_) fun cdv A outer s H vs Q E hr h => ⟨_, hB cdv A outer s H E, ?_⟩
  · obtain ⟨a, C, y, rfl, _⟩ := h; rfl
  · obtain ⟨a, C, y, rfl, T, hno, e, hf, q⟩ := h
    have l1 : (Str.empty ++ m).length ≤ sizeLine := by
      rw [Str.length_append, sizeLine_eq]
      have : Str.empty.length = 0 := rfl
      omega
    have fin : ∀ out : Str, tIni K newId bmB (tCons (tC (.ref a)) (tCons (tC (.str out)) tNil)) (start [n1, n2] [.ref a, y]) H (fun _ H1 => tFld K newId bmB fl (tVar 0) (tVar 1) { nx := fun _ H' => Q .non H', rt := Q } (start [n1, n2] [.ref a, y]) H1) := fun out =>
      ⟨a, C, [.str out], rfl, Nat.le_of_ble_eq_true rfl, T, e, ⟨y, rfl, .ref a, rfl, a, C, rfl, T, hno, e, q⟩⟩
    refine ⟨.ref a, rfl, m, rfl, l1, y, rfl, ?_⟩
    rcases hf with ⟨i, rfl, hi⟩ | ⟨z, rfl, hz⟩
    · refine .inr ⟨i, rfl, hi, toString i, rfl, ?_, fin _⟩
      have e := int_text_length_le (k := 1920) (by decide) hi
      rw [Str.length_append, Str.length_append, ofString_length, sizeLine_eq]
      have : Str.empty.length = 0 := rfl
      omega
    · refine .inl ⟨z, rfl, ?_, reprText z, rfl, ?_, fin _⟩
      · rw [sizeLine_eq]; omega
      · rw [Str.length_append, Str.length_append, sizeLine_eq]
        have : Str.empty.length = 0 := rfl
        omega
end

/-! raise -/
def fmtD : D → Bool
  | .int i => decide (i.natAbs.log2 < 1920)
  | .str x => decide (10 * x.length + 2 ≤ 200000) && x.cps.toList.all fun c => decide (c < 4294967296)
  | _ => false
def excOf (c : Nat) (fo : Option Str) (ds : List D) : Option Xc := match fo, ds with
  | none, [] => some ⟨c, []⟩
  | some f, [d] => if fmtD d then some ⟨c, [(f, d)]⟩ else none
  | _, _ => none
def sRaise (c : Nat) (fo : Option Str) (ea : EA) : ES := fun s hp => match ea s hp with
  | .ok ds hp1 => (match excOf c fo ds with
    | some x => .exc x s hp1
    | none => .bad)
  | .exc x hp1 => .exc x s hp1
  | .bad => .bad
section
variable {K : PySem.W.Frag} {G : Gs} {m m1 : List Addr} {b h b1 h1 : Hp} {hp : List O}
theorem fmtD_ok {y : V} {d : D} (r : RD K G m b y d) (e : fmtD d = true) : FmtV y := by
  cases r with
  | int i => exact .inl ⟨i, rfl, of_decide_eq_true e⟩
  | str x =>
    unfold fmtD at e
    rw [Bool.and_eq_true, decide_eq_true_eq] at e
    refine .inr ⟨x, rfl, Nat.le_trans (StrLaws.reprText_len x fun c hc => ?_) e.1⟩
    exact of_decide_eq_true (List.all_eq_true.mp e.2 c hc)
  | _ => cases e
theorem Ok.freshX (ok : Ok K G m b h hp) {p : Addr} {o : HO} (hp' : h p = none) : Ok K G m b (upd h p o) hp := by
  refine ⟨(Fr.fresh (B := []) ok.sub hp').sub, ok.nd, ok.len, fun i a ob e1 e2 => ?_⟩
  obtain ⟨n, r⟩ := ok.ob i a ob e1 e2
  refine ⟨n, ?_⟩
  obtain ⟨u0, eu, _⟩ := r.there
  have ne : a ≠ p := fun z => by rw [z, hp'] at eu; cases eu
  exact r.map (fun u e => by rw [upd_ne ne]; exact e) (fun u e => e) fun vs q => q
theorem Stp.fresh (e : Same b h) {p : Addr} {o : HO} (hp' : h p = none) : Stp m b h m b (upd h p o) := ⟨Fr.fresh e hp', [], (List.append_nil m).symm, fun _ z => by cases z⟩
theorem XR.go {x : Xc} {cls : Value} {d : Option Addr} (st : Stp m b h m1 b1 h1) (r : XR K G m b h x cls d) : XR K G m1 b1 h1 x cls d := by
  obtain ⟨e1, r⟩ := r
  refine ⟨e1, ?_⟩
  rcases r with r | ⟨dd, vs, q1, q2, q3, q4, q5, q6⟩
  · exact .inl r
  · obtain ⟨ms, em, nm⟩ := st.pre
    refine .inr ⟨dd, vs, q1, st.fr.out dd q2 (by rw [q4]; rfl), ?_, st.fr.keep dd _ q2 q3 q4, q5, q6.go st⟩
    rw [em]
    intro z
    rcases List.mem_append.mp z with z | z
    · exact q3 z
    · rw [nm dd z] at q4; cases q4
end
section
variable {K : PySem.W.Frag} {G : Gs} {W : WX} {X : Cx} {x : Str} {es : List Expr} {er : EA} {C fI : Addr} {k : Nat} {fd : FuncData} {ps : List Str} {fo : Option Str} {p pos pos' : Pos} {B newId initId : String} {bmB : List Value} {c n : Nat}
theorem xs_raise_of {ta : TA} (hK : X.K = K) (hc : X.calm = true) (tk : Takes X W) (hG : G.ca c = C) (hs : SnA K G W ta er) (hp : PMk X (.Call (.Name x p) es [] pos) (tMkB C fo ta)) : PXS K G W X (.Raise (some (.Call (.Name x p) es [] pos)) none pos') (sRaise c fo er) := by
  subst hK
  refine pxS (ps_raise hc tk hp) fun m b h hp σ s ok sl Z q => ?_
  refine hs m b h hp σ s ok sl _ ?_
  unfold sRaise at q
  cases e : er s hp with
  | ok ds hp1 =>
    rw [e] at q
    dsimp only at q
    cases e2 : excOf c fo ds with
    | none => rw [e2] at q; exact q.elim
    | some xc =>
      rw [e2] at q
      intro vs m1 b1 h1 x1 ok1 r1
      cases fo with
      | none =>
        cases r1 with
        | nil => 
          cases e2
          exact ⟨rfl, q _ _ σ m1 b1 h1 x1 ok1 (sl.go x1) ⟨by rw [hG], .inl ⟨rfl, rfl⟩⟩⟩
        | cons _ _ => cases e2
      | some f =>
        cases r1 with
        | nil => cases e2
        | @cons v vs d ds r rs =>
          cases rs with
          | cons _ _ => cases e2
          | nil =>
            unfold excOf at e2
            dsimp only at e2
            split at e2
            · rename_i hf
              cases e2
              refine ⟨_, rfl, fmtD_ok r hf, fun dd hd => ?_⟩
              have st : Stp m1 b1 h1 m1 b1 (upd h1 dd (.xd [(f, v)])) := Stp.fresh ok1.sub hd
              exact q _ _ σ m1 b1 _ (x1.trans st) (ok1.freshX hd) ((sl.go x1).go st) ⟨by rw [hG], .inr ⟨dd, _, rfl, ok1.sub.free hd, ok1.notin hd, upd_same, rfl, .cons r .nil⟩⟩
            · cases e2
  | exc xc hp1 =>
    rw [e] at q
    exact fun cls dx m1 b1 g1 x1 ok1 => q cls dx σ m1 b1 g1 x1 ok1 (sl.go x1)
  | bad => rw [e] at q; exact q.elim
/-- raise C() -/
theorem xs_raise0 (F : BaseF B newId initId bmB) (hK : X.K = K) (hc : X.calm = true) (tk : Takes X W) (hG : G.ca c = C) (T : OxC X.K C newId bmB) (iC : PySem.W.findIn X.K (.ref C) "__init__" = some (some (.ref fI))) (tI : PySem.W.typeIn X.K (.ref fI) = some (.type "function"))
    (F1 : FnOk X.prog X.w X.K X.mg X.base (L2.CX X.prog X.w) k fI fd ps (spI X.K newId bmB none)) (hr : Room (k + 1) X.A) (hb : Binds X.K fd ps []) (hx : Passes (L2.CX X.prog X.w) X (fun _ _ _ => False)) (hg : Gl X x) (hm : X.mg x = some (.ref C))
    (hdb : (x == ("__debug__" : Str)) = false := by decide) : PXS K G W X (.Raise (some (.Call (.Name x p) [] [] pos)) none pos') (sRaise c none aNil) :=
  xs_raise_of hK hc tk hG snA_nil (pmk_ox0 F T iC tI F1 hr hb hx hg hm hdb)
/-- raise C(e) -/
theorem xs_raise1 {e : Expr} {f : Str} (F : BaseF B newId initId bmB) (hK : X.K = K) (hc : X.calm = true) (tk : Takes X W) (hG : G.ca c = C) (T : OxC X.K C newId bmB) (iC : PySem.W.findIn X.K (.ref C) "__init__" = some (some (.ref fI))) (tI : PySem.W.typeIn X.K (.ref fI) = some (.type "function")) (hno : PySem.W.findIn X.K (.ref C) f = some none)
    (F1 : FnOk X.prog X.w X.K X.mg X.base (L2.CX X.prog X.w) k fI fd ps (spI X.K newId bmB (some f))) (hr : Room (k + 1) X.A) (hb : Binds X.K fd ps []) (hx : Passes (L2.CX X.prog X.w) X (fun _ _ _ => False)) (hg : Gl X x) (hm : X.mg x = some (.ref C)) (ha : PXN K G W X [e] er n)
    (hdb : (x == ("__debug__" : Str)) = false := by decide) (he : starEach [e] X.env = (false, eval e X.env) :: starEach [] X.env := by rfl) (hpl : (backTo pos (starEach [] X.env)).any (·.1) = false := by rfl) : PXS K G W X (.Raise (some (.Call (.Name x p) [e] [] pos)) none pos') (sRaise c (some f) er) :=
  xs_raise_of hK hc tk hG snA_of (pmk_ox1 F T iC tI hno F1 hr hb hx hg hm ha.pa hdb he hpl)
end
end EV

/-! try: several clauses 'except C as n' -/
namespace EV
open PySem L2 DV
open PyProof.Rows hiding St
def endsAs (D : Ends) (i : Nat) : Ends := { nx := fun σ' H' => D.nx (σ'.set i none) H', rt := D.rt, bk := fun σ' H' => D.bk (σ'.set i none) H', ct := fun σ' H' => D.ct (σ'.set i none) H' }
/-- what the clauses wish of an error of the body, one after the other -/
def wManyAs (K : PySem.W.Frag) (Wout : WX) (D : Ends) : List (Value × Nat × (Addr → Value → Option Addr → TS)) → WX
  | [] => Wout
  | (c, i, ts) :: r => fun cls d σ H => ∃ b, PySem.W.exmOne K cls c = some b ∧ (b = true → ∀ a, H a = none → ts a cls d (endsAs D i) (σ.set i (some (.ref a))) H) ∧ (b = false → wManyAs K Wout D r cls d σ H)
inductive HdsAs (X : Cx) : List ExceptHandler → List (Value × Nat × (Addr → Value → Option Addr → TS)) → Prop
  | nil : HdsAs X [] []
  | cons {x n : Str} {c : Value} {i : Nat} {ts : Addr → Value → Option Addr → TS} {b₀ : Stmt} {suite : List Stmt} {np pos' : Pos} {hds : List ExceptHandler} {l : List (Value × Nat × (Addr → Value → Option Addr → TS))} (hc : Names X x c) (hi : X.N[i]? = some n) (hln : X.env.kindOf n = some .local)
      (hsu : ∀ (a : Addr) (oe : Obj) (cls : Value) (d : Option Addr) (pn : List (Addr × Obj)), Zc cls d oe → (∃ vs, oe.data = .fields vs) → PSs (X.suite a ((a, oe) :: pn)) (b₀ :: suite) (ts a cls d)) (r : HdsAs X hds l) :
      HdsAs X (.ExceptHandler (some (.Name x np)) (some n) (b₀ :: suite) pos' :: hds) ((c, i, ts) :: l)
/-! an error of X's in the air: sI is the state without it, z the heap as it is now -/
structure Aloft (X : Cx) (pins : List (Addr × Obj)) (σ : St) (H : Hp) (B : Heap) (a : Addr) (cls : Value) (d : Option Addr) (sI s' : Shared) (z : Heap) : Prop where
  without : Inv X pins σ H sI
  ground : ∀ b o, sI.heap.get? b = some o → ¬ b ∈ frs X.stack → B.get? b = some o
  grown : sI.heap.UpToSlots z
  fly : HandSPX.FlyingZ B (X.env :: X.outer) a (Zc cls d) z
  free : H a = none
  same : s'.os = sI.os ∧ AllBare s'.gens
section
variable {X : Cx} {pins : List (Addr × Obj)} {σ : St} {H : Hp} {B : Heap} {a : Addr} {cls : Value} {d : Option Addr} {sI s' : Shared} {z : Heap}
theorem Aloft.here (y : Aloft X pins σ H B a cls d sI s' z) : Inv X pins σ H { s' with heap := z } := Inv.landed (s' := { s' with heap := z }) y.without y.ground y.fly.1 y.grown y.same.1 y.same.2
theorem Aloft.next (y : Aloft X pins σ H B a cls d sI s' z) {z2 : Heap} (f : HandSPX.FlyingZ B (X.env :: X.outer) a (Zc cls d) z2) (u : z.UpToSlots z2) : Aloft X pins σ H B a cls d sI s' z2 := { y with grown := y.grown.trans u, fly := f }
theorem Aloft.noFrame (y : Aloft X pins σ H B a cls d sI s' z) : a ∉ frs (X.env :: X.outer) := fun m => by
  obtain ⟨o1, _, e1, _, d1⟩ := y.fly.there
  obtain ⟨_, o2, e2, other⟩ := y.fly.2.2.1.mem m
  rw [e1] at e2
  cases e2
  exact other _ d1
theorem Aloft.apart (y : Aloft X pins σ H B a cls d sI s' z) (hf : X.env.frame = some X.env.locals) : a ≠ X.env.locals ∧ a ∉ X.fs := by
  refine ⟨fun q => y.noFrame (List.mem_filterMap.mpr ⟨_, List.mem_cons_self, hf.trans (congrArg some q.symm)⟩), fun q => ?_⟩
  obtain ⟨v, m1, m2⟩ := List.mem_filterMap.mp q
  exact y.noFrame (List.mem_filterMap.mpr ⟨v, List.mem_cons_of_mem _ m1, m2⟩)
theorem Aloft.caught (y : Aloft X pins σ H B a cls d sI s' z) (hf : X.env.frame = some X.env.locals) : ∃ oe, z.get? a = some oe ∧ Zc cls d oe ∧ (∃ vs, oe.data = .fields vs) ∧ Inv (X.suite a ((a, oe) :: (X.pn ++ pins))) [] σ H { s' with heap := z } := by
  obtain ⟨oe, vs, e, c, f⟩ := y.fly.there
  obtain ⟨n1, n2⟩ := y.apart hf
  exact ⟨oe, e, c, ⟨vs, f⟩, y.here.suite e f y.free n1 n2⟩
/-- no clause takes it -/
theorem Aloft.onward (y : Aloft X pins σ H B a cls d sI s' z) (hs : X.stack = X.env :: X.outer) (hf : X.env.frame = some X.env.locals) {Wout : WX} (tk : Takes X Wout) (w : Wout cls d σ H) {Q : Flow → Shared → Prop} :
    PySem.wpAny (model X.prog X.w) X.A (handleBy (.ref a) X.env []) Q X.xe { s' with heap := z } := by
  refine wpAny_handleBy_nil ?_
  have last : PySem.wpAny (model X.prog X.w) X.A (setFlight (.ref a) X.env.frame) (fun _ s4 => PySem.wpAny (model X.prog X.w) X.A (throw (.ref a) : Sem Flow) Q X.xe s4) X.xe { s' with heap := z } := by
    rw [hf]
    refine HandSPX.setFlight_upZ y.fly fun z2 held u => wpAny_throw (tk _ _ ⟨a, B, sI, pins, σ, H, cls, d, rfl, y.without, y.ground, y.grown.trans u, ?_, y.free, y.same.1, y.same.2, w⟩)
    rw [hs]
    exact .inr (.inr held)
  obtain ⟨_, _, _, _, _, T, _, _, e, _, f, f1, _⟩ := id y.fly
  have ne : ¬ ((Value.ref T == Value.none) = true) := by simp
  unfold PySem.passOn
  refine wpAny_bind (wpAny_field e f f1 ?_)
  rw [if_neg ne]
  first | exact wpAny_bind last | exact wpAny_bind (wpAny_pure (wpAny_bind last))
/-- one clause -/
theorem Aloft.clause (y : Aloft X pins σ H B a cls d sI s' z) (hf : X.env.frame = some X.env.locals) (hN : X.N.Nodup) {D : Ends} {x n : Str} {c : Value} {i : Nat} {ts : Addr → Value → Option Addr → TS} {b₀ : Stmt} {suite : List Stmt} {np pos' : Pos} {rest : List ExceptHandler} {b : Bool} (hc : Names X x c) (hi : X.N[i]? = some n) (hln : X.env.kindOf n = some .local)
    (hsu : ∀ (a : Addr) (oe : Obj) (cls : Value) (d : Option Addr) (pn : List (Addr × Obj)), Zc cls d oe → (∃ vs, oe.data = .fields vs) → PSs (X.suite a ((a, oe) :: pn)) (b₀ :: suite) (ts a cls d))
    (asked : PySem.W.exmOne X.K cls c = some b) (yes : b = true → ts a cls d (endsAs D i) (σ.set i (some (.ref a))) H) (no : b = false → PySem.wpAny (model X.prog X.w) X.A (handleBy (.ref a) X.env rest) (SP X pins D) X.xe { s' with heap := z }) :
    PySem.wpAny (model X.prog X.w) X.A (handleBy (.ref a) X.env (.ExceptHandler (some (.Name x np)) (some n) (b₀ :: suite) pos' :: rest)) (SP X pins D) X.xe { s' with heap := z } := by
  obtain ⟨oe, e, kind, _, S⟩ := y.caught hf
  refine wpAny_handleBy_cons (codeAny_handlers_test ?_) (fun q => nomatch q)
  have look : PySem.W.Looks (model X.prog X.w) z (typeOf (.ref a)) cls := fun _ _ _ _ k q => wpAny_typeOf_ref (k _ _ e) (kind.1 ▸ q)
  have told := PySem.W.exm_one (M := model X.prog X.w) y.here.kIn look asked
  have name : ∀ {P E : Value → Shared → Prop}, P c { s' with heap := z } → PySem.wpAny (model X.prog X.w) (X.A.mark (some (.ref a))) (eval (.Name x np) X.env) P E { s' with heap := z } := fun q => by
    rcases hc with ⟨gl, nd, m | ⟨m, v, nn⟩⟩
    · exact ld_glob (X := X.suite a ((a, oe) :: (X.pn ++ pins))) S gl m q nd
    · exact ld_blt (X := X.suite a ((a, oe) :: (X.pn ++ pins))) S gl m v q nn nd
  refine name (told.here ?_)
  cases b with
  | false => exact no rfl
  | true =>
    refine codeAny_handlers_suite_as (HandSPX.lands_againZ y.fly fun z2 f2 u2 => ?_)
    obtain ⟨o2, e2, kind2, fields2, S2⟩ := (y.next f2 u2).caught hf
    refine store_ok (v := .ref a) (X := X.suite a ((a, o2) :: (X.pn ++ pins))) S2 hN hi (.inl hln) rfl (fun s5 S5 => ?_) (.inr hln)
    have run := (hsu a o2 cls d (X.pn ++ pins) kind2 fields2).run [] s5 _ H _ S5 (yes rfl)
    have gone : ∀ {σ6 : L2.St} {H6 : Hp} {s6 : Shared} {Q : Shared → Prop}, Inv (X.suite a ((a, o2) :: (X.pn ++ pins))) [] σ6 H6 s6 → (∀ s7, Inv X pins (σ6.set i none) H6 s7 → Q s7) →
        PySem.wpAny (model X.prog X.w) X.A (do bindName X.env n .none; unbindBehindTheSuite X.env n pos') (fun _ s7 => Q s7) X.xe s6 := fun S6 q => gone_ok (S6.unsuite y.without.ok) hN hi hln q
    refine wpAny_mono run (fun fl s6 q => ?_) fun _ _ x => x.elim
    cases fl with
    | ret u => obtain ⟨v, _, _, S6, rv, q⟩ := q; exact gone S6 fun _ J => ⟨v, _, _, J, rv, q⟩
    | next => obtain ⟨_, _, S6, q⟩ := q; exact gone S6 fun _ J => ⟨_, _, J, q⟩
    | brk => obtain ⟨_, _, S6, q⟩ := q; exact gone S6 fun _ J => ⟨_, _, J, q⟩
    | cont => obtain ⟨_, _, S6, q⟩ := q; exact gone S6 fun _ J => ⟨_, _, J, q⟩
theorem Aloft.clauses (y : Aloft X pins σ H B a cls d sI s' z) (hs : X.stack = X.env :: X.outer) (hf : X.env.frame = some X.env.locals) (hN : X.N.Nodup) {Wout : WX} (tk : Takes X Wout) {D : Ends} : ∀ {hds : List ExceptHandler} {l : List (Value × Nat × (Addr → Value → Option Addr → TS))}, HdsAs X hds l → wManyAs X.K Wout D l cls d σ H →
    PySem.wpAny (model X.prog X.w) X.A (handleBy (.ref a) X.env hds) (SP X pins D) X.xe { s' with heap := z }
  | _, _, .nil, w => y.onward hs hf tk w
  | _, _, .cons hc hi hln hsu r, ⟨_, asked, yes, no⟩ => y.clause hf hN hc hi hln hsu asked (fun e => yes e a y.free) fun e => Aloft.clauses y hs hf hN tk r (no e)
end
section
variable {X : Cx} {body : List Stmt} {h₀ : ExceptHandler} {hds : List ExceptHandler} {l : List (Value × Nat × (Addr → Value → Option Addr → TS))} {pos : Pos} {tb : WX → TS} {Wout : WX}
/-- try: .. except C as n: .. except .. -/
theorem ps_try_manyAs (hs : X.stack = X.env :: X.outer) (hf : X.env.frame = some X.env.locals) (hN : X.N.Nodup) (tk : Takes X Wout) (hb : ∀ (W : WX) (pn : List (Addr × Obj)) (xe : Value → Shared → Prop), Takes (X.tr pn xe) W → PassesOwn (model X.prog X.w) X.A X.env xe → PSs (X.tr pn xe) body (tb W))
    (hh : HdsAs X (h₀ :: hds) l) : PS X (.Try body (h₀ :: hds) [] [] pos) (fun D σ H => tb (wManyAs X.K Wout D l) D σ H) where
  run := fun pins s σ H D I h => by
    have frames : X.A.frames = some (X.env :: X.outer) := I.ok.frames.trans (congrArg some hs)
    refine wpAny_Try_except (wpAny_mono ((hb (wManyAs X.K Wout D l) (X.pn ++ pins) (fun e s1 => PySem.wpAny (model X.prog X.w) X.A (noteFrame e X.env) (fun _ s2 => PySem.wpAny (model X.prog X.w) X.A (setFlight e none) (fun _ s3 => PySem.wpAny (model X.prog X.w) X.A (handleBy e X.env (h₀ :: hds)) (SP X pins D) X.xe s3) X.xe s2) X.xe s1)
      (fun u s' air => ?_) PassesOwn.looking).run [] s σ H D (I.toTry _) h) (fun fl s1 q => ?_) fun _ _ x => x)
    · rcases air with ⟨a, B, sI, _, σ', H', cls, d, rfl, J, ground, grown, sky, free, os, ag, w⟩
      show PySem.wpAny (model X.prog X.w) X.A (noteFrame (.ref a) X.env) _ _ _
      refine Sky.land (env := X.env) (outer := X.outer) (B := B) (L := X.env.locals) (Z := Zc cls d) Zc.steady frames hf ?_ fun z fly u => ?_
      · rw [← hs]
        exact sky
      · have y : Aloft X pins σ' H' B a cls d sI s' z := ⟨Inv.ofTry J I.ok, ground, grown.trans u, fly, free, os, ag⟩
        exact y.clauses hs hf hN tk hh w
    · cases fl with
      | next => exact wpAny_execs_nil (by obtain ⟨_, _, J, q⟩ := q; exact ⟨_, _, Inv.ofTry J I.ok, q⟩)
      | brk => obtain ⟨_, _, J, q⟩ := q; exact ⟨_, _, Inv.ofTry J I.ok, q⟩
      | cont => obtain ⟨_, _, J, q⟩ := q; exact ⟨_, _, Inv.ofTry J I.ok, q⟩
      | ret u => obtain ⟨v, _, _, J, r, q⟩ := q; exact ⟨v, _, _, Inv.ofTry J I.ok, r, q⟩
end
end EV

/-! isinstance of a caught error, whether or not it has a dict -/
namespace EV
open PyProof.Rows PySem PySem.W PySem.Spec PySem.Calls
/-- an instance at e in the heap z, its class at D one of K's that errors have -/
structure ErrAt (K : Frag) (z : Heap) (e D : Addr) (o : Obj) (od : Option Obj) : Prop where
  cls : L2.ExcC K D
  kin : K.In z
  at_ : InstAt z e o D od
section
variable {prog : Program} {w : World} {A : Around} {E : Value → Shared → Prop} {K : Frag} {z : Heap} {e D : Addr} {o : Obj} {od : Option Obj} {g : Array GenState} {dr : Drawn} {t : Nat} {os : OsState}
theorem ErrAt.class_ (y : ErrAt K z e D o od) : findObj K D od "__class__" = some (.bind (.builtin "getset_descriptor.__get__") (.builtin "object.__class__")) := by
  obtain ⟨cd, hc, _⟩ := any_some y.cls.hd
  unfold findObj
  rw [hc, y.cls.ha]
  simp [y.cls.hn, y.cls.ht]
theorem ErrAt.error (y : ErrAt K z e D o od) : Looks (model prog w) z (isInstance (.ref e) (.type "BaseException")) true := y.at_.type.andThen (looks_subIn y.kin y.cls.hs)
/-- the error's own __getattribute__, asked for its class -/
theorem ErrAt.asked (y : ErrAt K z e D o od) {u : Tok} {Q : Value → Shared → Prop} (h : Q (.ref D) ⟨z, g, dr, t, os⟩) :
    wpAny (model prog w) A (call (.builtin "BaseException.__getattribute__") [.ref e, .str "__class__" u]) Q E ⟨z, g, dr, t, os⟩ := by
  have find := looks_find (M := model prog w) y.kin y.at_ y.class_
  refine wpAny_call (codeAny_call_builtin PySem.F.excAttr_ValueError.ga.plain PySem.F.entry_bexc_ga (@check_slot (model prog w) _ _ ⟨z, g, dr, t, os⟩ "BaseException.__getattribute__" "BaseException" "__getattribute__" (.ref e) [.str "__class__" u] [] _ (by decide +kernel) (by decide +kernel) y.error (PySem.F.args_bexc_ga _ _) ?_))
  show wpAny _ _ (Builtin.«object.__getattribute__» _) _ _ _; unfold Builtin.«object.__getattribute__»
  refine wpAny_bind (wpAny_of_eq (a := ((Value.ref e : Value), [Value.str "__class__" u])) (by first | (simp only [slotArgs]; rfl) | rfl) ?_)
  refine wpAny_bind (wpAny_pure (wpAny_bind (y.at_.type.at ?_)))
  refine wpAny_bind (find.at ?_)
  refine wpAny_bind (wpAny_holding (wpAny_call ?_))
  refine class_get (s := ⟨z, g, dr, t, os⟩) (ox := o) (od := od) y.kin y.at_ y.cls.hm ?_
  first
    | exact wpAny_pure h
    | exact h
theorem kin_classO {s : Shared} {x : Addr} {ox : Obj} {Q : Option Value → Shared → Prop} (C : L2.ExcC K D) (X : K.In s.heap) (I : InstAt s.heap x ox D od) (h : Q (some (.ref D)) { s with toks := s.toks + 1 }) : wpAny (model prog w) A (getAttr? (.ref x) "__class__") Q E s := by
  have y : ErrAt K s.heap x D ox od := ⟨C, X, I⟩
  have L1 := looks_findIn (M := model prog w) X C.hg
  have L2 := looks_findIn (M := model prog w) X C.hk
  have other : ∀ b : Bool, (b && Value.builtin "BaseException.__getattribute__" == Value.builtin "object.__getattribute__") = false := fun b => by
    rw [show (Value.builtin "BaseException.__getattribute__" == Value.builtin "object.__getattribute__") = false by decide +kernel, Bool.and_false]
  unfold getAttr? getAttrBy?
  unfold getAttrBy
  refine wpAny_bind (wpAny_mkText (wpAny_bind (wpAny_attempt (wpAny_holding ?_))))
  refine wpAny_bind (I.type.at ?_)
  refine wpAny_bind (L1.at ?_)
  dsimp only
  rw [if_neg (by rw [other]; exact Bool.false_ne_true)]
  unfold getAttrByItsOwn
  unfold hookBefore
  refine wpAny_bind ?_
  rw [if_pos (show onTheHeap (Value.ref D) = true by rfl)]
  refine L2.at (wpAny_bind (wpAny_attempt (wpAny_holding ?_)))
  unfold callGetattribute
  dsimp only
  rw [if_neg (by exact Bool.false_ne_true)]
  unfold boundAndCalled
  rw [PySem.F.excAttr_ValueError.ga.bind]
  refine wpAny_bind (wpAny_pure (ErrAt.asked (t := s.toks + 1) (g := s.gens) (dr := s.drawn) (os := s.os) y ?_))
  show wpAny _ _ (handedOut (.ref D)) _ _ _; rw [handedOut_of (v := .ref D) rfl]
  first | exact wpAny_pure h | exact wpAny_pure (wpAny_pure h) | exact wpAny_pure (wpAny_bind (wpAny_pure (wpAny_pure h)))
theorem known (C : L2.ExcC K D) : ∃ (c : Value) (d : Option Addr) (cd : ClassData) (sl : Array (Option Value)), K.lookup D = some ⟨c, d, .cls cd, sl⟩ := by
  obtain ⟨cd, q, _⟩ := any_some C.hd
  unfold clsIn at q
  split at q
  · exact ⟨_, _, _, _, by assumption⟩
  · exact nomatch q
theorem kitO {x : Addr} {ox : Obj} (C : L2.ExcC K D) : KitX K (.ref x) (.ref D) (fun h => InstAt h x ox D od) where
  ty := fun _ _ _ I => I.type
  ca := fun X I k => kin_classO C X I k
  it := fun _ _ X _ => by
    obtain ⟨_, _, _, _, look⟩ := known C
    intro _ _ _ _ k q
    unfold isType
    unfold loadHead
    exact wpAny_bind (wpAny_loadPart (k _ _ (X D _ look)) (wpAny_pure q))
  ne := fun h tp dd its n sl X tup => by
    obtain ⟨_, _, _, _, look⟩ := known C
    refine beq_eq_false_iff_ne.mpr fun q => ?_
    cases q
    rw [X D _ look] at tup
    exact nomatch tup
end
end EV
namespace EV
open PySem L2 DV
open PyProof.Rows hiding St
section
variable (K : PySem.W.Frag) (G : Gs) (ix : Nat) (a : Addr) (cls : Value) (d : Option Addr)
def tX (ec : Xc → EE) : TE := fun σ h Q => ∃ x m b hp s, Ok K G m b h hp ∧ Sls K G m b σ s ∧ XR K G m b h x cls d ∧ σ[ix]? = some (some (.ref a)) ∧ PostE K G m b h (ec x s hp) Q (fun _ _ _ => False)
def tXA (ec : Xc → EA) : TA := fun σ h Q => ∃ x m b hp s, Ok K G m b h hp ∧ Sls K G m b σ s ∧ XR K G m b h x cls d ∧ σ[ix]? = some (some (.ref a)) ∧ PostA K G m b h (ec x s hp) Q (fun _ _ _ => False)
def tXS (ec : Xc → ES) : TS := fun Z σ h => ∃ x m b hp s, Ok K G m b h hp ∧ Sls K G m b σ s ∧ XR K G m b h x cls d ∧ σ[ix]? = some (some (.ref a)) ∧ PostS K G m b h (ec x s hp) Z (fun _ _ _ _ => False)
end
/-- isinstance(error, T): f tells of each class -/
def eIsX (f : Nat → Option Bool) : Xc → EE := fun x _ hp => match f x.c with
  | some b => .ok (.bl b) hp
  | none => .bad
def lookF (f : Str) : List (Str × D) → Option D
  | [] => none
  | (g, d) :: r => if f == g then some d else lookF f r
/-- error.f; own: the classes that have no such name of their own -/
def eFldX (own : Nat → Bool) (f : Str) : Xc → EE := fun x _ hp => match lookF f x.fs with
  | some d => if own x.c then .ok d hp else .bad
  | none => .bad
section
variable {K : PySem.W.Frag} {G : Gs} {X : Cx} {ix : Nat} {a : Addr} {cls : Value} {d : Option Addr} {oe : Obj} {pn : List (Addr × Obj)} {e : Expr} {es : List Expr} {ev : EE} {ec : Xc → EE} {er : Xc → EA} {pos : Pos} {n : Str}
/-- what is read without the error -/
theorem y_px {Y : Cx} (h : PX K G (fun _ _ _ _ => False) Y e ev) : PE Y e (tX K G ix a cls d fun _ => ev) := ⟨fun pins z σ H Q I ⟨_, m, b, hp, s, ok, sl, _, _, p⟩ => h.run pins z σ H Q I ⟨m, b, hp, s, ok, sl, p⟩⟩
theorem ya_nil {Y : Cx} : PA Y [] (tXA K G ix a cls d fun _ => aNil) := ⟨fun pos pins z σ H Q I ⟨_, m, b, hp, s, ok, sl, _, _, p⟩ => pa_nil.run pos pins z σ H Q I (p [] m b H (Stp.rfl' ok.sub) ok .nil)⟩
theorem ya_cons {Y : Cx} (ha : PE Y e (tX K G ix a cls d ec)) (hr : PA Y es (tXA K G ix a cls d er)) (hs : starEach (e :: es) Y.env = (false, eval e Y.env) :: starEach es Y.env := by rfl) : PA Y (e :: es) (tXA K G ix a cls d fun x => aCons (ec x) (er x)) := ⟨fun pos pins z σ H Q I ⟨x, m, b, hp, s, ok, sl, xr, hsl, p⟩ => by
  refine (pa_cons ha hr hs).run pos pins z σ H Q I ⟨x, m, b, hp, s, ok, sl, xr, hsl, ?_⟩
  replace p : PostA K G m b H (aCons (ec x) (er x) s hp) Q (fun _ _ _ => False) := p
  unfold aCons at p
  cases e1 : ec x s hp with
  | ok d1 hp1 =>
    rw [e1] at p
    dsimp only at p
    intro v m1 b1 h1 x1 ok1 r1
    refine ⟨x, m1, b1, hp1, s, ok1, sl.go x1, xr.go x1, hsl, ?_⟩
    cases e2 : er x s hp1 with
    | ok ds hp2 =>
      rw [e2] at p
      intro vs m2 b2 h2 x2 ok2 r2
      exact p _ m2 b2 h2 (x1.trans x2) ok2 (.cons (r1.go x2) r2)
    | exc xx hp2 =>
      rw [e2] at p
      exact fun c dx m2 b2 h2 x2 => p c dx m2 b2 h2 (x1.trans x2)
    | bad => rw [e2] at p; exact p.elim
  | exc xx hp1 => rw [e1] at p; exact p
  | bad => rw [e1] at p; exact p.elim⟩
theorem y_lst {Y : Cx} (h : PA Y es (tXA K G ix a cls d er)) : PE Y (.List es pos) (tX K G ix a cls d fun x => eLst (er x)) := ⟨fun pins z σ H Q I ⟨x, m, b, hp, s, ok, sl, xr, hsl, p⟩ => by
  refine (pe_lst h).run pins z σ H Q I ⟨x, m, b, hp, s, ok, sl, xr, hsl, ?_⟩
  replace p : PostE K G m b H (eLst (er x) s hp) Q (fun _ _ _ => False) := p
  unfold eLst at p
  cases e1 : er x s hp with
  | ok ds hp1 =>
    rw [e1] at p
    dsimp only at p
    split at p
    · rename_i hl
      intro vs m1 b1 h1 x1 ok1 r1
      refine ⟨by rw [r1.length, sizeLine_eq]; omega, fun q hq => ?_⟩
      have F : Fr [] b1 h1 (upd b1 q (.lst vs)) (upd h1 q (.lst vs)) := Fr.laid ok1.sub hq
      exact p _ m1 _ _ (x1.trans (Stp.pure F)) (ok1.pure F) (.lst upd_same (r1.monoB F.base))
    · exact p.elim
  | exc xx hp1 => rw [e1] at p; exact p
  | bad => rw [e1] at p; exact p.elim⟩
theorem y_isi {T : String} {t : Str} {p1 p2 p3 : Pos} {f : Nat → Option Bool} (hK : X.K = K) (hz : Zc cls d oe) (hf : ∃ vs, oe.data = .fields vs) (hN : X.N[ix]? = some n) (hv : Vis X.env.scope n)
    (hf' : ∀ c b, f c = some b → L2.ExcC K (G.ca c) ∧ PySem.W.kitOne K (.ref (G.ca c)) (.type T) = some b)
    (hg : Gl X "isinstance") (hm : X.mg "isinstance" = none) (gt : Gl X t) (mt : X.mg t = none) (bt : bootBuiltins t = some (.type T))
    (hd : (n == ("__debug__" : Str)) = false := by decide) (hcd : (n == ("__classdict__" : Str)) = false := by decide) (nt : t ≠ "__name__" := by decide) (dt : (t == ("__debug__" : Str)) = false := by decide)
    (hs : starEach [.Name n p2, .Name t p3] X.env = (false, eval (.Name n p2) X.env) :: starEach [.Name t p3] X.env := by rfl) (hs2 : starEach [.Name t p3] X.env = (false, eval (.Name t p3) X.env) :: starEach [] X.env := by rfl) :
    PE (X.suite a ((a, oe) :: pn)) (.Call (.Name "isinstance" p1) [.Name n p2, .Name t p3] [] pos) (tX K G ix a cls d (eIsX f)) := by
  subst hK
  refine ⟨fun pins z σ H Q I ⟨x, m, b, hp, s, ok, sl, xr, hsl, p⟩ => ?_⟩
  unfold eIsX at p
  cases e1 : f x.c with
  | none => rw [e1] at p; exact p.elim
  | some bb =>
    rw [e1] at p
    obtain ⟨EC, ek⟩ := hf' _ _ e1
    obtain ⟨ec, xr2⟩ := xr
    subst ec
    have cr : ∀ s1 : Shared, ∀ H1, H1 = H → Inv (X.suite a ((a, oe) :: pn)) pins σ H1 s1 → PySem.wpAny (model X.prog X.w) (X.suite a ((a, oe) :: pn)).A (call (.builtin "isinstance") [.ref a, .type T]) (EP (X.suite a ((a, oe) :: pn)) pins σ Q) (fun _ _ => False) s1 := fun s1 H1 eH I1 => by
      subst eH
      obtain ⟨hget, _⟩ := I1.pin (a, oe) (List.mem_append.mpr (.inl List.mem_cons_self))
      obtain ⟨vs, hv⟩ := hf
      have fin : ∀ tk, EP (X.suite a ((a, oe) :: pn)) pins σ Q (.bool bb) { s1 with toks := tk } := fun tk => ⟨.bl bb, H1, I1.kept (t' := tk) fun _ _ z => z, rfl, p _ m b H1 (Stp.rfl' ok.sub) ok (.bl bb)⟩
      have JJ : ∃ od : Option Obj, PySem.W.InstAt s1.heap a oe (G.ca x.c) od := by
        rcases oe with ⟨_, _, _, _⟩
        obtain ⟨h1, h2⟩ := hz
        dsimp only at h1 h2 hv
        subst h1 h2 hv
        rcases xr2 with ⟨_, ed⟩ | ⟨dd, ws, ed, _, _, hx, _⟩
        · subst ed
          exact ⟨none, hget, rfl, rfl, trivial⟩
        · subst ed
          have hxo : ObjOk X.prog X.w H1 s1.heap dd (.xd ws) := I1.hok dd _ hx
          obtain ⟨mA, hns, _⟩ := hxo
          obtain ⟨o2, ho2, _⟩ := lookIn_ns hns
          exact ⟨some o2, hget, rfl, rfl, ho2⟩
      obtain ⟨od, J⟩ := JJ
      exact PySem.W.kia_one (kitO EC) I1.kIn J ek (fun z => nomatch z) fin
    have pa : PA (X.suite a ((a, oe) :: pn)) [.Name n p2, .Name t p3] (tCons (tVar ix) (tCons (tC (.ty T)) tNil)) := pa_cons (pe_var hN hv hd hcd) (pa_cons (pe_bltn (v := .ty T) gt mt bt rfl nt dt) pa_nil hs2) hs
    refine wpAny_Call_Name_kw (ld_blt (X := X.suite a ((a, oe) :: pn)) I hg hm (by decide +kernel : bootBuiltins "isinstance" = some (.builtin "isinstance")) ?_ (by decide) (by decide))
    refine PyProof.Rows.callWith_builtin1 (thn (pa.run pos pins z σ H (fun vs H1 => vs = [.ref a, .ty T] ∧ H1 = H) I ⟨.ref a, hsl, rfl, rfl⟩) fun us s1 ⟨vs, H1, I1, r1, q1, q2⟩ => ?_) hs rfl
    subst q1
    cases r1 with
    | @cons _ u0 _ ur ra r1 =>
      cases r1 with
      | @cons _ u1 _ ur2 rt r1 =>
        cases r1
        cases ra
        cases rt
        exact cr s1 H1 q2 I1
end
end EV

/-! except suites, try: the readings -/
namespace EV
open PySem L2 DV
abbrev Hd := (Nat → Option Bool) × Nat × (Xc → ES)
def catchGo (x : Xc) : List Hd → Sl → List O → RS
  | [], s, hp => .exc x s hp
  | (mt, i, su) :: r, s, hp => match mt x.c with
    | some true => if i < s.length then (match su x (s.set i none) hp with
      | .nx s2 hp2 => .nx (s2.set i none) hp2
      | .rt d hp2 => .rt d hp2
      | .bk s2 hp2 => .bk (s2.set i none) hp2
      | .ct s2 hp2 => .ct (s2.set i none) hp2
      | _ => .bad) else .bad
    | some false => catchGo x r s hp
    | none => .bad
def sTry (body : ES) (hs : List Hd) : ES := fun s hp => match body s hp with
  | .nx s1 hp1 => .nx s1 hp1
  | .rt d hp1 => .rt d hp1
  | .bk s1 hp1 => .bk s1 hp1
  | .ct s1 hp1 => .ct s1 hp1
  | .exc x s1 hp1 => catchGo x hs s1 hp1
  | .bad => .bad
section
variable {K : PySem.W.Frag} {G : Gs} {X : Cx} {ix : Nat} {a : Addr} {cls : Value} {d : Option Addr} {oe : Obj} {pn : List (Addr × Obj)} {e : Expr} {es : List Expr} {ec : Xc → EE} {pos pos' : Pos} {n f : Str}
theorem lookF_ok {m : List Addr} {b : Hp} {f : Str} {d : D} : ∀ {fs : List (Str × D)} {vs : List (Str × V)}, vs.map (·.1) = fs.map (·.1) → RDs K G m b (vs.map (·.2)) (fs.map (·.2)) → lookF f fs = some d → ∃ v, vs.lookup f = some v ∧ RD K G m b v d
  | [], _, _, _, e => by cases e
  | (g, y) :: r, [], q, _, _ => by cases q
  | (g, y) :: r, (g', v) :: vs, q, rs, e => by
    rw [List.map_cons, List.map_cons] at q rs
    obtain ⟨q1, q2⟩ := List.cons.inj q
    dsimp only at q1
    subst q1
    cases rs with
    | cons r1 r2 =>
      unfold lookF at e
      rw [lookup_put]
      by_cases h : f = g'
      · subst h
        rw [if_pos (by simp)] at e
        cases e
        exact ⟨v, by rw [if_pos rfl], r1⟩
      · rw [if_neg (by simpa using h)] at e
        rw [if_neg h]
        exact lookF_ok q2 r2 e
theorem y_fld {own : Nat → Bool} (hK : X.K = K) (hz : Zc cls d oe) (hf : ∃ vs, oe.data = .fields vs) (hN : X.N[ix]? = some n) (hv : Vis X.env.scope n) (ho : ∀ c, own c = true → XfC K (G.ca c) ∧ PySem.W.findIn K (.ref (G.ca c)) f = some none)
    (hd : (n == ("__debug__" : Str)) = false := by decide) (hcd : (n == ("__classdict__" : Str)) = false := by decide) (hb : attributeBase (.Name n pos') f X.env (eval (.Name n pos') X.env) = eval (.Name n pos') X.env := by rfl) :
    PE (X.suite a ((a, oe) :: pn)) (.Attribute (.Name n pos') f pos) (tX K G ix a cls d (eFldX own f)) := by
  subst hK
  refine ⟨fun pins z σ H Q I ⟨x, m, b, hp, s, ok, sl, xr, hsl, p⟩ => ?_⟩
  unfold eFldX at p
  cases e1 : lookF f x.fs with
  | none => rw [e1] at p; exact p.elim
  | some y =>
    rw [e1] at p
    dsimp only at p
    split at p
    · rename_i hw
      obtain ⟨T, hno⟩ := ho _ hw
      obtain ⟨ec, xr2⟩ := xr
      subst ec
      rcases xr2 with ⟨ef, _⟩ | ⟨dd, ws, ed, hb1, hb2, hx, en, er⟩
      · rw [ef] at e1; cases e1
      · obtain ⟨v, hl, rv⟩ := lookF_ok en er e1
        exact (pe_xf T hno hz hf (pe_var (X := X.suite a ((a, oe) :: pn)) hN hv hd hcd) hb).run pins z σ H Q I ⟨.ref a, hsl, rfl, rfl, dd, ws, v, ed, hx, hl, p v m b H (Stp.rfl' ok.sub) ok rv⟩
    · exact p.elim
theorem ys_set {Y : Cx} {j : Nat} {x : Str} (hN : Y.N.Nodup) (hi : Y.N[j]? = some x) (hx : Loc Y.env.scope x) (h : PE Y e (tX K G ix a cls d ec)) (hs : swapsWith e (some (.Name x pos')) pos.line Y.env = pure false := by rfl) (hf : Y.fn x = true ∨ Y.env.scope.names.lookup x = some .local := by first | exact .inl rfl | exact .inr rfl | assumption) :
    PSs Y [.Assign [.Name x pos'] e pos] (tXS K G ix a cls d fun x => sAsg (ec x) (gNm j)) := by
  refine pss_one ⟨fun pins z σ H Z I ⟨x, m, b, hp, s, ok, sl, xr, hsl, p⟩ => (ps_set hN hi hx h hs hf).run pins z σ H Z I ?_⟩
  refine ⟨x, m, b, hp, s, ok, sl, xr, hsl, ?_⟩
  replace p : PostS K G m b H (sAsg (ec x) (gNm j) s hp) Z (fun _ _ _ _ => False) := p
  unfold sAsg at p
  cases e1 : ec x s hp with
  | ok d1 hp1 =>
    rw [e1] at p
    dsimp only at p
    intro v m1 b1 h1 x1 ok1 r1
    cases e2 : gNm j s d1 with
    | some s1 =>
      rw [e2] at p
      exact snG_name (K := K) (G := G) j m1 b1 h1 σ s v d1 s1 ok1.sub (sl.go x1) r1 e2 _ fun σ1 _ sl1 => p σ1 m1 b1 h1 x1 ok1 sl1
    | none => rw [e2] at p; exact p.elim
  | exc xx hp1 =>
    rw [e1] at p
    exact fun c dx m2 b2 h2 x2 ok2 xr2 => p c dx σ m2 b2 h2 x2 ok2 (sl.go x2) xr2
  | bad => rw [e1] at p; exact p.elim
theorem ys_ret {Y : Cx} (h : PE Y e (tX K G ix a cls d ec)) : PSs Y [.Return (some e) pos] (tXS K G ix a cls d fun x => sRet (ec x)) := by
  refine pss_one ⟨fun pins z σ H Z I ⟨x, m, b, hp, s, ok, sl, xr, hsl, p⟩ => (ps_ret h).run pins z σ H Z I ?_⟩
  refine ⟨x, m, b, hp, s, ok, sl, xr, hsl, ?_⟩
  replace p : PostS K G m b H (sRet (ec x) s hp) Z (fun _ _ _ _ => False) := p
  unfold sRet at p
  cases e1 : ec x s hp with
  | ok d1 hp1 => rw [e1] at p; exact p
  | exc xx hp1 =>
    rw [e1] at p
    exact fun c dx m2 b2 h2 x2 ok2 xr2 => p c dx σ m2 b2 h2 x2 ok2 (sl.go x2) xr2
  | bad => rw [e1] at p; exact p.elim
end
inductive HdsR (K : PySem.W.Frag) (G : Gs) (X : Cx) : List ExceptHandler → List Hd → Prop
  | nil : HdsR K G X [] []
  | cons {x n : Str} {C : Addr} {i : Nat} {mt : Nat → Option Bool} {su : Xc → ES} {b₀ : Stmt} {suite : List Stmt} {np pos' : Pos} {hds : List ExceptHandler} {l : List Hd} (hc : Names X x (.ref C)) (hi : X.N[i]? = some n) (hln : X.env.kindOf n = some .local)
      (hm : ∀ c b, mt c = some b → PySem.W.exmOne K (.ref (G.ca c)) (.ref C) = some b)
      (hsu : ∀ (a : Addr) (oe : Obj) (cls : Value) (d : Option Addr) (pn : List (Addr × Obj)), Zc cls d oe → (∃ vs, oe.data = .fields vs) → PSs (X.suite a ((a, oe) :: pn)) (b₀ :: suite) (tXS K G i a cls d su)) (r : HdsR K G X hds l) :
      HdsR K G X (.ExceptHandler (some (.Name x np)) (some n) (b₀ :: suite) pos' :: hds) ((mt, i, su) :: l)
section
variable {K : PySem.W.Frag} {G : Gs} {W : WX} {X : Cx} {body : List Stmt} {h₀ : ExceptHandler} {hds : List ExceptHandler} {pos : Pos} {ev : ES} {hs : List Hd}
theorem hds_go {hds : List ExceptHandler} {hs : List Hd} (hh : HdsR K G X hds hs) : ∃ l, HdsAs X hds l ∧ ∀ (x : Xc) (s : Sl) (hp : List O) (σ : St) (m : List Addr) (b h : Hp) (cls : Value) (d : Option Addr) (Z : Ends) (W : WX),
    Ok K G m b h hp → Sls K G m b σ s → XR K G m b h x cls d → PostS K G m b h (catchGo x hs s hp) Z W → wManyAs K W Z l cls d σ h := by
  induction hh with
  | nil => exact ⟨[], .nil, fun x s hp σ m b h cls d Z W ok sl xr p => p cls d σ m b h (Stp.rfl' ok.sub) ok sl xr⟩
  | @cons x n C i mt su b₀ suite np pos' hds l hc hi hln hm hsu r ih =>
    obtain ⟨l2, h2, go⟩ := ih
    refine ⟨(.ref C, i, fun a cls d => tXS K G i a cls d su) :: l2, .cons hc hi hln hsu h2, fun x s hp σ m b h cls d Z W ok sl xr p => ?_⟩
    unfold catchGo at p
    cases e : mt x.c with
    | none => rw [e] at p; exact p.elim
    | some bb =>
      rw [e] at p
      have ex := hm _ _ e
      rw [← xr.1] at ex
      refine ⟨bb, ex, fun eb a ha => ?_, fun eb => ?_⟩
      · subst eb
        dsimp only at p
        split at p
        · rename_i hlt
          refine ⟨x, m, b, hp, s.set i none, ok, sl.unset i, xr, ?_, ?_⟩
          · rw [List.getElem?_set, if_pos rfl, if_pos (by rw [sl.len]; exact hlt)]
          · cases e3 : su x (s.set i none) hp with
            | nx s2 hp2 =>
              rw [e3] at p
              exact fun σ' m' b' h' st ok' sl' => p _ m' b' h' st ok' (sl'.unset i)
            | rt d2 hp2 => rw [e3] at p; exact p
            | bk s2 hp2 =>
              rw [e3] at p
              exact fun σ' m' b' h' st ok' sl' => p _ m' b' h' st ok' (sl'.unset i)
            | ct s2 hp2 =>
              rw [e3] at p
              exact fun σ' m' b' h' st ok' sl' => p _ m' b' h' st ok' (sl'.unset i)
            | exc x2 s2 hp2 => rw [e3] at p; exact p.elim
            | bad => rw [e3] at p; exact p.elim
        · exact p.elim
      · subst eb
        exact go x s hp σ m b h cls d Z W ok sl xr p
theorem xs_try (hK : X.K = K) (hst : X.stack = X.env :: X.outer) (hf : X.env.frame = some X.env.locals) (hN : X.N.Nodup) (tk : Takes X W)
    (hb : ∀ (W : WX) (pn : List (Addr × Obj)) (xe : Value → Shared → Prop), Takes (X.tr pn xe) W → PassesOwn (model X.prog X.w) X.A X.env xe → PXB K G W (X.tr pn xe) body ev) (hh : HdsR K G X (h₀ :: hds) hs) :
    PXS K G W X (.Try body (h₀ :: hds) [] [] pos) (sTry ev hs) := by
  subst hK
  obtain ⟨l, h2, go⟩ := hds_go hh
  refine pxS (ps_try_manyAs (tb := fun W => tOfS X.K G W ev) hst hf hN tk (fun W pn xe t1 t2 => hb W pn xe t1 t2) h2) fun m b h hp σ s ok sl Z p => ?_
  refine ⟨m, b, hp, s, ok, sl, ?_⟩
  unfold sTry at p
  cases e : ev s hp with
  | nx s1 hp1 => rw [e] at p; exact p
  | rt d hp1 => rw [e] at p; exact p
  | bk s1 hp1 => rw [e] at p; exact p
  | ct s1 hp1 => rw [e] at p; exact p
  | exc x s1 hp1 =>
    rw [e] at p
    exact fun cls dx σ' m' b' h' st ok' sl' xr => go x s1 hp1 σ' m' b' h' cls dx Z W ok' sl' xr (p.go st)
  | bad => rw [e] at p; exact p.elim
end
end EV

/-! what the end must tell of an own error's class -/
namespace EV
open PySem L2 DV
abbrev bmVE : List Value := [.type "ValueError", .type "Exception", .type "BaseException", .type "object"]
abbrev bmLE : List Value := [.type "LookupError", .type "Exception", .type "BaseException", .type "object"]
structure ErrC (K : PySem.W.Frag) (C : Addr) (newId : String) (bmB : List Value) : Prop extends OxC K C newId bmB where
  more : PySem.W.findIn K (.ref C) "__getattribute__" = some (some (.builtin "BaseException.__getattribute__")) ∧ PySem.W.findIn K (.ref C) "__getattr__" = some none ∧ PySem.W.findIn K (.ref C) "__class__" = some (some (.builtin "object.__class__")) ∧ PySem.W.mroIn K C (.type "object") = some true
structure ObjC (K : PySem.W.Frag) : Prop where
  both : PySem.W.specialIn K (.builtin "object.__class__") "__get__" = some (some (.builtin "getset_descriptor.__get__")) ∧ PySem.W.takesIn K (.builtin "object.__class__") = some true
section
variable {K : PySem.W.Frag} {C D : Addr} {newId newId' : String} {bmB bmB' : List Value} {b : Bool} {T : String}
theorem OxC.hasD (E : OxC K C newId bmB) : PySem.W.hasDictIn K C = true := by
  obtain ⟨cd, h1, _, h3⟩ := E.data
  unfold PySem.W.hasDictIn
  rw [h1]
  exact h3
theorem ErrC.excC (E : ErrC K C newId bmB) (O : ObjC K) : ExcC K C := ⟨E.more.1, E.more.2.1, E.rest.2.1, E.toOxC.hasD, E.more.2.2.1, O.both.1, O.both.2, E.more.2.2.2⟩
theorem ErrC.xfC (E : ErrC K C newId bmB) : XfC K C := ⟨E.more.1, E.more.2.1, E.rest.2.1, E.toOxC.hasD⟩
theorem ErrC.exm (E : ErrC K D newId bmB) (h : PySem.W.subIn K (.ref C) (.ref D) = some b) : PySem.W.exmOne K (.ref C) (.ref D) = some b := PySem.W.exm_ref E.rest.2.1 E.toOxC.hasD E.rest.2.2.1 h
theorem kit_of (h : PySem.W.subIn K (.ref C) (.type T) = some b) (ht : PySem.W.kitMeta T = true) : PySem.W.kitOne K (.ref C) (.type T) = some b := by
  unfold PySem.W.kitOne
  rw [if_neg (by intro z; cases z)]
  unfold PySem.W.kitCls
  dsimp only
  rw [if_pos ht]
  exact h
end
end EV

/-! calls with keywords, calls of a def picked from a row, stars in rows, min and max of a list -/
namespace EV
open PySem L2 DV
open PyProof.Rows hiding St
/-- the values in the parameters' order -/
def gp {α : Type} : List Nat → List α → List α
  | [], _ => []
  | i :: is, xs => match xs[i]? with
    | some x => x :: gp is xs
    | none => gp is xs
theorem gp_vals {vs : List V} {us : List Value} (r : Vals vs us) : ∀ pm, Vals (gp pm vs) (gp pm us)
  | [] => .nil
  | i :: is => by
    unfold gp
    cases e : vs[i]? with
    | some x =>
      obtain ⟨u, e2, r2⟩ := r.get e
      rw [e2]
      exact .cons r2 (gp_vals r is)
    | none =>
      have e2 : us[i]? = none := by
        rw [List.getElem?_eq_none_iff] at e ⊢
        rw [← r.length]; exact e
      rw [e2]
      exact gp_vals r is
theorem gp_rds {K : PySem.W.Frag} {G : Gs} {m : List Addr} {b : Hp} {vs : List V} {ds : List D} (r : RDs K G m b vs ds) : ∀ pm, RDs K G m b (gp pm vs) (gp pm ds)
  | [] => .nil
  | i :: is => by
    unfold gp
    cases e : ds[i]? with
    | some x =>
      obtain ⟨u, e2, r2⟩ := r.get e
      rw [e2]
      exact .cons r2 (gp_rds r is)
    | none =>
      have e2 : vs[i]? = none := by
        rw [List.getElem?_eq_none_iff] at e ⊢
        rw [r.length]; exact e
      rw [e2]
      exact gp_rds r is
structure KBd (K : PySem.W.Frag) (fd : FuncData) (ps : List Str) (n : Nat) (ks : List Str) (pm : List Nat) : Prop where
  to : ∀ (s : Shared) (us ws : List Value), K.In s.heap → us.length = n → ws.length = ks.length → BindsTo s fd ⟨us, ks.zip ws⟩ (ps.zip (gp pm (us ++ ws)))
def eCallK (F : List D → List O → RE) (pm : List Nat) (ea ek : EA) : EE := fun s hp => match ea s hp with
  | .ok ds hp1 => (match ek s hp1 with
    | .ok zs hp2 => F (gp pm (ds ++ zs)) hp2
    | .exc x hp2 => .exc x hp2
    | .bad => .bad)
  | .exc x hp1 => .exc x hp1
  | .bad => .bad
/-- a def picked: tab tells the readings -/
def eCallT (tab : Nat → Option (List D → List O → RE)) (ef : EE) (ea : EA) : EE := fun s hp => match ef s hp with
  | .ok (.fn j) hp1 => (match tab j with
    | some F => (match ea s hp1 with
      | .ok ds hp2 => F ds hp2
      | .exc x hp2 => .exc x hp2
      | .bad => .bad)
    | none => .bad)
  | .exc x hp1 => .exc x hp1
  | _ => .bad
def tCallKS (n m : Nat) (pm : List Nat) (sp : Sp) (E : St → XK) (t tk : TA) : TE := fun σ H Q => t σ H fun vs H1 => tk σ H1 fun zs H2 => vs.length = n ∧ zs.length = m ∧ sp (gp pm (vs ++ zs)) H2 Q (E σ)
/-- these keywords are named, one by one -/
structure KwNamed (X : Cx) (pos : Pos) (kws : List Keyword) (ks : List Str) : Prop where
  all : ((backToKw pos (keywordEach kws X.env)).all fun z => z.1.isSome) = true
  these : ((backToKw pos (keywordEach kws X.env)).filterMap fun z => z.1) = ks
/-- no star among the arguments -/
def KwPlain (X : Cx) (pos : Pos) (es : List Expr) (kws : List Keyword) : Prop := (((backTo pos (starEach es X.env)).any fun z => z.1) || ((backToKw pos (keywordEach kws X.env)).any fun z => z.1.isNone)) = false
structure PXKs (K : PySem.W.Frag) (G : Gs) (W : WX) (X : Cx) (kws : List Keyword) (er : EA) (n : Nat) : Prop where
  pk : PK X kws (tOfA K G W er)
  ar : ArN er n
section
variable {X : Cx} {k n : Nat} {f : Addr} {fd : FuncData} {ps ks : List Str} {pm : List Nat} {sp : Sp} {E : St → XK} {x : Str} {p pos kpos : Pos} {e : Expr} {es : List Expr} {kws : List Keyword} {t tk : TA} {nm : Option Str}
theorem run_fnKS {pins : List (Addr × Obj)} {σ : St} {H : Hp} {s : Shared} {Q : VK} {us ws : List Value} {vs zs : List V} (F : FnOk X.prog X.w X.K X.mg X.base (L2.CX X.prog X.w) k f fd ps sp) (hr : Room k X.A) (hb : KBd X.K fd ps n ks pm) (hx : PassesAt (L2.CX X.prog X.w) X σ (E σ))
    (I : Inv X pins σ H s) (r : Vals vs us) (rz : Vals zs ws) (l1 : vs.length = n) (l2 : zs.length = ks.length) (h : sp (gp pm (vs ++ zs)) H Q (E σ)) : PySem.wpAny (model X.prog X.w) X.A (call (.ref f) us (ks.zip ws)) (EP X pins σ Q) X.xe s := by
  have r2 : Vals (gp pm (vs ++ zs)) (gp pm (us ++ ws)) := gp_vals (r.append rz) pm
  refine wpAny_call (codeAny_mono (F.run X.A X.stack s H ⟨us, ks.zip ws⟩ (gp pm (us ++ ws)) (gp pm (vs ++ zs)) Q (E σ) hr I.env0 (hb.to s us ws I.kIn (r.length.symm.trans l1) (rz.length.symm.trans l2)) r2 h) fun r s' hq => ?_)
  cases r with
  | error er => exact hx _ _ _ er _ I hq
  | ok fl =>
    cases fl with
    | ret u => exact I.after hq
    | next => exact False.elim hq
    | brk => exact False.elim hq
    | cont => exact False.elim hq
theorem pe_callKS0 (F : FnOk X.prog X.w X.K X.mg X.base (L2.CX X.prog X.w) k f fd ps sp) (hr : Room k X.A) (hg : Gl X x) (hm : X.mg x = some (.ref f)) (hk : PySem.W.keepIn X.K (.ref f) = true) (hb : KBd X.K fd ps 0 ks pm) (hx : ∀ σ, PassesAt (L2.CX X.prog X.w) X σ (E σ)) (hkw : PK X kws tk)
    (named : KwNamed X pos kws ks := by exact ⟨rfl, rfl⟩) (hdb : (x == ("__debug__" : Str)) = false := by decide)
    (hpl : KwPlain X pos [] kws := by unfold KwPlain; rfl) :
    PE X (.Call (.Name x p) [] kws pos) (tCallKS 0 ks.length pm sp E tNil tk) := by
  constructor
  intro pins s σ H Q I h
  refine wpAny_Call_Name_kw (ld_glob (hd := hdb) I hg hm (PySem.W.callWith_KW0 (h₀ := X.base) I.ok.mod.kin hk named.all ?_ hpl))
  refine thn (hkw.run pos pins s σ H _ I h) ?_
  rintro ws s2 ⟨zs, H2, I2, rz, l1, l2, q2⟩
  refine ⟨I2.kIn, ?_⟩
  rw [named.these]
  exact run_fnKS (us := []) (vs := []) F hr hb (hx σ) I2 .nil rz rfl l2 q2
theorem pe_callKS (F : FnOk X.prog X.w X.K X.mg X.base (L2.CX X.prog X.w) k f fd ps sp) (hr : Room k X.A) (hg : Gl X x) (hm : X.mg x = some (.ref f)) (hk : PySem.W.keepIn X.K (.ref f) = true) (hb : KBd X.K fd ps n ks pm) (hx : ∀ σ, PassesAt (L2.CX X.prog X.w) X σ (E σ)) (ha : PA X (e :: es) t) (hkw : PK X kws tk)
    (named : KwNamed X pos kws ks := by exact ⟨rfl, rfl⟩) (hdb : (x == ("__debug__" : Str)) = false := by decide)
    (he : starEach (e :: es) X.env = (false, eval e X.env) :: starEach es X.env := by rfl) (hpl : KwPlain X pos (e :: es) kws := by unfold KwPlain; rfl) :
    PE X (.Call (.Name x p) (e :: es) kws pos) (tCallKS n ks.length pm sp E t tk) := by
  constructor
  intro pins s σ H Q I h
  refine wpAny_Call_Name_kw (ld_glob (hd := hdb) I hg hm (PySem.W.callWith_KW (h₀ := X.base) I.ok.mod.kin hk named.all (thn (ha.run pos pins s σ H _ I h) ?_) hpl he))
  rintro us s1 ⟨vs, H1, I1, r, q⟩
  refine thn (hkw.run pos pins s1 σ H1 _ I1 q) ?_
  rintro ws s2 ⟨zs, H2, I2, rz, l1, l2, q2⟩
  refine ⟨I2.kIn, ?_⟩
  rw [named.these]
  exact run_fnKS F hr hb (hx σ) I2 r rz l1 l2 q2
end
section
variable {K : PySem.W.Frag} {G : Gs} {W : WX} {X : Cx} {e : Expr} {es : List Expr} {kws : List Keyword} {er ek : EA} {ef ev : EE} {n m k : Nat} {x : Str} {p pos kpos : Pos} {nm : Option Str} {pm : List Nat} {F : List D → List O → RE}
theorem sn_callKS {t tk : TA} {N : Nat} (ha : SnA K G W t er) (hk : SnA K G W tk ek) (h1 : ArN er n) (h2 : ArN ek m) (hN : ∀ ds : List D, ds.length = n + m → (gp pm ds).length = N) : SnE K G W (tCallKS n m pm (spEv K G F N) (WE W) t tk) (eCallK F pm er ek) := fun mm b h hp σ s ok sl Q p => by
  refine ha mm b h hp σ s ok sl _ ?_
  unfold eCallK at p
  cases e : er s hp with
  | ok ds hp1 =>
    rw [e] at p
    intro vs m1 b1 g1 x1 ok1 r1
    refine hk m1 b1 g1 hp1 σ s ok1 (sl.go x1) _ ?_
    dsimp only at p
    cases e2 : ek s hp1 with
    | ok zs hp2 =>
      rw [e2] at p
      intro ws m2 b2 g2 x2 ok2 r2
      refine ⟨by rw [r1.length]; exact h1 _ _ _ _ e, by rw [r2.length]; exact h2 _ _ _ _ e2, m2, b2, hp2, gp pm (ds ++ zs), ok2, gp_rds ((r1.go x2).append r2) pm, hN _ ?_, p.go (x1.trans x2)⟩
      rw [List.length_append, h1 _ _ _ _ e, h2 _ _ _ _ e2]
    | exc xx hp2 =>
      rw [e2] at p
      exact fun c dx m2 b2 g2 x2 => p c dx m2 b2 g2 (x1.trans x2)
    | bad => rw [e2] at p; exact p.elim
  | exc xx hp1 => rw [e] at p; exact p
  | bad => rw [e] at p; exact p.elim
theorem xk_nil : PXKs K G W X [] aNil 0 := ⟨⟨fun pos pins z σ H Q I ⟨m, b, hp, sl, ok, ss, q⟩ => pk_nil.run pos pins z σ H Q I (snA_nil m b H hp σ sl ok ss Q q)⟩, arN_nil⟩
theorem xk_cons (ha : PX K G W X e ev) (hr : PXKs K G W X kws er n) : PXKs K G W X (⟨nm, e, kpos⟩ :: kws) (aCons ev er) (n + 1) :=
  ⟨⟨fun pos pins z σ H Q I ⟨m, b, hp, sl, ok, ss, q⟩ => (pk_cons ha hr.pk).run pos pins z σ H Q I (snA_cons sn_of snA_of m b H hp σ sl ok ss Q q)⟩, arN_cons hr.ar⟩
theorem xcallK0 {f : Addr} {fd : FuncData} {ps ks : List Str} {N : Nat} (Fo : FnOk X.prog X.w X.K X.mg X.base (L2.CX X.prog X.w) k f fd ps (spEv K G F N)) (hr : Room k X.A) (hg : Gl X x) (hm : X.mg x = some (.ref f)) (hk : PySem.W.keepIn X.K (.ref f) = true) (hb : KBd X.K fd ps 0 ks pm) (tk : Takes X W) (hkw : PXKs K G W X kws ek m) (hm' : m = ks.length)
    (hN : ∀ ds : List D, ds.length = 0 + m → (gp pm ds).length = N)
    (named : KwNamed X pos kws ks := by exact ⟨rfl, rfl⟩) (hdb : (x == ("__debug__" : Str)) = false := by decide)
    (hpl : KwPlain X pos [] kws := by unfold KwPlain; rfl) :
    PX K G W X (.Call (.Name x p) [] kws pos) (eCallK F pm aNil ek) := by
  subst hm'
  exact px (pe_callKS0 Fo hr hg hm hk hb (fun σ => passAt tk σ) hkw.pk named hdb hpl) (sn_callKS snA_nil snA_of arN_nil hkw.ar hN)
theorem xcallK {f : Addr} {fd : FuncData} {ps ks : List Str} {N : Nat} (Fo : FnOk X.prog X.w X.K X.mg X.base (L2.CX X.prog X.w) k f fd ps (spEv K G F N)) (hr : Room k X.A) (hg : Gl X x) (hm : X.mg x = some (.ref f)) (hk : PySem.W.keepIn X.K (.ref f) = true) (hb : KBd X.K fd ps n ks pm) (tk : Takes X W) (ha : PXN K G W X (e :: es) er n) (hkw : PXKs K G W X kws ek m) (hm' : m = ks.length)
    (hN : ∀ ds : List D, ds.length = n + m → (gp pm ds).length = N)
    (named : KwNamed X pos kws ks := by exact ⟨rfl, rfl⟩) (hdb : (x == ("__debug__" : Str)) = false := by decide)
    (he : starEach (e :: es) X.env = (false, eval e X.env) :: starEach es X.env := by rfl) (hpl : KwPlain X pos (e :: es) kws := by unfold KwPlain; rfl) :
    PX K G W X (.Call (.Name x p) (e :: es) kws pos) (eCallK F pm er ek) := by
  subst hm'
  exact px (pe_callKS Fo hr hg hm hk hb (fun σ => passAt tk σ) ha.pa hkw.pk named hdb he hpl) (sn_callKS snA_of snA_of ha.ar hkw.ar hN)
/-! f[i](e, ..) -/
theorem call_pick {f : Expr} {tab : Nat → Option (List D → List O → RE)} (tk : Takes X W) (hK : X.K = K) (hf : PX K G W X f ef) (ha : PXN K G W X es er n)
    (ht : ∀ j F, tab j = some F → ∃ k fd ps, FnOk X.prog X.w X.K X.mg X.base (L2.CX X.prog X.w) k (G.fa j) fd ps (spEv K G F n) ∧ Room k X.A ∧ PySem.W.keepIn X.K (.ref (G.fa j)) = true ∧ Binds X.K fd ps [])
    (hw : ∀ (fv : Value) (s : Shared) (Q : Value → Shared → Prop) (E : Value → Shared → Prop), PySem.W.keepIn X.K fv = true → X.K.In s.heap → PySem.wpAny (model X.prog X.w) X.A (spliced (backTo pos (starEach es X.env))) (fun us s1 => X.K.In s1.heap ∧ PySem.wpAny (model X.prog X.w) X.A (call fv us) Q E s1) E s →
      PySem.wpAny (model X.prog X.w) X.A (callWith pos fv [] (backTo pos (starEach es X.env)) (backToKw pos (keywordEach [] X.env))) Q E s)
    (hc : eval (.Call f es [] pos) X.env = (do callWith pos (← eval f X.env) [] (backTo pos (starEach es X.env)) (backToKw pos (keywordEach [] X.env)))) :
    PX K G W X (.Call f es [] pos) (eCallT tab ef er) := by
  subst hK
  refine ⟨fun pins z σ H Q I ⟨m, b, hp, s, ok, sl, p⟩ => ?_⟩
  unfold eCallT at p
  rw [hc]
  refine wpAny_bind (thn (hf.run pins z σ H (fun v H1 => ∃ j F m1 b1 hp1, v = .ref (G.fa j) ∧ tab j = some F ∧ Stp m b H m1 b1 H1 ∧ Ok X.K G m1 b1 H1 hp1 ∧ PostE X.K G m b H (match er s hp1 with
      | .ok ds hp2 => F ds hp2
      | .exc x hp2 => .exc x hp2
      | .bad => .bad) Q (fun c d H => W c d σ H)) I ⟨m, b, hp, s, ok, sl, ?_⟩) fun fv s1 hv => ?_)
  · cases e1 : ef s hp with
    | ok d hp1 =>
      rw [e1] at p
      cases d with
      | fn j =>
        dsimp only at p
        cases e2 : tab j with
        | none => rw [e2] at p; exact p.elim
        | some F =>
          rw [e2] at p
          intro v m1 b1 h1 x1 ok1 r1
          cases r1
          exact ⟨j, F, m1, b1, hp1, rfl, e2, x1, ok1, p⟩
      | _ => exact p.elim
    | exc xx hp1 => rw [e1] at p; exact p
    | bad => rw [e1] at p; exact p.elim
  · obtain ⟨v, H1, I1, rv, j, F, m1, b1, hp1, ev, et, x1, ok1, q⟩ := hv
    subst ev
    obtain rfl : fv = Value.ref (G.fa j) := rv
    obtain ⟨k, fd, ps, Fo, hr, hk, hb⟩ := ht _ _ et
    refine hw _ _ _ _ hk I1.kIn (thn (ha.pa.run pos pins s1 σ H1 (fun vs H2 => spEv X.K G F n vs H2 Q (WE W σ)) I1 ⟨m1, b1, hp1, s, ok1, sl.go x1, ?_⟩) fun us s2 ⟨vs, H2, I2, r2, q2⟩ => ⟨I2.kIn, run_fnS Fo hr hb (passAt tk σ) I2 r2 q2⟩)
    cases e3 : er s hp1 with
    | ok ds hp2 =>
      rw [e3] at q
      exact fun vs m2 b2 h2 x2 ok2 r2 => ⟨m2, b2, hp2, ds, ok2, r2, ha.ar _ _ _ _ e3, q.go (x1.trans x2)⟩
    | exc xx hp2 =>
      rw [e3] at q
      exact fun c dx m2 b2 h2 x2 => q c dx m2 b2 h2 (x1.trans x2)
    | bad => rw [e3] at q; exact q.elim
theorem xpick {f e : Expr} {es : List Expr} {tab : Nat → Option (List D → List O → RE)} (tk : Takes X W) (hK : X.K = K) (hf : PX K G W X f ef) (ha : PXN K G W X (e :: es) er n)
    (ht : ∀ j F, tab j = some F → ∃ k fd ps, FnOk X.prog X.w X.K X.mg X.base (L2.CX X.prog X.w) k (G.fa j) fd ps (spEv K G F n) ∧ Room k X.A ∧ PySem.W.keepIn X.K (.ref (G.fa j)) = true ∧ Binds X.K fd ps [])
    (hc : eval (.Call f (e :: es) [] pos) X.env = (do callWith pos (← eval f X.env) [] (backTo pos (starEach (e :: es) X.env)) (backToKw pos (keywordEach [] X.env))) := by rfl)
    (he : starEach (e :: es) X.env = (false, eval e X.env) :: starEach es X.env := by rfl) (hpl : (backTo pos (starEach es X.env)).any (·.1) = false := by rfl) : PX K G W X (.Call f (e :: es) [] pos) (eCallT tab ef er) :=
  call_pick tk hK hf ha ht (fun fv s Q E hk hin hw => PySem.W.callWith_K (first := []) (h₀ := s.heap) hin hk hw he hpl) hc
end
end EV

namespace EV
open PySem L2 DV
open PyProof.Rows hiding St
/-! f[i]() -/
def eCallT0 (tab : Nat → Option (List D → List O → RE)) (ef : EE) : EE := fun s hp => match ef s hp with
  | .ok (.fn j) hp1 => (match tab j with
    | some F => F [] hp1
    | none => .bad)
  | .exc x hp1 => .exc x hp1
  | _ => .bad
/-! *row -/
def seqR (hp : List O) : D → Option (List D)
  | .tup xs => some xs
  | d => lstR hp d
def aStar (ea : EE) (er : EA) : EA := fun s hp => match ea s hp with
  | .ok d hp1 => (match seqR hp1 d with
    | some xs => (match er s hp1 with
      | .ok ds hp2 => .ok (xs ++ ds) hp2
      | .exc x hp2 => .exc x hp2
      | .bad => .bad)
    | none => .bad)
  | .exc x hp1 => .exc x hp1
  | .bad => .bad
/-! min, max of one list -/
def intsD : List D → Option (List Int)
  | [] => some []
  | .int i :: r => (intsD r).map (i :: ·)
  | _ :: _ => none
def minL : List Int → Option Int
  | [] => none
  | i :: r => match minL r with
    | none => some i
    | some j => some (if j < i then j else i)
def maxL : List Int → Option Int
  | [] => none
  | i :: r => match maxL r with
    | none => some i
    | some j => some (if i < j then j else i)
def fMin1 (hp : List O) (ds : List D) : Option D := match ds with
  | [d] => (lstR hp d).bind fun xs => (intsD xs).bind fun is => (minL is).map .int
  | _ => none
def fMax1 (hp : List O) (ds : List D) : Option D := match ds with
  | [d] => (lstR hp d).bind fun xs => (intsD xs).bind fun is => (maxL is).map .int
  | _ => none
theorem minL_ok : ∀ {is : List Int} {m : Int}, minL is = some m → m ∈ is ∧ ∀ y ∈ is, m ≤ y
  | [], m, e => by cases e
  | i :: r, m, e => by
    unfold minL at e
    cases e1 : minL r with
    | none =>
      rw [e1] at e
      cases e
      cases r with
      | nil => exact ⟨List.mem_cons_self, fun y hy => by rw [List.mem_singleton.mp hy]; omega⟩
      | cons a b =>
        unfold minL at e1
        cases e2 : minL b with
        | none => rw [e2] at e1; cases e1
        | some j => rw [e2] at e1; cases e1
    | some j =>
      rw [e1] at e
      cases e
      obtain ⟨q1, q2⟩ := minL_ok e1
      refine ⟨?_, fun y hy => ?_⟩
      · split
        · exact List.mem_cons_of_mem _ q1
        · exact List.mem_cons_self
      · rcases List.mem_cons.mp hy with z | z
        · subst z; split <;> omega
        · have := q2 y z
          split <;> omega
theorem maxL_ok : ∀ {is : List Int} {m : Int}, maxL is = some m → m ∈ is ∧ ∀ y ∈ is, y ≤ m
  | [], m, e => by cases e
  | i :: r, m, e => by
    unfold maxL at e
    cases e1 : maxL r with
    | none =>
      rw [e1] at e
      cases e
      cases r with
      | nil => exact ⟨List.mem_cons_self, fun y hy => by rw [List.mem_singleton.mp hy]; omega⟩
      | cons a b =>
        unfold maxL at e1
        cases e2 : maxL b with
        | none => rw [e2] at e1; cases e1
        | some j => rw [e2] at e1; cases e1
    | some j =>
      rw [e1] at e
      cases e
      obtain ⟨q1, q2⟩ := maxL_ok e1
      refine ⟨?_, fun y hy => ?_⟩
      · split
        · exact List.mem_cons_of_mem _ q1
        · exact List.mem_cons_self
      · rcases List.mem_cons.mp hy with z | z
        · subst z; split <;> omega
        · have := q2 y z
          split <;> omega
/-! + that makes a list that changes -/
def eAddM (ea eb : EE) : EE := fun s hp => match ea s hp with
  | .ok d1 hp1 => (match eb s hp1 with
    | .ok d2 hp2 => (match lstOf hp2 d1, lstOf hp2 d2 with
      | some xs, some ys => if xs.length + ys.length ≤ 100000 then .ok (.ref hp2.length) (hp2 ++ [.lst (xs ++ ys)]) else .bad
      | _, _ => .bad)
    | .exc x hp2 => .exc x hp2
    | .bad => .bad)
  | .exc x hp1 => .exc x hp1
  | .bad => .bad
section
variable {K : PySem.W.Frag} {G : Gs} {W : WX} {X : Cx} {a b c e : Expr} {es : List Expr} {ea eb ef ev : EE} {er : EA} {ta tb : TE} {n : Nat} {x : Str} {p pos : Pos}
theorem rds_ints {m : List Addr} {bb : Hp} : ∀ {vs : List V} {ds : List D} {is : List Int}, RDs K G m bb vs ds → intsD ds = some is → vs = is.map V.int
  | _, _, _, .nil, e => by cases e; rfl
  | _, d :: ds, _, .cons r rs, e => by
    cases d with
    | int i =>
      unfold intsD at e
      cases e1 : intsD ds with
      | none => rw [e1] at e; cases e
      | some js =>
        rw [e1] at e
        cases e
        cases r
        rw [rds_ints rs e1]
        rfl
    | _ => cases e
theorem minL_pos {is : List Int} {m : Int} (h : m ∈ is) : 0 < is.length := List.length_pos_of_mem h
theorem ok_min1 : BiOk K G (rMin K) fMin1 := fun m b h hp xs ds d ok r e Q q => by
  match ds, e with
  | [d1], e =>
    obtain ⟨v, rfl, r1⟩ := r.len1
    obtain ⟨ys, e1, e⟩ := Option.bind_eq_some_iff.mp e
    obtain ⟨is, e2, e⟩ := Option.bind_eq_some_iff.mp e
    obtain ⟨m0, e3, e⟩ := Option.map_eq_some_iff.mp e
    subst e
    obtain ⟨a, vs, rfl, s, qa⟩ := lstR_ok ok r1 e1
    have := rds_ints qa e2
    subst this
    obtain ⟨h1, h2⟩ := minL_ok e3
    refine ⟨a, is, rfl, s, minL_pos h1, fun m hm hall => ?_⟩
    have : m = m0 := Int.le_antisymm (hall _ h1) (h2 _ hm)
    subst this
    exact q _ b h (Fr.rfl' ok.sub) (.int _)
theorem ok_max1 : BiOk K G (rMax K) fMax1 := fun m b h hp xs ds d ok r e Q q => by
  match ds, e with
  | [d1], e =>
    obtain ⟨v, rfl, r1⟩ := r.len1
    obtain ⟨ys, e1, e⟩ := Option.bind_eq_some_iff.mp e
    obtain ⟨is, e2, e⟩ := Option.bind_eq_some_iff.mp e
    obtain ⟨m0, e3, e⟩ := Option.map_eq_some_iff.mp e
    subst e
    obtain ⟨a, vs, rfl, s, qa⟩ := lstR_ok ok r1 e1
    have := rds_ints qa e2
    subst this
    obtain ⟨h1, h2⟩ := maxL_ok e3
    refine ⟨a, is, rfl, s, minL_pos h1, fun m hm hall => ?_⟩
    have : m = m0 := Int.le_antisymm (h2 _ hm) (hall _ h1)
    subst this
    exact q _ b h (Fr.rfl' ok.sub) (.int _)
theorem min1_ok (hK : X.K = K) (hc : X.calm = true) : CallR X (.builtin "min") (rMin K) := by subst hK; exact cr_min hc
theorem max1_ok (hK : X.K = K) (hc : X.calm = true) : CallR X (.builtin "max") (rMax K) := by subst hK; exact cr_max hc
theorem xpick0 {f : Expr} {tab : Nat → Option (List D → List O → RE)} (tk : Takes X W) (hK : X.K = K) (hf : PX K G W X f ef)
    (ht : ∀ j F, tab j = some F → ∃ k fd ps, FnOk X.prog X.w X.K X.mg X.base (L2.CX X.prog X.w) k (G.fa j) fd ps (spEv K G F 0) ∧ Room k X.A ∧ PySem.W.keepIn X.K (.ref (G.fa j)) = true ∧ Binds X.K fd ps [])
    (hc : eval (.Call f [] [] pos) X.env = (do callWith pos (← eval f X.env) [] (backTo pos (starEach [] X.env)) (backToKw pos (keywordEach [] X.env))) := by rfl) : PX K G W X (.Call f [] [] pos) (eCallT0 tab ef) := by
  subst hK
  refine ⟨fun pins z σ H Q I ⟨m, b, hp, s, ok, sl, p⟩ => ?_⟩
  unfold eCallT0 at p
  rw [hc]
  refine wpAny_bind (thn (hf.run pins z σ H (fun v H1 => ∃ j F m1 b1 hp1, v = .ref (G.fa j) ∧ tab j = some F ∧ Stp m b H m1 b1 H1 ∧ Ok X.K G m1 b1 H1 hp1 ∧ PostE X.K G m b H (F [] hp1) Q (fun c d H => W c d σ H)) I ⟨m, b, hp, s, ok, sl, ?_⟩) fun fv s1 hv => ?_)
  · cases e1 : ef s hp with
    | ok d hp1 =>
      rw [e1] at p
      cases d with
      | fn j =>
        dsimp only at p
        cases e2 : tab j with
        | none => rw [e2] at p; exact p.elim
        | some F =>
          rw [e2] at p
          intro v m1 b1 h1 x1 ok1 r1
          cases r1
          exact ⟨j, F, m1, b1, hp1, rfl, e2, x1, ok1, p⟩
      | _ => exact p.elim
    | exc xx hp1 => rw [e1] at p; exact p
    | bad => rw [e1] at p; exact p.elim
  · obtain ⟨v, H1, I1, rv, j, F, m1, b1, hp1, ev, et, x1, ok1, q⟩ := hv
    subst ev
    obtain rfl : fv = Value.ref (G.fa j) := rv
    obtain ⟨k, fd, ps, Fo, hr, hk, hb⟩ := ht _ _ et
    exact PySem.W.callWith_K0 (first := []) I1.kIn hk (run_fnS (us := []) (vs := []) Fo hr hb (passAt tk σ) I1 .nil ⟨m1, b1, hp1, [], ok1, .nil, rfl, q.go x1⟩)
/-- a row with a star in it -/
structure PXA1 (K : PySem.W.Frag) (G : Gs) (W : WX) (X : Cx) (es : List Expr) (er : EA) : Prop where
  pa : PA X es (tOfA K G W er)
theorem xa_of (h : PXN K G W X es er n) : PXA1 K G W X es er := ⟨h.pa⟩
theorem xa_cons1 (ha : PX K G W X e ev) (hr : PXA1 K G W X es er) (hs : starEach (e :: es) X.env = (false, eval e X.env) :: starEach es X.env := by rfl) : PXA1 K G W X (e :: es) (aCons ev er) :=
  ⟨⟨fun pos pins z σ H Q I ⟨m, b, hp, sl, ok, ss, q⟩ => (pa_cons ha hr.pa hs).run pos pins z σ H Q I (snA_cons sn_of snA_of m b H hp σ sl ok ss Q q)⟩⟩
theorem seqR_ok {m : List Addr} {bb h : Hp} {hp : List O} {v : V} {d : D} {xs : List D} (ok : Ok K G m bb h hp) (r : RD K G m bb v d) (e : seqR hp d = some xs) : ∃ a vs, v = .ref a ∧ (SqT K h a vs ∨ SqL K h a vs) ∧ RDs K G m bb vs xs := by
  have l : ∀ {d : D}, RD K G m bb v d → lstR hp d = some xs → ∃ a vs, v = .ref a ∧ (SqT K h a vs ∨ SqL K h a vs) ∧ RDs K G m bb vs xs := fun r e => by
    obtain ⟨a, vs, rfl, s, q⟩ := lstR_ok ok r e
    exact ⟨a, vs, rfl, .inr s, q⟩
  cases d with
  | tup ys =>
    cases e
    cases r with
    | tup s _ q => exact ⟨_, _, rfl, .inl (sqT_mono ok.sub s), q⟩
  | _ => exact l r e
theorem xa_star (hK : X.K = K) (ha : PX K G W X e ev) (hr : PXA1 K G W X es er) (hs : starEach (.Starred e p :: es) X.env = (true, eval e X.env) :: starEach es X.env := by rfl) : PXA1 K G W X (.Starred e p :: es) (aStar ev er) := by
  subst hK
  refine ⟨⟨fun pos pins z σ H Q I ⟨m, b, hp, s, ok, sl, q⟩ => (StX.pa_star ha hr.pa hs).run pos pins z σ H Q I ⟨m, b, hp, s, ok, sl, ?_⟩⟩⟩
  unfold aStar at q
  cases e1 : ev s hp with
  | ok d hp1 =>
    rw [e1] at q
    dsimp only at q
    cases e2 : seqR hp1 d with
    | none => rw [e2] at q; exact q.elim
    | some xs =>
      rw [e2] at q
      dsimp only at q
      intro v m1 b1 h1 x1 ok1 r1
      obtain ⟨a, vs, rfl, sq, rs⟩ := seqR_ok ok1 r1 e2
      refine ⟨a, vs, rfl, sq, m1, b1, hp1, s, ok1, sl.go x1, ?_⟩
      cases e3 : er s hp1 with
      | ok ds hp2 =>
        rw [e3] at q
        intro ws m2 b2 h2 x2 ok2 r2
        exact q _ m2 b2 h2 (x1.trans x2) ok2 ((rs.go x2).append r2)
      | exc xx hp2 =>
        rw [e3] at q
        exact fun c dx m2 b2 h2 x2 => q c dx m2 b2 h2 (x1.trans x2)
      | bad => rw [e3] at q; exact q.elim
  | exc xx hp1 => rw [e1] at q; exact q
  | bad => rw [e1] at q; exact q.elim
theorem xlst1 (h : PXA1 K G W X es er) : PX K G W X (.List es pos) (eLst er) := px (pe_lst h.pa) (sn_lst snA_of)
theorem xlstM1 (h : PXA1 K G W X es er) : PX K G W X (.List es pos) (eLstM er) := px (pe_lst h.pa) (sn_lstM snA_of)
theorem xtup1 {k : Nat} (h : PXA1 K G W X es er) : PX K G W X (.Tuple es k pos) (eTup er) := px (pe_tupF h.pa) (sn_tup snA_of)
theorem sn_addM (ha : SnE K G W ta ea) (hb : SnE K G W tb eb) : SnE K G W (tOp (rAddB K) ta tb) (eAddM ea eb) := fun m b h hp σ s ok sl Q p => by
  refine ha m b h hp σ s ok sl _ ?_
  unfold eAddM at p
  cases e : ea s hp with
  | ok d1 hp1 =>
    rw [e] at p
    dsimp only at p
    intro v m1 b1 h1 x1 ok1 r1
    refine hb m1 b1 h1 hp1 σ s ok1 (sl.go x1) _ ?_
    cases e2 : eb s hp1 with
    | ok d2 hp2 =>
      rw [e2] at p
      dsimp only at p
      intro w m2 b2 h2 x2 ok2 r2
      cases e3 : lstOf hp2 d1 with
      | none => rw [e3] at p; exact p.elim
      | some xs =>
        cases e4 : lstOf hp2 d2 with
        | none => rw [e3, e4] at p; exact p.elim
        | some ys =>
          rw [e3, e4] at p
          dsimp only at p
          split at p
          · rename_i hl
            obtain ⟨a, vs, rfl, ha', qa⟩ := lstOf_ok ok2 (r1.go x2) e3
            obtain ⟨c, ws, rfl, hc', qc⟩ := lstOf_ok ok2 r2 e4
            refine .inl (.inr (.inr (.inl ⟨_, _, _, _, rfl, rfl, ha', hc', ?_, fun q hq => ?_⟩)))
            · rw [qa.length, qc.length]; exact Nat.le_trans hl (by decide)
            · obtain ⟨ok3, st3, rd⟩ := ok2.new hq (qa.append qc)
              exact p _ _ _ _ ((x1.trans x2).trans st3) ok3 rd
          · exact p.elim
    | exc xx hp2 =>
      rw [e2] at p
      exact fun c dx m2 b2 h2 x2 => p c dx m2 b2 h2 (x1.trans x2)
    | bad => rw [e2] at p; exact p.elim
  | exc xx hp1 => rw [e] at p; exact p
  | bad => rw [e] at p; exact p.elim
theorem xaddM (hK : X.K = K) (ha : PX K G W X a ea) (hb : PX K G W X b eb) : PX K G W X (.BinOp a .Add b pos) (eAddM ea eb) := by subst hK; exact px (pe_op op_addB ha hb) (sn_addM sn_of sn_of)
end
end EV

/-! comprehensions of two clauses -/
namespace EV
open PySem L2 DV
def comp2Go (eg : EG) (et : EE) (ei1 : EI) (eg1 : EG) (et1 ee : EE) (vs1 : List Nat) (s : Sl) : List D → List O → RA
  | [], hp => .ok [] hp
  | d :: ds, hp => match eg s d with
    | some s1 => (match et s1 hp with
      | .ok (.bl c) hp1 => (match c with
        | true => (match ei1 s1 hp1 with
          | .ok ds1 hp2 => (match compGo eg1 et1 ee (wipeE s1 vs1) ds1 hp2 with
            | .ok ys hp3 => (match comp2Go eg et ei1 eg1 et1 ee vs1 s ds hp3 with
              | .ok zs hp4 => .ok (ys ++ zs) hp4
              | _ => .bad)
            | _ => .bad)
          | _ => .bad)
        | false => comp2Go eg et ei1 eg1 et1 ee vs1 s ds hp1)
      | _ => .bad)
    | none => .bad
def eComp2 (ei : EI) (eg : EG) (et : EE) (ei1 : EI) (eg1 : EG) (et1 ee : EE) (vs vs1 : List Nat) : EE := fun s hp => match ei s hp with
  | .ok ds hp1 => (match comp2Go eg et ei1 eg1 et1 ee vs1 (wipeE s vs) ds hp1 with
    | .ok ys hp2 => if ys.length ≤ 100000 then .ok (.lst ys) hp2 else .bad
    | _ => .bad)
  | .exc x hp1 => .exc x hp1
  | .bad => .bad
theorem it_go {J : It} {n : Nat} {G : Hp → Prop} {Y : Nat → Hp → V → Hp → Prop} (w : Walk J n G Y) {H0 : Hp} {Bd : V → Hp → (Hp → Prop) → Prop} {Qd : Hp → Prop} (Pv : Nat → Hp → Prop) (h0 : Pv 0 H0) (hG : ∀ i H, i ≤ n → Pv i H → G H)
    (hs : ∀ i x H H', i < n → Pv i H → Y i H x H' → Bd x H' (Pv (i + 1))) (hd : ∀ H, Pv n H → Qd H) :
    ∃ W : Nat → Nat → Hp → Prop, (∃ m, W 0 m H0) ∧ ∀ i m H, W i m H → (J.stop i H ∧ Qd H) ∨ (J.go i H ∧ ∃ Nx : Hp → Prop, (∀ H', Nx H' → ∃ m', m' < m ∧ W (i + 1) m' H') ∧ ∀ x H', J.yld i H x H' → Bd x H' Nx) := by
  refine ⟨fun i m H => m = n - i ∧ (i ≤ n ∧ Pv i H), ⟨n, (Nat.sub_zero n).symm, Nat.zero_le n, h0⟩, ?_⟩
  rintro i m H ⟨rfl, hi, p⟩
  have q := hG i H hi p
  by_cases hlt : i < n
  · exact .inr ⟨w.goes i H hlt q, Pv (i + 1), fun H' p' => ⟨n - (i + 1), by omega, rfl, hlt, p'⟩, fun x H' y => hs i x H H' hlt p (w.yields i H x H' hlt q y)⟩
  · have e : i = n := by omega
    subst e
    exact Or.inl (And.intro (w.stops H q) (hd H p))
section
variable {K : PySem.W.Frag} {G : Gs} {W : WX} {ei ei1 : EI} {eg eg1 : EG} {et et1 ee : EE} {wi wi1 : TI} {g g1 : TG} {tt tt1 : TT} {te : TE} {ns ns1 vs vs1 : List Nat}
theorem comp_inner (hg : SnG K G ns g eg) (hs : ∀ i ∈ ns, i ∈ vs) (ht : SnT K G WF tt et) (he : SnE K G WF te ee) {m0 m : List Addr} {b0 h0 b H0 : Hp} {hp : List O} {σ : St} {s : Sl} {P : Addr} (hP : h0 P = none) (st0 : Stp m0 b0 h0 m b H0) (ok : Ok K G m b H0 hp) (sl : Sls K G m b σ s) {J : It} {ds : List D}
    (wk : WOk K G m b J ds) (bP : b P = none) (mP : P ∉ m) {acc0 : List V} {done0 : List D} (hA0 : H0 P = some (.lst acc0)) (rA0 : RDs K G m b acc0 done0) {ys : List D} {hpf : List O} (e : compGo eg et ee (wipeE s vs) ds hp = .ok ys hpf) (hT : done0.length + ys.length ≤ 100000) {Qd : Hp → Prop}
    (q : ∀ m' ms b' h' acc, m' = m ++ ms → Same b b' → Stp m0 b0 h0 m' b' h' → Ok K G m' b' h' hpf → b' P = none → P ∉ m' → h' P = some (.lst acc) → RDs K G m' b' acc (done0 ++ ys) → Qd h') :
    ∃ Wk : Nat → Nat → Hp → Prop, (∃ k, Wk 0 k H0) ∧ ∀ i k H, Wk i k H → (J.stop i H ∧ Qd H) ∨ (J.go i H ∧ ∃ Nx : Hp → Prop, (∀ H', Nx H' → ∃ k', k' < k ∧ Wk (i + 1) k' H') ∧ ∀ x H', J.yld i H x H' → g x (wipe σ vs) H' fun σ2 H2 => wipe σ2 vs = wipe σ vs ∧ tt σ2 H2 fun b H3 =>
        if b = true then te σ2 H3 fun y H4 => ∃ acc, H4 P = some (.lst acc) ∧ acc.length < sizeLine ∧ Nx (upd H4 P (.lst (acc ++ [y]))) else Nx H3) := by
  obtain ⟨Gd, Y, w, hG, hY⟩ := wk
  let Pv : Nat → Hp → Prop := fun i H => i ≤ ds.length ∧ ∃ m' ms b' hp' acc done rest, m' = m ++ ms ∧ Same b b' ∧ Stp m0 b0 h0 m' b' H ∧ Ok K G m' b' H hp' ∧ b' P = none ∧ P ∉ m' ∧ H P = some (.lst acc) ∧ RDs K G m' b' acc done ∧ compGo eg et ee (wipeE s vs) (ds.drop i) hp' = .ok rest hpf ∧ done ++ rest = done0 ++ ys
  refine it_go w (Bd := fun x H' Nx => g x (wipe σ vs) H' fun σ2 H2 => wipe σ2 vs = wipe σ vs ∧ tt σ2 H2 fun b H3 =>
        if b = true then te σ2 H3 fun y H4 => ∃ acc, H4 P = some (.lst acc) ∧ acc.length < sizeLine ∧ Nx (upd H4 P (.lst (acc ++ [y]))) else Nx H3) Pv ?_ (fun i H hi pv => ?_) (fun i x H H' hi pv yy => ?_) (fun H pv => ?_)
  · exact ⟨Nat.zero_le _, m, [], b, hp, acc0, done0, ys, (List.append_nil m).symm, Same.refl b, st0, ok, bP, mP, hA0, rA0, e, rfl⟩
  · obtain ⟨_, m', ms, b', hp', acc, done, rest, em, sb, st, ok', _⟩ := pv
    exact hG b' H sb ok'.sub
  · obtain ⟨_, m', ms, b', hp', acc, done, rest, em, sb, st, ok', bP', mP', hA, rA, ec, ey⟩ := pv
    obtain ⟨b2, d, F, ed, rd⟩ := hY i H x H' yy hi m' ms b' em sb ok'.sub
    have st2 : Stp m' b' H m' b2 H' := Stp.pure F
    have ok2 := ok'.pure F
    have sl0 : Sls K G m' b' σ s := ⟨sl.len, fun i d e => let ⟨v, e1, e2⟩ := sl.at' i d e; ⟨v, e1, e2.mono em sb⟩⟩
    have sl2 : Sls K G m' b2 (wipe σ vs) (wipeE s vs) := (sl0.go st2).wipe vs
    have hdrop : ds.drop i = d :: ds.drop (i + 1) := by
      obtain ⟨lt, e0⟩ := List.getElem?_eq_some_iff.mp ed
      rw [← e0]; exact List.drop_eq_getElem_cons lt
    rw [hdrop] at ec
    unfold compGo at ec
    cases e1 : eg (wipeE s vs) d with
    | none => rw [e1] at ec; cases ec
    | some s1 =>
      rw [e1] at ec
      dsimp only at ec
      refine hg m' b2 H' _ _ x d s1 ok2.sub sl2 rd e1 _ fun σ2 on sl3 => ⟨on.wipe hs, ?_⟩
      cases e2 : et s1 hp' with
      | ok dt hp1 =>
        rw [e2] at ec
        cases dt with
        | bl c =>
          dsimp only at ec
          refine snT_use ht ok2 sl3 (fun c' hpx ex m3 b3 H3 st3 ok3 => ?_) (fun x' hpx ex => by rw [e2] at ex; cases ex) (.inl ⟨c, hp1, e2⟩)
          rw [e2] at ex; cases ex
          have o2 := st2.own bP' mP' hA
          have o3 := st3.own o2.1 o2.2.1 o2.2.2
          have stA := (st.trans st2).trans st3
          obtain ⟨ms3, em3, _⟩ := st3.pre
          have em3' : m3 = m ++ (ms ++ ms3) := by rw [em3, em, List.append_assoc]
          have sb3 := (sb.trans st2.base).trans st3.base
          cases c with
          | true =>
            rw [if_pos rfl]
            dsimp only at ec
            cases e3 : ee s1 hp1 with
            | ok y hp2 =>
              rw [e3] at ec
              dsimp only at ec
              cases e4 : compGo eg et ee (wipeE s vs) (ds.drop (i + 1)) hp2 with
              | ok rs hp3 =>
                rw [e4] at ec
                cases ec
                refine he m3 b3 H3 hp1 σ2 s1 ok3 (sl3.go st3) _ ?_
                rw [e3]
                intro v m4 b4 H4 st4 ok4 r4
                have o4 := st4.own o3.1 o3.2.1 o3.2.2
                obtain ⟨ms4, em4, _⟩ := st4.pre
                refine ⟨acc, o4.2.2, ?_, hi, m4, ms ++ ms3 ++ ms4, b4, hp2, acc ++ [v], done ++ [y], rs, ?_, sb3.trans st4.base, (stA.trans st4).off hP o4.1, ok4.off o4.1 o4.2.1, o4.1, o4.2.1, upd_same, ?_, e4, ?_⟩
                · have hl := congrArg List.length ey
                  rw [List.length_append, List.length_append, List.length_cons] at hl
                  rw [rA.length]
                  exact Nat.lt_of_le_of_lt (by omega : done.length ≤ 100000) (by decide)
                · rw [em4, em3']; simp [List.append_assoc]
                · exact ((((rA.go st2).go st3).go st4).append (.cons r4 .nil))
                · rw [List.append_assoc]; exact ey
              | exc _ _ => rw [e4] at ec; cases ec
              | bad => rw [e4] at ec; cases ec
            | exc _ _ => rw [e3] at ec; cases ec
            | bad => rw [e3] at ec; cases ec
          | false =>
            rw [if_neg Bool.false_ne_true]
            exact ⟨hi, m3, ms ++ ms3, b3, hp1, acc, done, rest, em3', sb3, stA, ok3, o3.1, o3.2.1, o3.2.2, (rA.go st2).go st3, ec, ey⟩
        | _ => cases ec
      | exc _ _ => rw [e2] at ec; cases ec
      | bad => rw [e2] at ec; cases ec
  · obtain ⟨_, m', ms, b', hp', acc, done, rest, em, sb, st, ok', bP', mP', hA, rA, ec, ey⟩ := pv
    rw [List.drop_length] at ec
    unfold compGo at ec
    cases ec
    rw [List.append_nil] at ey
    subst ey
    exact q m' ms b' H acc em sb st ok' bP' mP' hA rA
theorem comp2_core (hg : SnG K G ns g eg) (hs : ∀ i ∈ ns, i ∈ vs) (ht : SnT K G WF tt et) (hi1 : SnI K G WF wi1 ei1) (hg1 : SnG K G ns1 g1 eg1) (hs1 : ∀ i ∈ ns1, i ∈ vs1) (ht1 : SnT K G WF tt1 et1) (he : SnE K G WF te ee) {m : List Addr} {b h : Hp} {hp : List O} {σ : St} {s : Sl} (ok : Ok K G m b h hp) (sl : Sls K G m b σ s) {J : It} {ds : List D}
    (wk : WOk K G m b J ds) {ys : List D} {hpf : List O} (e : comp2Go eg et ei1 eg1 et1 ee vs1 (wipeE s vs) ds hp = .ok ys hpf) (hT : ys.length ≤ 100000) {P : Addr} (hP : h P = none) {Qd : Hp → Prop}
    (q : ∀ m' b' h' acc, Stp m b h m' b' h' → Ok K G m' b' h' hpf → b' P = none → P ∉ m' → h' P = some (.lst acc) → RDs K G m' b' acc ys → Qd h') :
    ∃ Wk : Nat → Nat → Hp → Prop, (∃ k, Wk 0 k (upd h P (.lst []))) ∧ ∀ i k H, Wk i k H → (J.stop i H ∧ Qd H) ∨ (J.go i H ∧ ∃ Nx : Hp → Prop, (∀ H', Nx H' → ∃ k', k' < k ∧ Wk (i + 1) k' H') ∧ ∀ x H', J.yld i H x H' → g x (wipe σ vs) H' fun σ2 H2 => wipe σ2 vs = wipe σ vs ∧ tt σ2 H2 fun b H3 => if b = true then wi1 σ2 H3 fun J1 H4 => ∃ W1 : Nat → Nat → Hp → Prop, (∃ m, W1 0 m H4) ∧ ∀ j k H, W1 j k H → (J1.stop j H ∧ Nx H) ∨ (J1.go j H ∧ ∃ Nx1 : Hp → Prop, (∀ H', Nx1 H' → ∃ k', k' < k ∧ W1 (j + 1) k' H') ∧ ∀ x H', J1.yld j H x H' → g1 x (wipe σ2 vs1) H' fun σ3 H5 => wipe σ3 vs1 = wipe σ2 vs1 ∧ tt1 σ3 H5 fun b H6 => if b = true then te σ3 H6 fun y H7 => ∃ acc, H7 P = some (.lst acc) ∧ acc.length < sizeLine ∧ Nx1 (upd H7 P (.lst (acc ++ [y]))) else Nx1 H6) else Nx H3) := by
  obtain ⟨Gd, Y, w, hG, hY⟩ := wk
  have bP : b P = none := ok.sub.free hP
  have mP : P ∉ m := ok.notin hP
  let Pv : Nat → Hp → Prop := fun i H => i ≤ ds.length ∧ ∃ m' b' hp' acc done rest, Stp m b h m' b' H ∧ Ok K G m' b' H hp' ∧ b' P = none ∧ P ∉ m' ∧ H P = some (.lst acc) ∧ RDs K G m' b' acc done ∧ comp2Go eg et ei1 eg1 et1 ee vs1 (wipeE s vs) (ds.drop i) hp' = .ok rest hpf ∧ done ++ rest = ys
  refine it_go w (Bd := fun x H' Nx => g x (wipe σ vs) H' fun σ2 H2 => wipe σ2 vs = wipe σ vs ∧ tt σ2 H2 fun b H3 => if b = true then wi1 σ2 H3 fun J1 H4 => ∃ W1 : Nat → Nat → Hp → Prop, (∃ m, W1 0 m H4) ∧ ∀ j k H, W1 j k H → (J1.stop j H ∧ Nx H) ∨ (J1.go j H ∧ ∃ Nx1 : Hp → Prop, (∀ H', Nx1 H' → ∃ k', k' < k ∧ W1 (j + 1) k' H') ∧ ∀ x H', J1.yld j H x H' → g1 x (wipe σ2 vs1) H' fun σ3 H5 => wipe σ3 vs1 = wipe σ2 vs1 ∧ tt1 σ3 H5 fun b H6 => if b = true then te σ3 H6 fun y H7 => ∃ acc, H7 P = some (.lst acc) ∧ acc.length < sizeLine ∧ Nx1 (upd H7 P (.lst (acc ++ [y]))) else Nx1 H6) else Nx H3) Pv ?_ (fun i H hi pv => ?_) (fun i x H H' hi pv yy => ?_) (fun H pv => ?_)
  · exact ⟨Nat.zero_le _, m, b, hp, [], [], ys, (Stp.rfl' ok.sub).off hP bP, ok.off bP mP, bP, mP, upd_same, .nil, e, rfl⟩
  · obtain ⟨_, m', b', hp', acc, done, rest, st, ok', _⟩ := pv
    exact hG b' H st.base ok'.sub
  · obtain ⟨_, m', b', hp', acc, done, rest, st, ok', bP', mP', hA, rA, ec, ey⟩ := pv
    obtain ⟨ms, em, _⟩ := st.pre
    obtain ⟨b2, d, F, ed, rd⟩ := hY i H x H' yy hi m' ms b' em st.base ok'.sub
    have st2 : Stp m' b' H m' b2 H' := Stp.pure F
    have ok2 := ok'.pure F
    have sl2 : Sls K G m' b2 (wipe σ vs) (wipeE s vs) := ((sl.go st).go st2).wipe vs
    have hdrop : ds.drop i = d :: ds.drop (i + 1) := by
      obtain ⟨lt, e0⟩ := List.getElem?_eq_some_iff.mp ed
      rw [← e0]; exact List.drop_eq_getElem_cons lt
    rw [hdrop] at ec
    unfold comp2Go at ec
    cases e1 : eg (wipeE s vs) d with
    | none => rw [e1] at ec; cases ec
    | some s1 =>
      rw [e1] at ec
      dsimp only at ec
      refine hg m' b2 H' _ _ x d s1 ok2.sub sl2 rd e1 _ fun σ2 on sl3 => ⟨on.wipe hs, ?_⟩
      cases e2 : et s1 hp' with
      | ok dt hp1 =>
        rw [e2] at ec
        cases dt with
        | bl c =>
          dsimp only at ec
          refine snT_use ht ok2 sl3 (fun c' hpx ex m3 b3 H3 st3 ok3 => ?_) (fun x' hpx ex => by rw [e2] at ex; cases ex) (.inl ⟨c, hp1, e2⟩)
          rw [e2] at ex; cases ex
          have o2 := st2.own bP' mP' hA
          have o3 := st3.own o2.1 o2.2.1 o2.2.2
          have stA := (st.trans st2).trans st3
          cases c with
          | true =>
            rw [if_pos rfl]
            dsimp only at ec
            cases e3 : ei1 s1 hp1 with
            | ok ds1 hp2 =>
              rw [e3] at ec
              dsimp only at ec
              cases e4 : compGo eg1 et1 ee (wipeE s1 vs1) ds1 hp2 with
              | ok zs hp3 =>
                rw [e4] at ec
                dsimp only at ec
                cases e5 : comp2Go eg et ei1 eg1 et1 ee vs1 (wipeE s vs) (ds.drop (i + 1)) hp3 with
                | ok rs hp4 =>
                  rw [e5] at ec
                  cases ec
                  refine hi1 m3 b3 H3 hp1 σ2 s1 ok3 (sl3.go st3) _ ?_
                  rw [e3]
                  intro m4 b4 H4 J1 st4 ok4 wk1
                  have o4 := st4.own o3.1 o3.2.1 o3.2.2
                  have rA4 := ((rA.go st2).go st3).go st4
                  have hl := congrArg List.length ey
                  rw [List.length_append, List.length_append] at hl
                  refine comp_inner hg1 hs1 ht1 he hP (stA.trans st4) ok4 ((sl3.go st3).go st4) wk1 o4.1 o4.2.1 o4.2.2 rA4 e4 (by omega) fun m5 ms5 b5 H5 acc5 em5 sb5 st5 ok5 bP5 mP5 hA5 rA5 => ?_
                  exact ⟨hi, m5, b5, hp3, acc5, done ++ zs, rs, st5, ok5, bP5, mP5, hA5, rA5, e5, by rw [List.append_assoc]; exact ey⟩
                | exc _ _ => rw [e5] at ec; cases ec
                | bad => rw [e5] at ec; cases ec
              | exc _ _ => rw [e4] at ec; cases ec
              | bad => rw [e4] at ec; cases ec
            | exc _ _ => rw [e3] at ec; cases ec
            | bad => rw [e3] at ec; cases ec
          | false =>
            rw [if_neg Bool.false_ne_true]
            exact ⟨hi, m3, b3, hp1, acc, done, rest, stA, ok3, o3.1, o3.2.1, o3.2.2, (rA.go st2).go st3, ec, ey⟩
        | _ => cases ec
      | exc _ _ => rw [e2] at ec; cases ec
      | bad => rw [e2] at ec; cases ec
  · obtain ⟨_, m', b', hp', acc, done, rest, st, ok', bP', mP', hA, rA, ec, ey⟩ := pv
    rw [List.drop_length] at ec
    unfold comp2Go at ec
    cases ec
    rw [List.append_nil] at ey
    subst ey
    exact q m' b' H acc st ok' bP' mP' hA rA
theorem sn_comp2 (hi : SnI K G W wi ei) (hg : SnG K G ns g eg) (hs : ∀ i ∈ ns, i ∈ vs) (ht : SnT K G WF tt et) (hi1 : SnI K G WF wi1 ei1) (hg1 : SnG K G ns1 g1 eg1) (hs1 : ∀ i ∈ ns1, i ∈ vs1) (ht1 : SnT K G WF tt1 et1) (he : SnE K G WF te ee) : SnE K G W (tLc2 wi g tt wi1 g1 tt1 te vs vs1) (eComp2 ei eg et ei1 eg1 et1 ee vs vs1) := fun m b h hp σ s ok sl Q p => by
  refine hi m b h hp σ s ok sl _ ?_
  unfold eComp2 at p
  cases e : ei s hp with
  | bad => rw [e] at p; exact p.elim
  | exc x hp1 => rw [e] at p; exact p
  | ok ds hp1 =>
    rw [e] at p
    dsimp only at p ⊢
    cases e1 : comp2Go eg et ei1 eg1 et1 ee vs1 (wipeE s vs) ds hp1 with
    | ok ys hp2 =>
      rw [e1] at p
      dsimp only at p
      split at p
      · rename_i hl
        intro m1 b1 h1 J x1 ok1 wk P hP
        refine comp2_core hg hs ht hi1 hg1 hs1 ht1 he ok1 (sl.go x1) wk e1 hl hP fun m' b' h' acc st ok' bP mP hA rA => ?_
        have st' := st.seal hP bP hA
        exact p _ m' _ h' (x1.trans st') (ok'.seal bP mP hA) (.lst upd_same (rA.monoB (Fr.seal ok'.sub bP hA).1))
      · exact p.elim
    | exc _ _ => rw [e1] at p; exact p.elim
    | bad => rw [e1] at p; exact p.elim
end
section
variable {K : PySem.W.Frag} {G : Gs} {W : WX} {X : Cx} {ei ei1 : EI} {eg eg1 : EG} {et et1 ev : EE} {ns ns1 vs1 : List Nat} {elt tg e tg1 e1 : Expr} {ifs ifs1 : List Expr} {scope : Scope} {own : List (Str × Nat)} {pos : Pos}
theorem xcomp2 (hc : X.calm = true) (hN : X.N.Nodup) (hi : PXI K G W X tg e ei) (ok : BlkOk X.N X.env.scope scope own) (hv : ∀ i ∈ vs1, i ∈ own.map (·.2)) (hs0 : ∀ i ∈ ns, i ∈ own.map (·.2)) (hs1 : ∀ i ∈ ns1, i ∈ vs1)
    (hg : ∃ g, (∀ (s : Shared) (H : Hp) (C : Addr) (cl : List (Str × Addr)) (fp : List Addr), PG (X.blk s H scope (compEnvC scope cl C X.env) fp) tg g) ∧ SnG K G ns g eg)
    (ht : ∀ (s : Shared) (H : Hp) (C : Addr) (cl : List (Str × Addr)) (fp : List Addr), PXTs K G (X.blk s H scope (compEnvC scope cl C X.env) fp) ifs et)
    (hi1 : ∀ (s : Shared) (H : Hp) (C : Addr) (cl : List (Str × Addr)) (fp : List Addr), PXI K G WF (X.blk s H scope (compEnvC scope cl C X.env) fp) tg1 e1 ei1)
    (hg1 : ∃ g, (∀ (s : Shared) (H : Hp) (C : Addr) (cl : List (Str × Addr)) (fp : List Addr), PG (X.blk s H scope (compEnvC scope cl C X.env) fp) tg1 g) ∧ SnG K G ns1 g eg1)
    (ht1 : ∀ (s : Shared) (H : Hp) (C : Addr) (cl : List (Str × Addr)) (fp : List Addr), PXTs K G (X.blk s H scope (compEnvC scope cl C X.env) fp) ifs1 et1)
    (he : ∀ (s : Shared) (H : Hp) (C : Addr) (cl : List (Str × Addr)) (fp : List Addr), PX K G WF (X.blk s H scope (compEnvC scope cl C X.env) fp) elt ev) (hs : ∀ x, foldedSetIterable e X.env x = pure x := by intro _; rfl) (hs2 : ∀ env x, foldedSetIterable e1 env x = pure x := by intro _ _; rfl) :
    PX K G W X (.ListComp elt [⟨tg, e, ifs, 0⟩, ⟨tg1, e1, ifs1, 0⟩] scope pos) (eComp2 ei eg et ei1 eg1 et1 ev (own.map (·.2)) vs1) := by
  obtain ⟨g, g1, g2⟩ := hg
  obtain ⟨g', g3, g4⟩ := hg1
  exact px (pe_lc2 hc hN hi ok hv g1 ht hi1 g3 ht1 he hs hs2) (sn_comp2 PXI.sn g2 hs0 snT_of PXI.sn g4 hs1 snT_of sn_of)
theorem xsetlc2 {i : Nat} {y : Str} {py spos : Pos} (hc : X.calm = true) (hN : X.N.Nodup) (hy : X.N[i]? = some y) (hyl : X.env.scope.names.lookup y = some .local)
    (hsw : swapsWith (.ListComp elt [⟨tg, e, ifs, 0⟩, ⟨tg1, e1, ifs1, 0⟩] scope pos) (some (.Name y py)) spos.line X.env = pure true) (hi : PXI K G W X tg e ei) (ok : BlkOk X.N X.env.scope scope own) (hv : ∀ i ∈ vs1, i ∈ own.map (·.2)) (hs0 : ∀ i ∈ ns, i ∈ own.map (·.2)) (hs1 : ∀ i ∈ ns1, i ∈ vs1)
    (hg : ∃ g, (∀ (s : Shared) (H : Hp) (C : Addr) (cl : List (Str × Addr)) (fp : List Addr), PG (X.blk s H scope (compEnvC scope cl C X.env) fp) tg g) ∧ SnG K G ns g eg)
    (ht : ∀ (s : Shared) (H : Hp) (C : Addr) (cl : List (Str × Addr)) (fp : List Addr), PXTs K G (X.blk s H scope (compEnvC scope cl C X.env) fp) ifs et)
    (hi1 : ∀ (s : Shared) (H : Hp) (C : Addr) (cl : List (Str × Addr)) (fp : List Addr), PXI K G WF (X.blk s H scope (compEnvC scope cl C X.env) fp) tg1 e1 ei1)
    (hg1 : ∃ g, (∀ (s : Shared) (H : Hp) (C : Addr) (cl : List (Str × Addr)) (fp : List Addr), PG (X.blk s H scope (compEnvC scope cl C X.env) fp) tg1 g) ∧ SnG K G ns1 g eg1)
    (ht1 : ∀ (s : Shared) (H : Hp) (C : Addr) (cl : List (Str × Addr)) (fp : List Addr), PXTs K G (X.blk s H scope (compEnvC scope cl C X.env) fp) ifs1 et1)
    (he : ∀ (s : Shared) (H : Hp) (C : Addr) (cl : List (Str × Addr)) (fp : List Addr), PX K G WF (X.blk s H scope (compEnvC scope cl C X.env) fp) elt ev) (hs : ∀ x, foldedSetIterable e X.env x = pure x := by intro _; rfl) (hs2 : ∀ env x, foldedSetIterable e1 env x = pure x := by intro _ _; rfl) :
    PXS K G W X (.Assign [.Name y py] (.ListComp elt [⟨tg, e, ifs, 0⟩, ⟨tg1, e1, ifs1, 0⟩] scope pos) spos) (sAsg (eComp2 ei eg et ei1 eg1 et1 ev (own.map (·.2)) vs1) (gNm i)) := by
  obtain ⟨g, g1, g2⟩ := hg
  obtain ⟨g', g3, g4⟩ := hg1
  exact pxS (ps_setLc2 hc hN hy hyl hsw hi ok hv g1 ht hi1 g3 ht1 he hs hs2) (snS_asg (sn_comp2 PXI.sn g2 hs0 snT_of PXI.sn g4 hs1 snT_of sn_of) (snG_name i))
end
end EV

namespace EV
open PySem L2 DV
open PyProof.Rows hiding St
/-! tuple * k, k up to 1 -/
section
variable (l : Addr) (items : Array Value) (n : Nat) (dd : Option Addr) (sl : Array (Option Value)) (x : Int) (u : Tok)
abbrev tupO (items : Array Value) (n : Nat) (dd : Option Addr) (sl : Array (Option Value)) : Obj := { cls := .type "tuple", dict := dd, data := .seq items n, slots := sl }
theorem tuple_mulS (c0 : ¬ (decide (x < -(2 ^ 63)) || decide (x ≥ 2 ^ 63)) = true) (c1 : (items.isEmpty || x == 1) = true) :
    Meets (Builtin.«tuple.__mul__» ⟨[.ref l, .int x u], []⟩) (fun _ R s => s.heap.get? l = some (tupO items n dd sl) ∧ R (.ok (.ret (Value.ref l))) s) := by
  refine .of_wp ?_
  rintro prog w A R ⟨hp, g, d, tk, os⟩ ⟨hl, h⟩
  have f1 := AutoSeq1.idx_int
  wp_walk using (wpAny_loadPart' hl)
  repeat (first
    | (refine wpAny_ite_false (decide_eq_false c0) ?_; wp_walk using (wpAny_loadPart' hl))
    | (refine wpAny_ite_true (decide_eq_true c1) ?_; wp_walk using (wpAny_loadPart' hl)))
  exact ⟨_, rfl, h⟩
theorem tuple_mulZ (c0 : ¬ (decide (x < -(2 ^ 63)) || decide (x ≥ 2 ^ 63)) = true) (c1 : ¬ (items.isEmpty || x == 1) = true) (c2 : (decide (x ≤ 0) || items.isEmpty) = true) :
    Meets (Builtin.«tuple.__mul__» ⟨[.ref l, .int x u], []⟩) (fun _ R s => s.heap.get? l = some (tupO items n dd sl) ∧ R (.ok (.ret (Value.ref s.heap.objs.size))) { s with heap := s.heap.push { cls := Value.type "tuple", data := Data.seq #[] }, toks := s.toks }) := by
  refine .of_wp ?_
  rintro prog w A R ⟨hp, g, d, tk, os⟩ ⟨hl, h⟩
  have f1 := AutoSeq1.idx_int
  wp_walk using (wpAny_loadPart' hl)
  repeat (first
    | (refine wpAny_ite_false (decide_eq_false c0) ?_; wp_walk using (wpAny_loadPart' hl))
    | (refine wpAny_ite_false (decide_eq_false c1) ?_; wp_walk using (wpAny_loadPart' hl))
    | (refine wpAny_ite_true (decide_eq_true c2) ?_; wp_walk using (wpAny_loadPart' hl)))
  exact ⟨_, rfl, h⟩
end
def rRepS (K : PySem.W.Frag) : R2 := fun x y H Q => ∃ l k xs, x = .ref l ∧ y = .int k ∧ SqT K H l xs ∧ -(2 ^ 63) ≤ k ∧ k < 2 ^ 63 ∧ (xs = [] ∨ k = 1) ∧ Q (.ref l) H
def rRepZ (K : PySem.W.Frag) : R2 := fun x y H Q => ∃ l k xs, x = .ref l ∧ y = .int k ∧ SqT K H l xs ∧ -(2 ^ 63) ≤ k ∧ k ≤ 0 ∧ xs ≠ [] ∧ NewT H [] Q
section
variable {X : Cx} {pins : List (Addr × Obj)} {σ : L2.St} {H : Hp} {s : Shared} {l : Addr} {xs : List V} {k : Int}
/-- the tuple as it stands in the heap -/
theorem tup_there (I : Inv X pins σ H s) (t : SqT X.K H l xs) : ∃ its n dd sl, s.heap.get? l = some (tupO its n dd sl) ∧ its.size = xs.length := by
  obtain ⟨its, r, ⟨o, at_, kind, n, items⟩, _⟩ := I.tuple t
  rcases o with ⟨c, dd, data, sl⟩
  dsimp only at kind items
  rw [kind, items] at at_
  exact ⟨its.toArray, n, dd, sl, at_, by rw [List.size_toArray]; exact r.length.symm⟩
theorem in_word (h1 : -(2 ^ 63) ≤ k) (h2 : k < 2 ^ 63) : ¬ (decide (k < -(2 ^ 63)) || decide (k ≥ 2 ^ 63)) = true := fun z => by
  rcases Bool.or_eq_true_iff.mp z with z | z
  · exact absurd (of_decide_eq_true z) (Int.not_lt.mpr h1)
  · exact absurd h2 (Int.not_lt.mpr (of_decide_eq_true z))
theorem op_repS : OpR X (binaryOp .Mult) (rRepS X.K) := by
  rintro pins s σ H x y v u Q I rx ry ⟨l, k, xs, rfl, rfl, hT, h1, h2, hz, q⟩
  cases rx
  rcases ry with ⟨t, rfl⟩
  obtain ⟨its, n, dd, sl, ho, size⟩ := tup_there I hT
  have c1 : (its.isEmpty || k == 1) = true := by
    rcases hz with rfl | rfl
    · rw [Array.isEmpty_iff_size_eq_zero.mpr size, Bool.true_or]
    · exact Bool.or_true _
  refine wpAny_binaryOp_repeat_ref (T := "tuple") (U := "int") (by decide) ⟨_, ho, rfl⟩ (fun s' => typeIs_int s' k t) noFill_tuple_mul PySem.F.fills_int_mul PySem.F.slot_int_rmul repeat_tuple PySem.F.slot_int_index.lookup
    (call_meets PySem.F.slot_int_rmul (typeIs_int s k t) PySem.F.entry_int_rmul (PySem.F.args_int_rmul_2 _ _) (int_rmul_tuple k t l its n dd sl)
      ⟨ho, rfl, ⟨_, ho, rfl⟩, call_meets PySem.F.slot_tuple_mul ⟨_, ho, rfl⟩ PySem.F.entry_tuple_mul (PySem.F.args_tuple_mul_2 _ _) (tuple_mulS l its n dd sl k t (in_word h1 h2) c1) ⟨ho, ?_⟩⟩)
  exact ⟨.ref l, H, I, rfl, q⟩
theorem op_repZ : OpR X (binaryOp .Mult) (rRepZ X.K) := by
  rintro pins s σ H x y v u Q I rx ry ⟨l, k, xs, rfl, rfl, hT, h1, h2, hne, q⟩
  cases rx
  rcases ry with ⟨t, rfl⟩
  obtain ⟨its, n, dd, sl, ho, size⟩ := tup_there I hT
  have some_ : its.isEmpty = false := by
    rw [Bool.eq_false_iff, Ne, Array.isEmpty_iff_size_eq_zero, size]
    exact fun z => hne (List.eq_nil_of_length_eq_zero z)
  have c1 : ¬ (its.isEmpty || k == 1) = true := by
    rw [some_, Bool.false_or, beq_iff_eq]
    omega
  have c2 : (decide (k ≤ 0) || its.isEmpty) = true := by
    rw [decide_eq_true h2, Bool.true_or]
  refine wpAny_binaryOp_repeat_ref (T := "tuple") (U := "int") (by decide) ⟨_, ho, rfl⟩ (fun s' => typeIs_int s' k t) noFill_tuple_mul PySem.F.fills_int_mul PySem.F.slot_int_rmul repeat_tuple PySem.F.slot_int_index.lookup
    (call_meets PySem.F.slot_int_rmul (typeIs_int s k t) PySem.F.entry_int_rmul (PySem.F.args_int_rmul_2 _ _) (int_rmul_tuple k t l its n dd sl)
      ⟨ho, rfl, ⟨_, ho, rfl⟩, call_meets PySem.F.slot_tuple_mul ⟨_, ho, rfl⟩ PySem.F.entry_tuple_mul (PySem.F.args_tuple_mul_2 _ _) (tuple_mulZ l its n dd sl k t (in_word h1 (by omega)) c1 c2) ⟨ho, ?_⟩⟩)
  exact newT (tk := s.toks) (its := []) I .nil (by rw [sizeLine_eq]; decide) rfl rfl rfl rfl q
end
def fMulT (hp : List O) (d1 d2 : D) : Option D := match d1, d2 with
  | .tup xs, .int k => if decide (-(2 ^ 63) ≤ k ∧ k < 2 ^ 63) then (match xs with
      | [] => some (.tup [])
      | x :: r => if k = 1 then some (.tup (x :: r)) else if k ≤ 0 then some (.tup []) else fMul hp (.tup (x :: r)) (.int k)) else none
  | a, b => fMul hp a b
/-! truth -/
def truD (hp : List O) : D → Option Bool
  | .non => some false
  | .bl b => some b
  | .int i => some (i != 0)
  | .str y => if y.length ≤ 100000 then some ((y.length : Int) != 0) else none
  | .tup xs => some (!xs.isEmpty)
  | d => (lstR hp d).map fun xs => !xs.isEmpty
def eOrT (ea eb : EE) : EE := fun s hp => match ea s hp with
  | .ok d hp1 => (match truD hp1 d with
    | some true => .ok d hp1
    | some false => eb s hp1
    | none => .bad)
  | .exc x hp1 => .exc x hp1
  | .bad => .bad
def eAndT (ea eb : EE) : EE := fun s hp => match ea s hp with
  | .ok d hp1 => (match truD hp1 d with
    | some true => eb s hp1
    | some false => .ok d hp1
    | none => .bad)
  | .exc x hp1 => .exc x hp1
  | .bad => .bad
def eTru (ea : EE) : EE := fun s hp => match ea s hp with
  | .ok d hp1 => (match truD hp1 d with
    | some b => .ok (.bl b) hp1
    | none => .bad)
  | .exc x hp1 => .exc x hp1
  | .bad => .bad
section
variable {K : PySem.W.Frag} {G : Gs} {W : WX} {X : Cx} {a b e : Expr} {es : List Expr} {ea eb ev : EE} {ta tb : TE} {pos : Pos}
theorem ok_mulT : OpOk K G (fun x y H Q => (rRepS K x y H Q ∨ rRepZ K x y H Q) ∨ (rMulA x y H Q ∨ rRepF K x y H Q)) fMulT := fun m b h hp x y d1 d2 d ok r1 r2 e Q q => by
  have back : fMul hp d1 d2 = some d → ((rRepS K x y h Q ∨ rRepZ K x y h Q) ∨ (rMulA x y h Q ∨ rRepF K x y h Q)) := fun e => .inr (ok_mul m b h hp x y d1 d2 d ok r1 r2 e Q q)
  cases d1 with
  | tup xs =>
    cases d2 with
    | int k =>
      unfold fMulT at e
      dsimp only at e
      split at e
      · rename_i hc
        have hk := of_decide_eq_true hc
        cases r2
        cases r1 with
        | tup s t a =>
          cases xs with
          | nil =>
            cases e
            cases a
            exact .inl (.inl ⟨_, k, [], rfl, rfl, sqT_mono ok.sub s, hk.1, hk.2, .inl rfl, q _ b h (Fr.rfl' ok.sub) (.tup s t .nil)⟩)
          | cons x r =>
            dsimp only at e
            split at e
            · rename_i h1
              cases e
              exact .inl (.inl ⟨_, k, _, rfl, rfl, sqT_mono ok.sub s, hk.1, hk.2, .inr h1, q _ b h (Fr.rfl' ok.sub) (.tup s t a)⟩)
            · split at e
              · rename_i h2
                cases e
                refine .inl (.inr ⟨_, k, _, rfl, rfl, sqT_mono ok.sub s, hk.1, h2, ?_, fun p o hp' hd => q _ _ _ (Fr.laid ok.sub hp') (.tup sqT_new (fun _ => TD.new hd) .nil)⟩)
                intro z
                rw [z] at a
                cases a
              · exact .inr (ok_mul m b h hp _ _ _ _ d ok (.tup s t a) (.int k) e Q q)
      · cases e
    | _ => exact back e
  | _ => exact back e
theorem xmulT (hK : X.K = K) (ha : PX K G W X a ea) (hb : PX K G W X b eb) : PX K G W X (.BinOp a .Mult b pos) (eBin fMulT ea eb) := by subst hK; exact xop (OpR.or (OpR.or op_repS op_repZ) (OpR.or op_mulA op_repF)) ok_mulT ha hb
theorem truD_ok {m : List Addr} {bb h : Hp} {hp : List O} {v : V} {d : D} {c : Bool} (ok : Ok K G m bb h hp) (r : RD K G m bb v d) (e : truD hp d = some c) : TruV K v h c := by
  have l : (lstR hp d).map (fun xs => !xs.isEmpty) = some c → TruV K v h c := fun e => by
    obtain ⟨xs, e1, e2⟩ := Option.map_eq_some_iff.mp e
    obtain ⟨a, vs, rfl, s, q⟩ := lstR_ok ok r e1
    refine .inl ⟨vs, s, ?_⟩
    rw [← e2]
    cases q <;> rfl
  cases d with
  | non => cases r; cases e; rfl
  | bl b => cases r; cases e; rfl
  | int i => cases r; cases e; rfl
  | str y =>
    cases r
    unfold truD at e
    dsimp only at e
    split at e
    · rename_i hl
      cases e
      exact ⟨by rw [sizeLine_eq]; omega, rfl⟩
    · cases e
  | tup xs =>
    cases r with
    | tup s _ a =>
      cases e
      refine .inr (.inl ⟨_, sqT_mono ok.sub s, ?_⟩)
      cases a <;> rfl
  | _ => exact l e
theorem sn_orT (ha : SnE K G W ta ea) (hb : SnE K G W tb eb) : SnE K G W (tOrT K ta tb) (eOrT ea eb) := fun m b h hp σ s ok sl Q p => by
  refine ha m b h hp σ s ok sl _ ?_
  unfold eOrT at p
  cases e : ea s hp with
  | ok d hp1 =>
    rw [e] at p
    dsimp only at p
    cases e2 : truD hp1 d with
    | none => rw [e2] at p; exact p.elim
    | some c =>
      rw [e2] at p
      intro v m1 b1 h1 x1 ok1 r1
      refine ⟨c, truD_ok ok1 r1 e2, ?_⟩
      cases c with
      | true => rw [if_pos rfl]; exact p v m1 b1 h1 x1 ok1 r1
      | false => rw [if_neg Bool.false_ne_true]; exact hb m1 b1 h1 hp1 σ s ok1 (sl.go x1) _ (p.go x1)
  | exc xx hp1 => rw [e] at p; exact p
  | bad => rw [e] at p; exact p.elim
theorem sn_andT (ha : SnE K G W ta ea) (hb : SnE K G W tb eb) : SnE K G W (tAndT K ta tb) (eAndT ea eb) := fun m b h hp σ s ok sl Q p => by
  refine ha m b h hp σ s ok sl _ ?_
  unfold eAndT at p
  cases e : ea s hp with
  | ok d hp1 =>
    rw [e] at p
    dsimp only at p
    cases e2 : truD hp1 d with
    | none => rw [e2] at p; exact p.elim
    | some c =>
      rw [e2] at p
      intro v m1 b1 h1 x1 ok1 r1
      refine ⟨c, truD_ok ok1 r1 e2, ?_⟩
      cases c with
      | true => rw [if_pos rfl]; exact hb m1 b1 h1 hp1 σ s ok1 (sl.go x1) _ (p.go x1)
      | false => rw [if_neg Bool.false_ne_true]; exact p v m1 b1 h1 x1 ok1 r1
  | exc xx hp1 => rw [e] at p; exact p
  | bad => rw [e] at p; exact p.elim
theorem snT_tru (ha : SnE K G W ta ea) : SnT K G W (fun σ H Q => ta σ H fun x H' => ∃ k, TruV K x H' k ∧ Q k H') (eTru ea) := fun m b h hp σ s ok sl Q p => by
  refine ha m b h hp σ s ok sl _ ?_
  unfold eTru at p
  cases e : ea s hp with
  | ok d hp1 =>
    rw [e] at p
    dsimp only at p
    cases e2 : truD hp1 d with
    | none => rw [e2] at p; exact p.elim
    | some c =>
      rw [e2] at p
      intro v m1 b1 h1 x1 ok1 r1
      obtain ⟨c', ec, q⟩ := p (.bl c) m1 b1 h1 x1 ok1 (.bl c)
      cases ec
      exact ⟨c, truD_ok ok1 r1 e2, q⟩
  | exc xx hp1 => rw [e] at p; exact p
  | bad => rw [e] at p; exact p.elim
theorem xorT (hK : X.K = K) (ha : PX K G W X a ea) (hb : PX K G W X (.BoolOp .Or (b :: es) pos) eb) : PX K G W X (.BoolOp .Or (a :: b :: es) pos) (eOrT ea eb) := by subst hK; exact px (pe_orT ha hb) (sn_orT sn_of sn_of)
theorem xandT (hK : X.K = K) (ha : PX K G W X a ea) (hb : PX K G W X (.BoolOp .And (b :: es) pos) eb) : PX K G W X (.BoolOp .And (a :: b :: es) pos) (eAndT ea eb) := by subst hK; exact px (pe_andT ha hb) (sn_andT sn_of sn_of)
theorem tvalT (hK : X.K = K) (h : PX K G W X e ev) (he : ∀ whole, isTrue e X.env whole = (do let v ← whole; standAt e.pos; holding [v] (truthy v)) := by intro _; rfl) : PXT K G W X e (eTru ev) := by subst hK; exact .of (pt_truth h he) (snT_tru sn_of)
end
end EV

/-! zip of two rows, each a list or a tuple: by the library's rules for what iterators of any kind draw -/
namespace EV
open PySem L2 DV PySem.Spec
open PyProof.Rows hiding St
def SqB (K : PySem.W.Frag) (t : Bool) (H : Hp) (a : Addr) (xs : List V) : Prop := match t with
  | true => SqT K H a xs
  | false => SqL K H a xs
def SqH (t : Bool) (h : Heap) (a : Addr) (its : Array Value) : Prop := match t with
  | true => h.IsTuple a its
  | false => h.IsList a its
def ItB (t : Bool) (h : Heap) (it a : Addr) (i : Nat) : Prop := match t with
  | true => h.IsTupleIter it a i
  | false => h.IsListIter it a i
def itO (t : Bool) (a : Addr) : Obj := match t with
  | true => { cls := .type "tuple_iterator", data := .fields #[.ref a, .int 0 0] }
  | false => { cls := .type "list_iterator", data := .fields #[.ref a, .int 0 0] }
theorem ItB.at {t : Bool} {h h' : Heap} {it a : Addr} {i : Nat} (x : ItB t h it a i) (e : ∀ o, h.get? it = some o → h'.get? it = some o) : ItB t h' it a i := by
  cases t
  · exact Heap.IsListIter.at x e
  · exact Heap.IsTupleIter.at x e
theorem ItB.obj {t : Bool} {h : Heap} {it a : Addr} {i : Nat} (x : ItB t h it a i) : ∃ o, h.get? it = some o ∧ ∀ v, o.data ≠ .cell v := by
  cases t
  · obtain ⟨o, e, _, d⟩ := x
    exact ⟨o, e, fun v q => by rw [d] at q; cases q⟩
  · obtain ⟨o, e, _, d⟩ := x
    exact ⟨o, e, fun v q => by rw [d] at q; cases q⟩
theorem begB (t : Bool) (a : Addr) (its : Array Value) : Begins (.ref a) (itO t a) fun h => SqH t h a its := by
  cases t
  · exact begins_list a its
  · exact begins_tuple a its
theorem drawsB {prog : Program} {w : World} {A : Around} (t : Bool) (hh : A.handled = none) (it a : Addr) (hne : a ≠ it) (its : Array Value) :
    Draws prog w A it [it, a] its.size (fun i v => its[i]? = some v) (fun i h => ItB t h it a i ∧ SqH t h a its) := by
  cases t
  · exact Draws.list hh it a hne its
  · exact Draws.tuple hh it a hne its
theorem seqB {X : Cx} {pins : List (Addr × Obj)} {σ : L2.St} {H : Hp} {s : Shared} {t : Bool} {a : Addr} {xs : List V} (I : Inv X pins σ H s) (h : SqB X.K t H a xs) : ∃ its : List Value, Vals xs its ∧ SqH t s.heap a its.toArray ∧ a < s.heap.objs.size := by
  cases t
  · obtain ⟨its, r, pl, _⟩ := I.list h
    exact ⟨its, r, pl.isList, pl.lt⟩
  · obtain ⟨its, r, pl, _⟩ := I.tuple h
    exact ⟨its, r, pl, Heap.lt_size (id pl).choose_spec.1⟩
theorem seqB_inj {X : Cx} {pins : List (Addr × Obj)} {σ : L2.St} {H : Hp} {s : Shared} {t : Bool} {a : Addr} {xs ys : List V} (I : Inv X pins σ H s) (h : SqB X.K t H a xs) (h' : SqB X.K t H a ys) : xs = ys := by
  cases t
  · exact I.list_inj h h'
  · exact I.tuple_inj h h'
def ItM (K : PySem.W.Frag) (t1 t2 : Bool) (a b : Addr) : It where
  go := fun i H => ∃ (xs ys : List V) (x y : V), SqB K t1 H a xs ∧ SqB K t2 H b ys ∧ xs[i]? = some x ∧ ys[i]? = some y
  yld := fun i H v H' => ∃ T x y, v = .ref T ∧ H T = none ∧ (∃ o, o.dict = none ∧ H' = upd H T (.frz o (.tup [x, y]))) ∧ (∀ xs, SqB K t1 H a xs → xs[i]? = some x) ∧ ∀ ys, SqB K t2 H b ys → ys[i]? = some y
  stop := fun i H => ∃ xs ys : List V, SqB K t1 H a xs ∧ SqB K t2 H b ys ∧ i ≤ xs.length ∧ i ≤ ys.length ∧ (i = xs.length ∨ i = ys.length)
theorem sep_of {z TI TO i1 i2 l1 l2 : Addr} (D : ZipApart z TI TO i1 i2 l1 l2) : ZipSep2 z TI TO i1 i2 [i1, l1] [i2, l2] where
  TIz := D.TIz
  TOz := D.TOz
  TITO := D.TITO
  TIi1 := D.TIi1
  mem1 := by simp
  zf1 := by simp [D.i1z.symm, D.l1z.symm]
  Tf1 := by simp [D.TOi1, D.l1TO.symm]
  TIi2 := D.TIi2
  mem2 := by simp
  zf2 := by simp [D.i2z.symm, D.l2z.symm]
  Tf2 := by simp [D.TOi2, D.l2TO.symm]
  sep1_2 := by simp [D.i12, D.l2i1.symm]
  sep2_1 := by simp [D.i12.symm, D.l1i2.symm]
def ZipSt (t1 t2 : Bool) (a b z TI TO i1 i2 : Addr) (n : Nat) (h : Heap) : Prop := IsZip h z TI TO .none ∧ IsTupOf2 h TI (.ref i1) (.ref i2) ∧ (∃ x y, IsTupOf2 h TO x y) ∧ ItB t1 h i1 a n ∧ ItB t2 h i2 b n
theorem five {c z TI TO i1 i2 : Addr} (m : c ∈ [z, TI, TO, i1, i2]) : c = z ∨ c = TI ∨ c = TO ∨ c = i1 ∨ c = i2 := by simpa using m
theorem turn_zipM {P : Program} {w : World} {K : PySem.W.Frag} {elts : List Expr} {kk : Nat} {tpos : Pos} {t1 t2 : Bool} {a b z TI TO i1 i2 : Addr} (D : ZipApart z TI TO i1 i2 a b) :
    Turn P w K (.Tuple elts kk tpos) (ItM K t1 t2 a b) [z, TI, TO, i1, i2] z (ZipSt t1 t2 a b z TI TO i1 i2) := by
  refine { mem := by simp, obj := ?o, keep := ?k, item := ?i, done := ?d, self := ?s }
  case o =>
    rintro n h ⟨q1, q2, ⟨x, y, q3⟩, q4, q5⟩ c m
    rcases five m with rfl | rfl | rfl | rfl | rfl
    · exact ⟨_, q1, fun _ z => nomatch z⟩
    · exact ⟨_, q2, fun _ z => nomatch z⟩
    · exact ⟨_, q3, fun _ z => nomatch z⟩
    · exact q4.obj
    · exact q5.obj
  case k =>
    rintro n h h' ⟨q1, q2, ⟨x, y, q3⟩, q4, q5⟩ old
    exact ⟨old z (by simp) _ q1, old TI (by simp) _ q2, ⟨x, y, old TO (by simp) _ q3⟩, q4.at fun o e => old i1 (by simp) o e, q5.at fun o e => old i2 (by simp) o e⟩
  case s =>
    rintro B n zz Q E ⟨q1, _⟩ k
    exact wpAny_pyIter_zip q1 k
  case i =>
    intro X eP ew eK calm n pins s σ H E I apart st hg
    subst eP ew eK
    obtain ⟨q1, q2, ⟨x0, y0, q3⟩, q4, q5⟩ := st
    obtain ⟨xs, ys, x, y, hx, hy, ax, ay⟩ := hg
    obtain ⟨its1, r1, s1, _⟩ := seqB I hx
    obtain ⟨its2, r2, s2, _⟩ := seqB I hy
    obtain ⟨u1, e1, ru1⟩ := r1.get ax
    obtain ⟨u2, e2, ru2⟩ := r2.get ay
    have hh : X.A.in1.handled = none := I.ok.hd calm
    have l1 : n < its1.toArray.size := by rw [List.size_toArray]; exact (List.getElem?_eq_some_iff.mp e1).1
    have l2 : n < its2.toArray.size := by rw [List.size_toArray]; exact (List.getElem?_eq_some_iff.mp e2).1
    have zl : z < s.heap.objs.size := Heap.lt_size q1
    refine wpAny_pyNext_zipD2_item (sep_of D) (drawsB t1 hh i1 a D.l1i1 its1.toArray) (drawsB t2 hh i2 b D.l2i2 its2.toArray) q1 q2 q3 ⟨q4, s1⟩ ⟨q5, s2⟩ l1 l2 fun x1 x2 h' tk p1 p2 z' TO' st1 st2 hT hsz hk => ?_
    obtain rfl : x1 = u1 := Option.some.inj (p1.symm.trans (show its1.toArray[n]? = some u1 by simpa using e1))
    obtain rfl : x2 = u2 := Option.some.inj (p2.symm.trans (show its2.toArray[n]? = some u2 by simpa using e2))
    refine ⟨_, rfl, wpAny_letOwnedTupleGo_zip (s := { s with heap := h', toks := tk }) z' fun h'' z'' sb => ?_⟩
    have hT2 : h''.get? s.heap.objs.size = some { cls := .type "tuple", data := .seq #[x1, x2] } := (sb.2 _ (Nat.ne_of_gt zl)).trans hT
    have fresh : H s.heap.objs.size = none := I.hok.fresh (Nat.le_refl _)
    have ok : ObjOk X.prog X.w (upd H s.heap.objs.size (.frz { cls := .type "tuple", data := .seq #[x1, x2] } (.tup [x, y]))) h'' s.heap.objs.size (.frz { cls := .type "tuple", data := .seq #[x1, x2] } (.tup [x, y])) := ⟨hT2, show 2 ≤ sizeLine by decide, _, .cons ru1 (.cons ru2 .nil), _, hT2, rfl, _, rfl⟩
    have keep : ∀ c ob, c ∉ [z, TI, TO, i1, i2] → s.heap.get? c = some ob → h''.get? c = some ob := fun c ob m q => (sb.2 c fun e => m (by simp [e])).trans (hk c ob (fun e => m (by simp [e])) (fun e => m (by simp [e])) (fun e => m (by simp [e])) (fun e => m (by simp [e])) q)
    have I2 : Inv X pins σ (upd H s.heap.objs.size (.frz { cls := .type "tuple", data := .seq #[x1, x2] } (.tup [x, y]))) { s with heap := h'', toks := tk } := I.turnedNew (ch := [z, TI, TO, i1, i2]) keep apart (Nat.le_refl _) ok
    have yields : (ItM X.K t1 t2 a b).yld n H (.ref s.heap.objs.size) (upd H s.heap.objs.size (.frz { cls := .type "tuple", data := .seq #[x1, x2] } (.tup [x, y]))) := ⟨_, x, y, rfl, fresh, ⟨_, rfl, rfl⟩, fun ws hw => by rw [seqB_inj I hw hx]; exact ax, fun ws hw => by rw [seqB_inj I hw hy]; exact ay⟩
    refine ⟨.ref s.heap.objs.size, _, I2, rfl, yields, ⟨z'', ?_, ⟨x1, x2, ?_⟩, ?_, ?_⟩, fun c m => ?_⟩
    · exact (sb.2 _ D.TIz).trans (hk _ _ D.TIz D.TITO D.TIi1 D.TIi2 q2)
    · exact (sb.2 _ D.TOz).trans TO'
    · exact st1.1.at fun o q => (sb.2 _ D.i1z).trans q
    · exact st2.1.at fun o q => (sb.2 _ D.i2z).trans q
    · have below : c < s.heap.objs.size := by
        rcases five m with rfl | rfl | rfl | rfl | rfl
        · exact zl
        · exact Heap.lt_size q2
        · exact Heap.lt_size q3
        · exact Heap.lt_size q4.obj.choose_spec.1
        · exact Heap.lt_size q5.obj.choose_spec.1
      rw [upd_ne (Nat.ne_of_lt below)]
      exact (apart c m).1
  case d =>
    intro X eP ew eK calm n pins s σ H E I apart st hg
    subst eP ew eK
    obtain ⟨q1, q2, ⟨x0, y0, q3⟩, q4, q5⟩ := st
    obtain ⟨xs, ys, hx, hy, le1, le2, hend⟩ := hg
    obtain ⟨its1, r1, s1, _⟩ := seqB I hx
    obtain ⟨its2, r2, s2, _⟩ := seqB I hy
    have hh : X.A.in1.handled = none := I.ok.hd calm
    have n1 : its1.toArray.size = xs.length := by rw [List.size_toArray, r1.length]
    have n2 : its2.toArray.size = ys.length := by rw [List.size_toArray, r2.length]
    refine wpAny_pyNext_zipD2_end (sep_of D) (drawsB t1 hh i1 a D.l1i1 its1.toArray) (drawsB t2 hh i2 b D.l2i2 its2.toArray) q1 q2 q3 ⟨q4, s1⟩ ⟨q5, s2⟩ (by rw [n1]; exact le1) (by rw [n2]; exact le2) (by rw [n1, n2]; exact hend) fun h' tk hk => ⟨rfl, ?_⟩
    exact I.turnedL (t' := tk) (ch := [z, TI, TO, i1, i2]) (fun c o m q => hk c o (fun e => m (by simp [e])) (fun e => m (by simp [e])) (fun e => m (by simp [e])) (fun e => m (by simp [e])) q) apart
def iZipM (K : PySem.W.Frag) (ta : TA) : TI := fun σ H R => ta σ H fun vs H1 => ∃ t1 t2 a b xs ys, vs = [.ref a, .ref b] ∧ SqB K t1 H1 a xs ∧ SqB K t2 H1 b ys ∧ R (ItM K t1 t2 a b) H1
theorem pi_zipM {X : Cx} {e e2 : Expr} {ta : TA} {p pos tpos : Pos} {elts : List Expr} {kk : Nat} (hg : Gl X "zip") (hm : X.mg "zip" = none) (ha : PA X [e, e2] ta)
    (hs : starEach [e, e2] X.env = (false, eval e X.env) :: starEach [e2] X.env := by rfl) (hpl : (backTo pos (starEach [e2] X.env)).any (·.1) = false := by rfl) : PI X (.Tuple elts kk tpos) (.Call (.Name "zip" p) [e, e2] [] pos) (iZipM X.K ta) := by
  constructor
  intro pins s σ H R I h
  refine Call_ (ld_blt I hg hm PyProof.Rows.boot_zip (PyProof.Rows.callWith_type1 (thn (ha.run pos pins s σ H _ I h) ?_) hs hpl))
  rintro us s1 ⟨_, H1, I1, r1, t1, t2, a, b, xs, ys, rfl, hx, hy, q⟩
  cases r1 with
  | cons r rr =>
    cases rr with
    | cons r' rr =>
      cases rr
      cases r
      cases r'
      obtain ⟨its1, _, s1', la⟩ := seqB I1 hx
      obtain ⟨its2, _, s2', lb⟩ := seqB I1 hy
      refine zip_begins2 (begB t1 a its1.toArray) (begB t2 b its2.toArray) s1' s2' fun h' hz hTI hTO h1 h2 hsz hk => wpAny_pyIter_zip hz ?_
      have I2 := I1.kept (t' := s1.toks) (h' := h') hk
      have D := PySem.W.ktu_apart s1.heap.objs.size a b la lb
      have b1 : ItB t1 h' s1.heap.objs.size a 0 := by
        cases t1
        · exact ⟨_, h1, rfl, rfl⟩
        · exact ⟨_, h1, rfl, rfl⟩
      have b2 : ItB t2 h' (s1.heap.objs.size + 1) b 0 := by
        cases t2
        · exact ⟨_, h2, rfl, rfl⟩
        · exact ⟨_, h2, rfl, rfl⟩
      refine ⟨s1.heap.objs.size + 4, [s1.heap.objs.size + 4, s1.heap.objs.size + 2, s1.heap.objs.size + 3, s1.heap.objs.size, s1.heap.objs.size + 1], _, _, H1, rfl, I2, turn_zipM D, ⟨hz, hTI, ⟨_, _, hTO⟩, b1, b2⟩, fun c m => ?_, q⟩
      have above : s1.heap.objs.size ≤ c := by
        rcases five m with rfl | rfl | rfl | rfl | rfl <;> omega
      exact I1.fpOk above (I1.hok.fresh above)
def YPairF (xs ys : Nat → Option V) : Nat → Hp → V → Hp → Prop := fun i H v H' => ∃ T x y, v = .ref T ∧ H T = none ∧ (∃ o, o.dict = none ∧ H' = upd H T (.frz o (.tup [x, y]))) ∧ xs i = some x ∧ ys i = some y
theorem wok_pairF {K : PySem.W.Frag} {G : Gs} {m : List Addr} {b : Hp} {J : It} {n : Nat} {fx fy : Nat → Option V} {items : List D} {Gd : Hp → Prop} (w : Walk J n Gd (YPairF fx fy)) (hn : n = items.length) (hg : ∀ b' h', Same b b' → Same b' h' → Gd h')
    (hi : ∀ i x y, i < n → fx i = some x → fy i = some y → ∃ d e, items[i]? = some (.tup [d, e]) ∧ RD K G m b x d ∧ RD K G m b y e) : WOk K G m b J items := by
  subst hn
  refine ⟨Gd, YPairF fx fy, w, hg, fun i h x h' yy hl m' ms b' em e1 e2 => ?_⟩
  obtain ⟨T, x1, y1, rfl, hT, ⟨o, hd, rfl⟩, f1, f2⟩ := yy
  obtain ⟨d, e, g1, g2, g3⟩ := hi i x1 y1 hl f1 f2
  have F : DV.Fr [] b' h (upd b' T (.frz o (.tup [x1, y1]))) (upd h T (.frz o (.tup [x1, y1]))) := DV.Fr.laid e2 hT
  exact ⟨_, _, F, g1, .tup sqT_new (fun _ => TD.new hd) (.cons ((g2.mono em e1).monoB F.base) (.cons ((g3.mono em e1).monoB F.base) .nil))⟩
theorem walk_zipM {K : PySem.W.Frag} {t1 t2 : Bool} {a c : Addr} {xs ys : List V} {n : Nat} (hn : n = min xs.length ys.length) : Walk (ItM K t1 t2 a c) n (fun H => SqB K t1 H a xs ∧ SqB K t2 H c ys) (YPairF (fun i => xs[i]?) (fun i => ys[i]?)) := by
  subst hn
  constructor
  · intro m _ lt both
    exact ⟨xs, ys, xs[m]'(by omega), ys[m]'(by omega), both.1, both.2, List.getElem?_eq_getElem _, List.getElem?_eq_getElem _⟩
  · exact fun _ both => ⟨xs, ys, both.1, both.2, by omega, by omega, by omega⟩
  · rintro m G y G' _ both ⟨P, p, q, e1, e2, e3, e4, e5⟩
    exact ⟨P, p, q, e1, e2, e3, e4 xs both.1, e5 ys both.2⟩
end EV

namespace EV
open PySem L2 DV
/-- a row that nothing changes -/
def stillS : D → Option (List D)
  | .tup xs => some xs
  | .lst xs => some xs
  | .frz xs => some xs
  | _ => none
def iZipX (ea : EA) : EI := fun s hp => match ea s hp with
  | .ok [d1, d2] hp1 => (match stillS d1, stillS d2 with
    | some xs, some ys => .ok (pairs xs ys) hp1
    | _, _ => .bad)
  | .exc x hp1 => .exc x hp1
  | _ => .bad
section
variable {K : PySem.W.Frag} {G : Gs} {W : WX} {X : Cx} {er : EA} {tr : TA} {n : Nat} {e e2 : Expr} {p pos tpos : Pos} {elts : List Expr} {kk : Nat}
theorem stillS_ok {m : List Addr} {b : Hp} {v : V} {d : D} {xs : List D} (r : RD K G m b v d) (e : stillS d = some xs) : ∃ t a vs, v = .ref a ∧ SqB K t b a vs ∧ RDs K G m b vs xs := by
  cases r with
  | tup s _ q => cases e; exact ⟨true, _, _, rfl, s, q⟩
  | lst s q => cases e; exact ⟨false, _, _, rfl, .inl (.inl s), q⟩
  | frz s q => cases e; exact ⟨false, _, _, rfl, s, q⟩
  | _ => cases e
theorem SqB.mono {t : Bool} {H H' : Hp} {a : Addr} {xs : List V} (e : Same H H') (h : SqB K t H a xs) : SqB K t H' a xs := by
  cases t
  · exact sqL_mono e h
  · exact sqT_mono e h
theorem snI_zipX (ha : SnA K G W tr er) : SnI K G W (iZipM K tr) (iZipX er) := fun m b h hp σ s ok sl R p => by
  refine ha m b h hp σ s ok sl _ ?_
  unfold iZipX at p
  cases e : er s hp with
  | bad => rw [e] at p; exact p.elim
  | exc x hp1 => rw [e] at p; exact p
  | ok ds hp1 =>
    rw [e] at p
    match ds, p with
    | [], p => exact p.elim
    | [_], p => exact p.elim
    | _ :: _ :: _ :: _, p => exact p.elim
    | [d1, d2], p =>
      intro vs m1 b1 h1 x1 ok1 r1
      obtain ⟨v, w, rfl, r, r'⟩ := r1.len2
      dsimp only at p
      cases e1 : stillS d1 with
      | none => rw [e1] at p; exact p.elim
      | some xs =>
        cases e2 : stillS d2 with
        | none => rw [e1, e2] at p; exact p.elim
        | some ys =>
          rw [e1, e2] at p
          obtain ⟨t1, a, ws, rfl, sa, q⟩ := stillS_ok r e1
          obtain ⟨t2, c, us, rfl, sc, q2⟩ := stillS_ok r' e2
          refine ⟨t1, t2, a, c, ws, us, rfl, sa.mono ok1.sub, sc.mono ok1.sub, p m1 b1 h1 _ x1 ok1 ?_⟩
          refine wok_pairF (n := min ws.length us.length) (walk_zipM rfl) (by rw [pairs_len, q.length, q2.length]) (fun b' h' e1 e2 => ⟨sa.mono (e1.trans e2), sc.mono (e1.trans e2)⟩) (fun i x y _ e1 e2 => ?_)
          obtain ⟨d, f1, f2⟩ := q.at e1
          obtain ⟨d', g1, g2⟩ := q2.at e2
          exact ⟨d, d', pairs_at _ _ _ _ _ f1 g1, f2, g2⟩
theorem xi_zipX (hK : X.K = K) (hg : Gl X "zip") (hm : X.mg "zip" = none) (ha : PXN K G W X [e, e2] er n) (hs : starEach [e, e2] X.env = (false, eval e X.env) :: starEach [e2] X.env := by rfl) (hpl : (backTo pos (starEach [e2] X.env)).any (·.1) = false := by rfl) : PXI K G W X (.Tuple elts kk tpos) (.Call (.Name "zip" p) [e, e2] [] pos) (iZipX er) := by
  subst hK; exact .of (pi_zipM hg hm ha.pa hs hpl) (snI_zipX snA_of)
end
end EV

namespace EV
open PySem L2 DV
/-- a, b = row: a tuple or a list -/
def gTpX (n : Nat) (gs : EGs) : EG := fun s d => match stillS d with
  | some xs => if xs.length = n then gs s xs else none
  | none => none
def gTupX (K : PySem.W.Frag) (n : Nat) (t : TGs) : TG := fun v σ H Q => gTup K n t v σ H Q ∨ gUnl K n t v σ H Q
section
variable {K : PySem.W.Frag} {G : Gs} {X : Cx} {es : List Expr} {k n : Nat} {t tgs : TGs} {egs : EGs} {pos : Pos} {ns : List Nat}
theorem pg_tupX (hc : X.calm = true) (h : PGs X es t) (hn : (assignEach es X.env).length = n := by rfl) (hst : (assignEach es X.env).findIdx? (·.1) = none := by rfl) : PG X (.Tuple es k pos) (gTupX X.K n t) :=
  ⟨fun pins s σ H v u Q I r hw => hw.elim ((pg_tup hc h hn hst).run pins s σ H v u Q I r) ((pg_unl hc h hn hst).run pins s σ H v u Q I r)⟩
theorem snG_tupX (hg : SnGs K G ns tgs egs) : SnG K G ns (gTupX K n tgs) (gTpX n egs) := fun m b h σ s v d s' sub sl r e Q q => by
  unfold gTpX at e
  cases e1 : stillS d with
  | none => rw [e1] at e; cases e
  | some xs =>
    rw [e1] at e
    dsimp only at e
    split at e
    · rename_i hl
      obtain ⟨t, a, vs, rfl, sa, rs⟩ := stillS_ok r e1
      have q2 := hg m b h σ s vs xs s' sub sl rs e Q q
      cases t
      · exact .inr ⟨a, vs, rfl, sqL_mono sub sa, by rw [rs.length]; exact hl, q2⟩
      · exact .inl ⟨a, vs, rfl, sqT_mono sub sa, by rw [rs.length]; exact hl, q2⟩
    · cases e
end
end EV

/-! a call that only looks: what may change is lent to it as if nothing could change it -/
namespace EV
open PySem L2 DV
mutual
def snapN : Nat → List O → D → Option D
  | 0, _, _ => none
  | k + 1, hp, .ref n => match hp[n]? with
    | some (.lst xs) => (snapNs k hp xs).map .lst
    | _ => none
  | k + 1, hp, .tup xs => (snapNs k hp xs).map .tup
  | k + 1, hp, .lst xs => (snapNs k hp xs).map .lst
  | k + 1, hp, .frz xs => (snapNs k hp xs).map .frz
  | _ + 1, _, d => some d
def snapNs : Nat → List O → List D → Option (List D)
  | 0, _, _ => none
  | _ + 1, _, [] => some []
  | k + 1, hp, x :: xs => match snapN k hp x, snapNs k hp xs with
    | some y, some ys => some (y :: ys)
    | _, _ => none
end
def flatD : D → Bool
  | .non => true | .bl _ => true | .int _ => true | .str _ => true | .ty _ => true | .fn _ => true
  | _ => false
def flatFs : List (Str × D) → Bool
  | [] => true
  | x :: xs => flatD x.2 && flatFs xs
def eCallZ (F : List D → List O → RE) (vs : List D) (ea : EA) : EE := fun s hp => match ea s hp with
  | .ok ds hp1 => (match snapNs 3000 hp1 (ds ++ vs) with
    | some es => (match F es [] with
      | .ok d _ => if flatD d then .ok d hp1 else .bad
      | .exc x _ => if flatFs x.fs then .exc x hp1 else .bad
      | .bad => .bad)
    | none => .bad)
  | .exc x hp1 => .exc x hp1
  | .bad => .bad
section
variable {K : PySem.W.Frag} {G : Gs} {m m' : List Addr} {b h b' h' : Hp} {hp hp' : List O}
open Classical in
/-- all that may change, as it stands -/
noncomputable def lend (m : List Addr) (b h : Hp) : Hp := fun a => if a ∈ m then h a else b a
open Classical in
noncomputable def unlend (m : List Addr) (b0 b : Hp) : Hp := fun a => if a ∈ m then b0 a else b a
theorem lend_in {a : Addr} (e : a ∈ m) : lend m b h a = h a := by unfold lend; rw [if_pos e]
theorem lend_out {a : Addr} (e : a ∉ m) : lend m b h a = b a := by unfold lend; rw [if_neg e]
theorem unlend_in {b0 : Hp} {a : Addr} (e : a ∈ m) : unlend m b0 b a = b0 a := by unfold unlend; rw [if_pos e]
theorem unlend_out {b0 : Hp} {a : Addr} (e : a ∉ m) : unlend m b0 b a = b a := by unfold unlend; rw [if_neg e]
theorem lend_base (ok : Ok K G m b h hp) : Same b (lend m b h) := fun a o e => by
  by_cases q : a ∈ m
  · rw [lend_in q]; exact ok.sub a o e
  · rw [lend_out q]; exact e
theorem lend_sub (ok : Ok K G m b h hp) : Same (lend m b h) h := fun a o e => by
  by_cases q : a ∈ m
  · rw [lend_in q] at e; exact e
  · rw [lend_out q] at e; exact ok.sub a o e
theorem isPrS_of {d : D} (h : isPrS d = true) : ∃ a c, d = .tup [.str a, .str c] := by
  unfold isPrS at h
  split at h
  · exact ⟨_, _, rfl⟩
  · cases h
theorem snap_str {k : Nat} {d : D} {a : Str} (e : snapN k hp d = some (.str a)) : d = .str a := by
  cases k with
  | zero => simp [snapN] at e
  | succ k =>
    cases d with
    | str x => simp [snapN] at e; rw [e]
    | tup xs => unfold snapN at e; obtain ⟨_, _, q⟩ := Option.map_eq_some_iff.mp e; cases q
    | lst xs => unfold snapN at e; obtain ⟨_, _, q⟩ := Option.map_eq_some_iff.mp e; cases q
    | frz xs => unfold snapN at e; obtain ⟨_, _, q⟩ := Option.map_eq_some_iff.mp e; cases q
    | ref n =>
      unfold snapN at e
      cases e1 : hp[n]? with
      | none => rw [e1] at e; cases e
      | some o =>
        cases o with
        | lst xs => rw [e1] at e; obtain ⟨_, _, q⟩ := Option.map_eq_some_iff.mp e; cases q
        | _ => rw [e1] at e; cases e
    | _ => simp [snapN] at e
theorem snaps_cons {k : Nat} {x : D} {xs ys : List D} (e : snapNs k hp (x :: xs) = some ys) : ∃ y r j, ys = y :: r ∧ snapN j hp x = some y ∧ snapNs j hp xs = some r := by
  cases k with
  | zero => simp [snapNs] at e
  | succ k =>
    unfold snapNs at e
    cases e1 : snapN k hp x with
    | none => rw [e1] at e; cases e
    | some y =>
      cases e2 : snapNs k hp xs with
      | none => rw [e1, e2] at e; cases e
      | some r => rw [e1, e2] at e; cases e; exact ⟨y, r, k, rfl, e1, e2⟩
theorem snap_pr {k : Nat} {d d' : D} (e : snapN k hp d = some d') (h : isPrS d' = true) : isPrS d = true := by
  obtain ⟨a, c, rfl⟩ := isPrS_of h
  cases k with
  | zero => simp [snapN] at e
  | succ k =>
    cases d with
    | tup xs =>
      unfold snapN at e
      obtain ⟨ys, e1, e2⟩ := Option.map_eq_some_iff.mp e
      cases e2
      cases xs with
      | nil => cases k <;> simp [snapNs] at e1
      | cons x xs =>
        obtain ⟨y, r, j, q1, q2, q3⟩ := snaps_cons e1
        cases q1
        cases xs with
        | nil => cases j <;> simp [snapNs] at q3
        | cons x2 xs =>
          obtain ⟨y2, r2, j2, q4, q5, q6⟩ := snaps_cons q3
          cases q4
          cases xs with
          | nil => rw [snap_str q2, snap_str q5]; rfl
          | cons x3 xs =>
            obtain ⟨_, _, _, q7, _⟩ := snaps_cons q6
            cases q7
    | lst xs => unfold snapN at e; obtain ⟨_, _, q⟩ := Option.map_eq_some_iff.mp e; cases q
    | frz xs => unfold snapN at e; obtain ⟨_, _, q⟩ := Option.map_eq_some_iff.mp e; cases q
    | ref n =>
      unfold snapN at e
      cases e1 : hp[n]? with
      | none => rw [e1] at e; cases e
      | some o =>
        cases o with
        | lst xs => rw [e1] at e; obtain ⟨_, _, q⟩ := Option.map_eq_some_iff.mp e; cases q
        | _ => rw [e1] at e; cases e
    | _ => simp [snapN] at e
theorem snaps_tab : ∀ (k : Nat) {xs ys : List D}, snapNs k hp xs = some ys → tabL ys = true → tabL xs = true
  | _, [], _, _, _ => rfl
  | k, x :: xs, _, e, h => by
    obtain ⟨y, r, j, q1, q2, q3⟩ := snaps_cons e
    subst q1
    unfold tabL at h ⊢
    rw [List.all_cons, Bool.and_eq_true] at h ⊢
    exact ⟨snap_pr q2 h.1, snaps_tab j q3 h.2⟩
theorem lend_ok (ok : Ok K G m b h hp) : Ok K G [] (lend m b h) h [] :=
  ⟨lend_sub ok, List.nodup_nil, rfl, fun i a o e1 _ => by simp at e1⟩
mutual
theorem snap_ok (ok : Ok K G m b h hp) : ∀ (k : Nat) {v : V} {d d' : D}, RD K G m b v d → snapN k hp d = some d' → RD K G [] (lend m b h) v d'
  | 0, _, _, _, _, e => by simp [snapN] at e
  | k + 1, _, _, _, .non, e => by simp [snapN] at e; subst e; exact .non
  | k + 1, _, _, _, .bl x, e => by simp [snapN] at e; subst e; exact .bl x
  | k + 1, _, _, _, .int x, e => by simp [snapN] at e; subst e; exact .int x
  | k + 1, _, _, _, .str x, e => by simp [snapN] at e; subst e; exact .str x
  | k + 1, _, _, _, .fn x, e => by simp [snapN] at e; subst e; exact .fn x
  | k + 1, _, _, _, .ty x, e => by simp [snapN] at e; subst e; exact .ty x
  | k + 1, _, _, _, .tup s td q, e => by
    unfold snapN at e
    obtain ⟨ys, e1, e2⟩ := Option.map_eq_some_iff.mp e
    subst e2
    exact .tup (sqT_mono (lend_base ok) s) (fun z => (td (snaps_tab k e1 z)).mono (lend_base ok)) (snaps_ok ok k q e1)
  | k + 1, _, _, _, .lst s q, e => by
    unfold snapN at e
    obtain ⟨ys, e1, e2⟩ := Option.map_eq_some_iff.mp e
    subst e2
    exact .lst (lend_base ok _ _ s) (snaps_ok ok k q e1)
  | k + 1, _, _, _, .frz s q, e => by
    unfold snapN at e
    obtain ⟨ys, e1, e2⟩ := Option.map_eq_some_iff.mp e
    subst e2
    exact .frz (sqL_mono (lend_base ok) s) (snaps_ok ok k q e1)
  | k + 1, _, _, _, .ref (n := n) (a := a) s, e => by
    unfold snapN at e
    cases e1 : hp[n]? with
    | none => rw [e1] at e; cases e
    | some o =>
      cases o with
      | lst xs =>
        rw [e1] at e
        dsimp only at e
        obtain ⟨ys, e2, e3⟩ := Option.map_eq_some_iff.mp e
        subst e3
        obtain ⟨_, vs, q1, q2⟩ := ok.ob n a _ s e1
        exact .lst (by rw [lend_in (List.mem_of_getElem? s)]; exact q1) (snaps_ok ok k q2 e2)
      | _ => rw [e1] at e; cases e
theorem snaps_ok (ok : Ok K G m b h hp) : ∀ (k : Nat) {vs : List V} {ds ds' : List D}, RDs K G m b vs ds → snapNs k hp ds = some ds' → RDs K G [] (lend m b h) vs ds'
  | 0, _, _, _, _, e => by simp [snapNs] at e
  | k + 1, _, _, _, .nil, e => by simp [snapNs] at e; subst e; exact .nil
  | k + 1, _, _, _, .cons (d := d) (ds := ds) r rs, e => by
    unfold snapNs at e
    cases e1 : snapN k hp d with
    | none => rw [e1] at e; cases e
    | some y =>
      cases e2 : snapNs k hp ds with
      | none => rw [e1, e2] at e; cases e
      | some ys =>
        rw [e1, e2] at e
        cases e
        exact .cons (snap_ok ok k r e1) (snaps_ok ok k rs e2)
end
theorem flat_rd {v : V} {d : D} (r : RD K G m b v d) (e : flatD d = true) {m2 : List Addr} {b2 : Hp} : RD K G m2 b2 v d := by
  cases r with
  | non => exact .non
  | bl x => exact .bl x
  | int x => exact .int x
  | str x => exact .str x
  | fn x => exact .fn x
  | ty x => exact .ty x
  | _ => cases e
theorem flat_rds {m2 : List Addr} {b2 : Hp} : ∀ {fs : List (Str × D)} {vs : List (Str × V)}, flatFs fs = true → RDs K G m b (vs.map (·.2)) (fs.map (·.2)) → RDs K G m2 b2 (vs.map (·.2)) (fs.map (·.2))
  | [], [], _, _ => .nil
  | [], _ :: _, _, r => by cases r
  | _ :: _, [], _, r => by cases r
  | x :: fs, y :: vs, e, r => by
    unfold flatFs at e
    rw [Bool.and_eq_true] at e
    rw [List.map_cons, List.map_cons] at r ⊢
    cases r with
    | cons r rs => exact .cons (flat_rd r e.1) (flat_rds e.2 rs)
theorem back_ok (ok : Ok K G m b h hp) (x : Stp [] (lend m b h) h m' b' h') : Stp m b h m (unlend m b b') h' ∧ Ok K G m (unlend m b b') h' hp := by
  have base : Same b (unlend m b b') := fun a o e => by
    by_cases q : a ∈ m
    · rw [unlend_in q]; exact e
    · rw [unlend_out q]
      exact x.fr.base a o (lend_base ok a o e)
  have sub : Same (unlend m b b') h' := fun a o e => by
    by_cases q : a ∈ m
    · rw [unlend_in q] at e
      exact x.fr.sub a o (x.fr.base a o (lend_base ok a o e))
    · rw [unlend_out q] at e; exact x.fr.sub a o e
  refine ⟨⟨⟨base, sub, fun a n s => ?_, fun a o n hm e => ?_, x.fr.live⟩, [], (List.append_nil m).symm, fun _ z => by cases z⟩, ⟨sub, ok.nd, ok.len, fun i a o e1 e2 => ?_⟩⟩
  · by_cases q : a ∈ m
    · rw [unlend_in q]; exact n
    · rw [unlend_out q]
      exact x.fr.out a (by rw [lend_out q]; exact n) s
  · exact x.fr.keep a o (by rw [lend_out hm]; exact n) (fun z => by cases z) e
  · have q : a ∈ m := List.mem_of_getElem? e1
    obtain ⟨n, r⟩ := ok.ob i a o e1 e2
    refine ⟨n.map fun n => by rw [unlend_in q]; exact n, ?_⟩
    exact r.map (fun u e => x.fr.sub a _ (x.fr.base a _ (by rw [lend_in q]; exact e))) (fun u e => by rw [unlend_in q]; exact e) fun vs r => r.monoB base
end
section
variable {K : PySem.W.Frag} {G : Gs} {W : WX} {X : Cx} {e : Expr} {es : List Expr} {er : EA} {tr : TA} {n k : Nat} {x : Str} {p pos : Pos}
theorem sn_callZ {F : List D → List O → RE} {N : Nat} {vs : List D} {dvs : List V} (hv : ∀ m b, RDs K G m b dvs vs) (ha : SnA K G W tr er) (hn : ∀ s hp ds hp1, er s hp = .ok ds hp1 → (ds ++ vs).length = N) :
    SnE K G W (tCallSD (spEv K G F N) dvs (WE W) tr) (eCallZ F vs er) := fun m b h hp σ s ok sl Q p => by
  refine ha m b h hp σ s ok sl _ ?_
  unfold eCallZ at p
  cases e : er s hp with
  | ok ds hp1 =>
    rw [e] at p
    dsimp only at p
    intro xs m1 b1 h1 x1 ok1 r1
    cases e1 : snapNs 3000 hp1 (ds ++ vs) with
    | none => rw [e1] at p; exact p.elim
    | some es =>
      rw [e1] at p
      dsimp only at p
      have rs := snaps_ok ok1 3000 (r1.append (hv m1 b1)) e1
      refine ⟨[], lend m1 b1 h1, [], es, lend_ok ok1, rs, ?_, ?_⟩
      · rw [← rs.length, (r1.append (hv m1 b1)).length]; exact hn s hp ds hp1 e
      · cases e2 : F es [] with
        | ok d hp2 =>
          rw [e2] at p
          dsimp only at p
          split at p
          · rename_i hf
            intro v m' b' h' st ok' r'
            obtain ⟨st2, ok2⟩ := back_ok ok1 st
            exact p v m1 _ h' (x1.trans st2) ok2 (flat_rd r' hf)
          · exact p.elim
        | exc xx hp2 =>
          rw [e2] at p
          dsimp only at p
          split at p
          · rename_i hf
            intro cls dx m' b' h' st ok' xr
            obtain ⟨st2, ok2⟩ := back_ok ok1 st
            refine p cls dx m1 _ h' (x1.trans st2) ok2 ⟨xr.1, ?_⟩
            rcases xr.2 with q | ⟨dd, ws, q1, q2, q3, q4, q5, q6⟩
            · exact .inl q
            · have hm : dd ∉ m1 := by
                intro z
                obtain ⟨i, lt, e3⟩ := List.mem_iff_getElem.mp z
                have f1 : m1[i]? = some dd := by rw [List.getElem?_eq_getElem lt, e3]
                have lt2 : i < hp1.length := by rw [← ok1.len]; exact lt
                obtain ⟨_, r⟩ := ok2.ob i dd _ f1 (List.getElem?_eq_getElem lt2)
                obtain ⟨_, r, nx⟩ := r.there
                rw [q4] at r
                exact nx _ (Option.some.inj r).symm
              exact .inr ⟨dd, ws, q1, by rw [unlend_out hm]; exact q2, hm, q4, q5, flat_rds hf q6⟩
          · exact p.elim
        | bad => rw [e2] at p; exact p.elim
  | exc x hp1 => rw [e] at p; exact p
  | bad => rw [e] at p; exact p.elim
theorem xcallZ {f : Addr} {fd : FuncData} {ps : List Str} {F : List D → List O → RE} {N : Nat} {vs : List D} {dvs : List V} {ds : List Value} (Fo : FnOk X.prog X.w X.K X.mg X.base (L2.CX X.prog X.w) k f fd ps (spEv K G F N)) (hr : Room k X.A) (hg : Gl X x) (hm : X.mg x = some (.ref f)) (hk : PySem.W.keepIn X.K (.ref f) = true)
    (hb : Binds X.K fd ps ds) (hd : Vals dvs ds) (hv : ∀ m b, RDs K G m b dvs vs) (tk : Takes X W) (ha : PXN K G W X (e :: es) er n) (hN : n + vs.length = N) (hdb : (x == ("__debug__" : Str)) = false := by decide)
    (he : starEach (e :: es) X.env = (false, eval e X.env) :: starEach es X.env := by rfl) (hpl : (backTo pos (starEach es X.env)).any (·.1) = false := by rfl) : PX K G W X (.Call (.Name x p) (e :: es) [] pos) (eCallZ F vs er) :=
  px (pe_callSD Fo hr hg hm hk hb hd (fun σ => passAt tk σ) ha.pa hdb he hpl) (sn_callZ hv snA_of fun s hp ds hp1 e => by rw [List.length_append, ha.ar s hp ds hp1 e]; exact hN)
end
end EV

/-! sorted of whole numbers -/
namespace EV
open PySem L2 DV
def insI (i : Int) : List Int → List Int
  | [] => [i]
  | j :: r => if i ≤ j then i :: j :: r else j :: insI i r
def sortI : List Int → List Int
  | [] => []
  | i :: r => insI i (sortI r)
theorem insI_perm (i : Int) : ∀ r : List Int, (insI i r).Perm (i :: r)
  | [] => .refl _
  | j :: r => by
    unfold insI
    split
    · exact .refl _
    · exact ((insI_perm i r).cons j).trans (.swap i j r)
theorem sortI_perm : ∀ r : List Int, (sortI r).Perm r
  | [] => .refl _
  | i :: r => (insI_perm i (sortI r)).trans ((sortI_perm r).cons i)
theorem insI_sorted (i : Int) : ∀ r : List Int, r.Pairwise (· ≤ ·) → (insI i r).Pairwise (· ≤ ·)
  | [], _ => by unfold insI; exact List.pairwise_singleton _ _
  | j :: r, h => by
    have h2 := List.pairwise_cons.mp h
    unfold insI
    split
    · rename_i le
      refine List.pairwise_cons.mpr ⟨fun y hy => ?_, h⟩
      rcases List.mem_cons.mp hy with q | q
      · rw [q]; exact le
      · exact Int.le_trans le (h2.1 y q)
    · rename_i nle
      refine List.pairwise_cons.mpr ⟨fun y hy => ?_, insI_sorted i r h2.2⟩
      have m := (insI_perm i r).mem_iff.mp hy
      rcases List.mem_cons.mp m with q | q
      · rw [q]; omega
      · exact h2.1 y q
theorem sortI_sorted : ∀ r : List Int, (sortI r).Pairwise (· ≤ ·)
  | [] => .nil
  | i :: r => insI_sorted i _ (sortI_sorted r)
theorem sorted_eq : ∀ {xs ys : List Int}, xs.Perm ys → xs.Pairwise (· ≤ ·) → ys.Pairwise (· ≤ ·) → xs = ys
  | [], ys, p, _, _ => (List.nil_perm.mp p).symm
  | x :: xs, [], p, _, _ => absurd p.length_eq (by simp)
  | x :: xs, y :: ys, p, h1, h2 => by
    have q1 := List.pairwise_cons.mp h1
    have q2 := List.pairwise_cons.mp h2
    have e : x = y := by
      have m1 : x ∈ y :: ys := p.mem_iff.mp List.mem_cons_self
      have m2 : y ∈ x :: xs := p.mem_iff.mpr List.mem_cons_self
      rcases List.mem_cons.mp m1 with r | r
      · exact r
      · rcases List.mem_cons.mp m2 with s | s
        · exact s.symm
        · exact Int.le_antisymm (q1.1 y s) (q2.1 x r)
    subst e
    rw [sorted_eq (List.Perm.cons_inv p) q1.2 q2.2]
def fSorted (hp : List O) (ds : List D) : Option D := match ds with
  | [d] => (lstR hp d).bind fun xs => (intsD xs).bind fun is => if is.length ≤ 100000 then some (.lst ((sortI is).map .int)) else none
  | _ => none
section
variable {K : PySem.W.Frag} {G : Gs} {X : Cx}
theorem rds_of_ints {m : List Addr} {b : Hp} : ∀ ns : List Int, RDs K G m b (ns.map V.int) (ns.map D.int)
  | [] => .nil
  | n :: ns => .cons (.int n) (rds_of_ints ns)
theorem ok_sorted : BiOk K G (rSortedI K) fSorted := fun m b h hp xs ds d ok r e Q q => by
  match ds, e with
  | [d1], e =>
    obtain ⟨v, rfl, r1⟩ := r.len1
    obtain ⟨ys, e1, e⟩ := Option.bind_eq_some_iff.mp e
    obtain ⟨is, e2, e⟩ := Option.bind_eq_some_iff.mp e
    split at e
    · cases e
      obtain ⟨a, vs, rfl, s, qa⟩ := lstR_ok ok r1 e1
      have := rds_ints qa e2
      subst this
      refine ⟨a, is, rfl, s, fun ns' p hp1 hs hn => ?_⟩
      have e3 : ns' = sortI is := sorted_eq (hp1.trans (sortI_perm is).symm) hs (sortI_sorted is)
      subst e3
      have F : Fr [] b h (upd b p (.lst ((sortI is).map V.int))) (upd h p (.lst ((sortI is).map V.int))) := Fr.laid ok.sub hn
      exact q _ _ _ F (.lst upd_same (rds_of_ints _))
    · cases e
theorem sorted_ok (hK : X.K = K) : CallR X (.builtin "sorted") (rSortedI K) := by subst hK; exact cr_sortedI
end
end EV

/-! range with a step -/
namespace EV
open PySem L2 DV
def rgN (i j c : Int) : Option Nat := if c ≠ 0 ∧ c.natAbs < 1073741824 ∧ Builtin.Range.small i j c = true ∧ Builtin.Range.rangeSize i j c = ((Builtin.Range.rangeSize i j c : Int).toNat : Nat) then some (Builtin.Range.rangeSize i j c : Int).toNat else none
def rngC (i c : Int) (n : Nat) : List D := (List.range n).map fun (k : Nat) => .int (i + (k : Nat) * c)
def iRange3 (ea : EA) : EI := fun s hp => match ea s hp with
  | .ok [.int i, .int j, .int c] hp1 => (match rgN i j c with
    | some n => if n ≤ 100000 then .ok (rngC i c n) hp1 else .bad
    | none => .bad)
  | .exc x hp1 => .exc x hp1
  | _ => .bad
section
variable {K : PySem.W.Frag} {G : Gs} {W : WX} {X : Cx} {er : EA} {tr : TA} {n : Nat} {tg a b c : Expr} {p pos : Pos}
theorem rgN_ok {i j c : Int} {n : Nat} (e : rgN i j c = some n) : RgC i j c n := by
  unfold rgN at e
  split at e
  · rename_i h
    cases e
    exact ⟨h.1, h.2.1, h.2.2.1, h.2.2.2⟩
  · cases e
theorem rngC_len (i c : Int) (n : Nat) : (rngC i c n).length = n := by unfold rngC; rw [List.length_map, List.length_range]
theorem wok_rngC {m : List Addr} {bb : Hp} {lo c : Int} {n : Nat} : WOk K G m bb (Itc lo c n) (rngC lo c n) := by
  refine ⟨fun _ => True, _, by rw [rngC_len]; exact walk_rangeC, fun _ _ _ _ => True.intro, fun i h x h' y hi m' ms b' em e1 e2 => ?_⟩
  obtain ⟨rfl, rfl⟩ := y
  refine ⟨b', .int (lo + (i : Nat) * c), Fr.rfl' e2, ?_, .int _⟩
  rw [rngC_len] at hi
  unfold rngC
  rw [List.getElem?_map, List.getElem?_range hi]
  rfl
theorem RDs.len3' {m : List Addr} {bb : Hp} {vs : List V} {d e f : D} (h : RDs K G m bb vs [d, e, f]) : ∃ v w z, vs = [v, w, z] ∧ RD K G m bb v d ∧ RD K G m bb w e ∧ RD K G m bb z f := by
  cases h with
  | cons r1 h =>
    cases h with
    | cons r2 h =>
      cases h with
      | cons r3 h =>
        cases h
        exact ⟨_, _, _, rfl, r1, r2, r3⟩
theorem snI_range3 (ha : SnA K G W tr er) : SnI K G W (iRng3 tr) (iRange3 er) := fun m b h hp σ s ok sl R p => by
  refine ha m b h hp σ s ok sl _ ?_
  unfold iRange3 at p
  cases e : er s hp with
  | bad => rw [e] at p; exact p.elim
  | exc x hp1 => rw [e] at p; exact p
  | ok ds hp1 =>
    rw [e] at p
    match ds, p with
    | [.int i, .int j, .int c], p =>
      dsimp only at p
      cases e1 : rgN i j c with
      | none => rw [e1] at p; exact p.elim
      | some n =>
        rw [e1] at p
        dsimp only at p
        split at p
        · intro vs m1 b1 h1 x1 ok1 r1
          obtain ⟨v, w, z, rfl, q1, q2, q3⟩ := r1.len3'
          cases q1; cases q2; cases q3
          exact ⟨i, j, c, n, rfl, rgN_ok e1, p m1 b1 h1 _ x1 ok1 wok_rngC⟩
        · exact p.elim
theorem xi_range3 (hg : Gl X "range") (hm : X.mg "range" = none) (ha : PXN K G W X [a, b, c] er n) (hs : starEach [a, b, c] X.env = (false, eval a X.env) :: starEach [b, c] X.env := by rfl) (hpl : (backTo pos (starEach [b, c] X.env)).any (·.1) = false := by rfl) : PXI K G W X tg (.Call (.Name "range" p) [a, b, c] [] pos) (iRange3 er) := .of (pi_range3 hg hm ha.pa hs hpl) (snI_range3 snA_of)
end
end EV

namespace EV
open PySem L2 DV
/-! the head: what a law's text asks of the written part, each a look -/
inductive Fx where
  | err (x : Str) (newId : String) (bm : List Value)
  | sub (x y : Str) (b : Bool)
  | subT (x : Str) (T : String) (b : Bool)
  | obj
  | tup (p : PySem.W.Frag → Addr) (vs : List He.Dv)
def isV (a : Option (Option Value)) (v : Value) : Bool := match a with
  | some (some u) => decide (u = v)
  | _ => false
def isN (a : Option (Option Value)) : Bool := match a with
  | some none => true
  | _ => false
theorem isV_ok {a : Option (Option Value)} {v : Value} (h : isV a v = true) : a = some (some v) := by
  unfold isV at h
  split at h
  · rw [of_decide_eq_true h]
  · cases h
theorem isN_ok {a : Option (Option Value)} (h : isN a = true) : a = some none := by
  unfold isN at h
  split at h
  · rfl
  · cases h
def slB (newId : String) : List (Option Value) → Bool
  | [_, _, _, _, some (.builtin n), _] => decide (n = newId)
  | _ => false
theorem two {a b : Bool} (h : (a && b) = true) : a = true ∧ b = true := Bool.and_eq_true_iff.mp h
def errO (C : Addr) (newId : String) (bm : List Value) : Option Obj → Bool
  | some ⟨.type t, _, .cls cd, sl⟩ => decide (t = "type") && (decide (cd.mro = .ref C :: bm) && (cd.hasDict && (!cd.hasDel && slB newId sl.toList)))
  | _ => false
theorem errO_ok {C : Addr} {newId : String} {bm : List Value} {o : Option Obj} (h : errO C newId bm o = true) : ∃ nm q N bs sn sub ab col dd k0 k1 k2 k3 k5, o = some (excClassObj nm q C N bs bm true sn sub ab col dd k0 k1 k2 k3 k5 newId) := by
  unfold errO at h
  split at h
  · rename_i t dd cd sl
    obtain ⟨h1, g1⟩ := two h
    obtain ⟨h2, g2⟩ := two g1
    obtain ⟨h3, g3⟩ := two g2
    obtain ⟨h4, g4⟩ := two g3
    clear h g1 g2 g3
    have e1 := of_decide_eq_true h1
    have e2 := of_decide_eq_true h2
    rcases cd with ⟨nm, bs, mro, N, q, hd, sn, sub, ab, col, del⟩
    dsimp only at e2 h3 h4
    have e4 : del = false := by cases del <;> first | rfl | cases h4
    subst e1 e2 h3 e4
    unfold slB at g4
    split at g4
    · rename_i k0 k1 k2 k3 n k5 e
      have e5 := of_decide_eq_true g4
      rcases sl with ⟨l⟩
      dsimp only at e
      subst e e5
      exact ⟨nm, q, N, bs, sn, sub, ab, col, dd, k0, k1, k2, k3, k5, rfl⟩
    · cases g4
  · cases h
def tupC (K : PySem.W.Frag) (o : Option Obj) (vs : List He.Dv) : Bool := match o with
  | some ⟨.type c, _, .seq its _, _⟩ => decide (c = "tuple") && (decide (its.size ≤ sizeLine) && He.relAll (vs.map (He.Dv.v K)) its.toList)
  | _ => false
/-- the i-th of the tuple at p, if it is an object -/
def itemAt (p : PySem.W.Frag → Addr) (i : Nat) (K : PySem.W.Frag) : Addr := match K.lookup (p K) with
  | some ⟨_, _, .seq its _, _⟩ => (match its.toList[i]? with
    | some (.ref a) => a
    | _ => 0)
  | _ => 0
theorem tupC_ok {K : PySem.W.Frag} {a : Addr} {vs : List He.Dv} (h : tupC K (K.lookup a) vs = true) (H : Hp) : SqT K H a (vs.map (He.Dv.v K)) := by
  unfold tupC at h
  split at h
  · rename_i c od its n sl e
    obtain ⟨h1, g⟩ := two h
    obtain ⟨h2, h3⟩ := two g
    exact .inr ⟨_, its, n, e, congrArg Value.type (of_decide_eq_true h1), rfl, of_decide_eq_true h2, He.relAll_ok h3⟩
  · cases h
def Fx.ok (K : PySem.W.Frag) : Fx → Bool
  | .err x newId bm => (errO (He.ga K x) newId bm (K.lookup (He.ga K x)) && (isV (PySem.W.findIn K (.ref (He.ga K x)) "__setattr__") (.builtin "object.__setattr__") && (decide (PySem.W.subIn K (.ref (He.ga K x)) (.type "BaseException") = some true) && (decide (PySem.W.typeIn K (.ref (He.ga K x)) = some (.type "type")) && (PySem.W.keepIn K (.ref (He.ga K x)) && (isV (PySem.W.findIn K (.ref (He.ga K x)) "__getattribute__") (.builtin "BaseException.__getattribute__") && (isN (PySem.W.findIn K (.ref (He.ga K x)) "__getattr__") && (isV (PySem.W.findIn K (.ref (He.ga K x)) "__class__") (.builtin "object.__class__") && (decide (PySem.W.mroIn K (He.ga K x) (.type "object") = some true) && (isV (PySem.W.findIn K (.ref (He.ga K x)) "__init__") (.ref (He.ma K (He.ga K x) "__init__")) && decide (PySem.W.typeIn K (.ref (He.ma K (He.ga K x) "__init__")) = some (.type "function"))))))))))))
  | .sub x y b => decide (PySem.W.subIn K (.ref (He.ga K x)) (.ref (He.ga K y)) = some b)
  | .subT x T b => decide (PySem.W.subIn K (.ref (He.ga K x)) (.type T) = some b)
  | .obj => isV (PySem.W.specialIn K (.builtin "object.__class__") "__get__") (.builtin "getset_descriptor.__get__") && decide (PySem.W.takesIn K (.builtin "object.__class__") = some true)
  | .tup p vs => tupC K (K.lookup (p K)) vs
section
variable {K : PySem.W.Frag} {x y : Str} {newId : String} {bm : List Value}
theorem Fx.err_ok (h : (Fx.err x newId bm).ok K = true) : ErrC K (He.ga K x) newId bm ∧ PySem.W.findIn K (.ref (He.ga K x)) "__init__" = some (some (.ref (He.ma K (He.ga K x) "__init__"))) ∧ PySem.W.typeIn K (.ref (He.ma K (He.ga K x) "__init__")) = some (.type "function") := by
  unfold Fx.ok at h
  obtain ⟨h1, h⟩ := two h
  obtain ⟨h2, h⟩ := two h
  obtain ⟨h3, h⟩ := two h
  obtain ⟨h4, h⟩ := two h
  obtain ⟨h5, h⟩ := two h
  obtain ⟨h6, h⟩ := two h
  obtain ⟨h7, h⟩ := two h
  obtain ⟨h8, h⟩ := two h
  obtain ⟨h9, h⟩ := two h
  obtain ⟨ha, hb⟩ := two h
  exact ⟨⟨⟨errO_ok h1, isV_ok h2, of_decide_eq_true h3, of_decide_eq_true h4, h5⟩, isV_ok h6, isN_ok h7, isV_ok h8, of_decide_eq_true h9⟩, isV_ok ha, of_decide_eq_true hb⟩
theorem Fx.obj_ok (h : Fx.obj.ok K = true) : ObjC K := by
  unfold Fx.ok at h
  obtain ⟨h1, h2⟩ := two h
  exact ⟨isV_ok h1, of_decide_eq_true h2⟩
end
/-! the hook -/
def seen (fx : List Fx) (fa : List He.Fa) (fn : List He.DefD) (K : PySem.W.Frag) : He.AlD := ((fx.all fun f => f.ok K) && ((fa.all fun f => f.ok K) && fn.all fun d => d.ok K), fn.map fun d => He.fnW K d.at_)
/-- what these objects name -/
def outG (g : Addr → Option Obj) (as : List Addr) : List Addr := as.flatMap fun a => match g a with
  | some o => He.refsD o
  | none => []
def gaG (g : Addr → Option Obj) (x : Str) : Addr := match g mainGlobals with
  | some ⟨_, _, .dict es _, _⟩ => (match es.toList.find? fun e => e.key.isStr x with
    | some e => (match e.val with
      | .ref a => a
      | _ => 0)
    | none => 0)
  | _ => 0
/-- the part of the heap that is looked at: the module's names, what they stand for, what these name; of cs (classes, tuples within tuples) some steps more -/
def partG (cs : List Str) (g : Addr → Option Obj) : PySem.W.Frag :=
  let l1 := outG g [mainGlobals]
  let l2 := outG g l1
  let c1 := outG g (cs.map (gaG g))
  let c2 := outG g c1
  let c3 := outG g c2
  let c4 := outG g c3
  He.frG g (mainGlobals :: (l1 ++ (l2 ++ (c2 ++ (c3 ++ c4)))))
def seenG (cs : List Str) (fx : List Fx) (fa : List He.Fa) (fn : List He.DefD) (g : Addr → Option Obj) : He.AlD := seen fx fa fn (partG cs g)
def hookE (cs : List Str) (fx : List Fx) (fa : List He.Fa) (fn : List He.DefD) : PySem.W.Hook where
  α := He.AlD
  obs := fun s => seenG cs fx fa fn s.heap.get?
  val := fun _ => He.valD fn
  says := fun _ h => ∃ K : PySem.W.Frag, K.In h ∧ seen fx fa fn K = He.valD fn
  of := fun _ _ e => ⟨_, He.frG_in, e⟩
  keeps := fun _ _ _ ⟨K, hK, c⟩ k => ⟨K, PySem.W.Frag.In.keeps hK k, c⟩
def obE (cs : List Str) (fx : List Fx) (fa : List He.Fa) (fn : List He.DefD) (s : PySem.W.SharedT) : He.AlD := seenG cs fx fa fn (HandSHeadRun.getT s)
theorem obE_eq (cs : List Str) (fx : List Fx) (fa : List He.Fa) (fn : List He.DefD) (s : PySem.W.SharedT) : obE cs fx fa fn s = (hookE cs fx fa fn).obs s.abs := by
  have e : HandSHeadRun.getT s = s.abs.heap.get? := funext (HandSHeadRun.getT_eq s)
  unfold obE
  rw [e]
  rfl
/-- what the end hands the defs: the facts, and where they are read -/
structure Said (fx : List Fx) (fa : List He.Fa) (fn : List He.DefD) (K : PySem.W.Frag) (mg : Str → Option Value) : Prop where
  ns : ∃ h : Heap, K.In h ∧ h.Ns mainGlobals mg
  eq : seen fx fa fn K = He.valD fn
section
variable {fx : List Fx} {fa : List He.Fa} {fn : List He.DefD} {K : PySem.W.Frag} {mg : Str → Option Value}
theorem Said.parts (c : Said fx fa fn K mg) : (fx.all fun f => f.ok K) = true ∧ (fa.all fun f => f.ok K) = true ∧ (fn.all fun d => d.ok K) = true := by
  have q := congrArg Prod.fst c.eq
  obtain ⟨h1, h⟩ := two (show ((fx.all fun f => f.ok K) && ((fa.all fun f => f.ok K) && fn.all fun d => d.ok K)) = true from q)
  exact ⟨h1, two h⟩
theorem Said.x (c : Said fx fa fn K mg) (i : Nat) {f : Fx} (h : fx[i]? = some f) : f.ok K = true := List.all_eq_true.mp c.parts.1 f (List.mem_of_getElem? h)
theorem Said.a (c : Said fx fa fn K mg) (i : Nat) {f : He.Fa} (h : fa[i]? = some f) : f.ok K = true := List.all_eq_true.mp c.parts.2.1 f (List.mem_of_getElem? h)
theorem Said.d (c : Said fx fa fn K mg) (i : Nat) {d : He.DefD} (h : fn[i]? = some d) : ∃ fd, FunD K d.name d.qual d.params d.body d.scope (d.dvs K) (d.kws K) (He.fAd K d.at_) fd := by
  have q : (fn.map fun d => He.fnW K d.at_)[i]? = (fn.map He.DefD.val)[i]? := congrArg (fun z : He.AlD => z.2[i]?) c.eq
  rw [List.getElem?_map, List.getElem?_map, h] at q
  exact He.DefD.funD (Option.some.inj q) (List.all_eq_true.mp c.parts.2.2 d (List.mem_of_getElem? h))
theorem Said.glo (c : Said fx fa fn K mg) (i : Nat) {x : Str} (h : fa[i]? = some (.glo x)) : mg x = some (.ref (He.ga K x)) := by
  obtain ⟨_, k, n⟩ := c.ns
  exact He.glo_ok k n (c.a i h)
theorem Said.free (c : Said fx fa fn K mg) (i : Nat) {x : Str} (h : fa[i]? = some (.free x)) : mg x = none := by
  obtain ⟨_, k, n⟩ := c.ns
  exact He.free_ok k n (c.a i h)
theorem Said.int (c : Said fx fa fn K mg) (i : Nat) {x : Str} {v : Int} (h : fa[i]? = some (.int x v)) : ∃ u, mg x = some u ∧ RelV (.int v) u := by
  obtain ⟨_, k, n⟩ := c.ns
  obtain ⟨t, e⟩ := He.int_ok k n (c.a i h)
  exact ⟨_, e, t, rfl⟩
theorem Said.str (c : Said fx fa fn K mg) (i : Nat) {x v : Str} (h : fa[i]? = some (.str x v)) : ∃ u, mg x = some u ∧ RelV (.str v) u := by
  obtain ⟨_, k, n⟩ := c.ns
  obtain ⟨t, e⟩ := He.str_ok k n (c.a i h)
  exact ⟨_, e, t, rfl⟩
end
theorem fun_of {K : PySem.W.Frag} {x qual : Str} {st : Stmt} {f : Addr} {fd : FuncData} (F : FunD K x qual (defArgs st) (defBody st) (defScope st) [] [] f fd) : L2.Fun K x qual st f fd := by
  obtain ⟨oc, od, dV, kV, doc, pm, an, cdv, ct, osl, e, lk, hcd, hD, _⟩ := F.ex
  rcases hD with ⟨_, rfl⟩ | ⟨n, _⟩
  · exact ⟨⟨oc, od, kV, doc, pm, an, cdv, ct, osl, e, lk, hcd⟩, F.kp⟩
  · exact absurd rfl n
/-- a def of the text -/
def dOf (x : Str) (st : Stmt) (dfl : List He.Dv) : He.DefD := ⟨(x, none), x, x, defArgs st, defBody st, defScope st, dfl, []⟩
/-- a method of the text -/
def mOf (C m q : Str) (st : Stmt) : He.DefD := ⟨(C, some m), m, q, defArgs st, defBody st, defScope st, [], []⟩
end EV
namespace EV
open PySem L2 DV
theorem fun_script {K : PySem.W.Frag} {x qual : Str} {st : Stmt} {f : Addr} {fd : FuncData} {p : Str} (F : L2.Fun K x qual st f fd)
    (h : ∀ (kV doc pm : Value) (an : Option Addr) (cdv ct : Value) (us : List Value), us.length = 1 → bindArgs (PySem.W.fnOf x qual (defArgs st) (defBody st) (defScope st) .none kV doc pm an cdv ct) ⟨us, []⟩ = pure ([p].zip us)) (s : Shared) (v : Value) : BindsTo s fd ⟨[v], []⟩ [(p, v)] := by
  obtain ⟨oc, od, kV, doc, pm, an, cdv, ct, osl, rfl, lk, hcd⟩ := F.ex
  exact .of_eq (h kV doc pm an cdv ct [v] rfl)
end EV
namespace EV
open PySem L2 DV PyProof.Rows
/-- a law over the hook's facts, its defs letting errors out -/
theorem walkW {l : PySem.W.OpenLaw} {n k : Nat} {q : Program} {loose : List Str} {XP : (Str → Option Value) → Heap → Prop} {YP : World → Heap → Prop} {d : DefRec} {x : Str} (most : l.most = some n) (few : n ≤ sizeLine) (plain : d.params.defaults = []) (room : Room k callerA)
    (F : ∀ (w : World) (mg : Str → Option Value) (fa : Addr) (h : Heap), YP w h → h.Ns mainGlobals mg → mg d.name = some (.ref fa) → ∃ (K : PySem.W.Frag) (fd : FuncData) (sp : Sp), K.In h ∧ (∀ (s : Shared) (u : Value), BindsTo s fd ⟨[u], []⟩ [(x, u)]) ∧
      (∀ (H : Hp) (a : Addr) (ns : List Int), ns.length ≤ n → SqL K H a (ns.map V.int) → sp [.ref a] H (fun v _ => v = .bl true) fun _ _ _ => False) ∧ ∀ base : Heap, K.In base → base.Ns mainGlobals mg → FnOk l.prog w K mg base (L2.CX l.prog w) k fa fd [x] sp) :
    PySem.W.WalkO q loose XP YP l.row.toRowW d [] (fun f vs => PySem.call f vs) := by
  apply Att.attach_call most plain
  intro w s₀ s₁ mg mb fa o pm cd doc a vs ns G Y _ _ _ named obj are short gens
  obtain ⟨K, fd, sp, inK, binds, meets, ok⟩ := F w mg fa s₁.heap Y G.T.g named
  refine law_call inK G.T.g G.T.b G.T.builtins G.T.nolimit gens obj are (Nat.le_trans short few) room ok binds (fun H _ t => meets H a ns short t) ?_
  rintro H e s' ⟨_, _, _, _, _, _, _, _, _, _, _, _, z⟩
  exact z
end EV

/-! list(range(a, b)); the place of a whole number in a list -/
namespace EV
open PySem L2 DV
def eLstRg (ea eb : EE) : EE := fun s hp => match ea s hp with
  | .ok (.int i) hp1 => (match eb s hp1 with
    | .ok (.int j) hp2 => if numOk i && numOk j then .ok (.lst (rngE i (j - i).toNat)) hp2 else .bad
    | .exc x hp2 => .exc x hp2
    | _ => .bad)
  | .exc x hp1 => .exc x hp1
  | _ => .bad
/-- where a whole number stands first -/
def posI (k : Int) : List Int → Option Nat
  | [] => none
  | i :: r => if i = k then some 0 else (posI k r).map (· + 1)
theorem posI_at {k : Int} : ∀ {is : List Int} {j : Nat}, posI k is = some j → is[j]? = some k ∧ ∀ (m : Nat) (z : Int), m < j → is[m]? = some z → z ≠ k
  | [], _, e => by cases e
  | i :: r, j, e => by
    unfold posI at e
    split at e
    · rename_i h
      cases e
      exact ⟨by rw [h]; rfl, fun m z hm _ => absurd hm (Nat.not_lt_zero m)⟩
    · rename_i h
      cases e1 : posI k r with
      | none => rw [e1] at e; cases e
      | some q =>
        rw [e1] at e
        cases e
        obtain ⟨a1, a2⟩ := posI_at e1
        refine ⟨a1, fun m z hm hz => ?_⟩
        cases m with
        | zero => cases hz; exact h
        | succ m => exact a2 m z (Nat.lt_of_succ_lt_succ hm) hz
/-- l.index(k), whole numbers -/
def eIndex (eo er : EE) : EE := fun s hp => match eo s hp with
  | .ok d hp1 => (match lstR hp1 d with
    | none => .bad
    | some _ => (match er s hp1 with
      | .ok (.int k) hp2 => (match (lstR hp2 d).bind intsD with
        | some is => (match posI k is with
          | some j => .ok (.int (j : Int)) hp2
          | none => .bad)
        | none => .bad)
      | .exc x hp2 => .exc x hp2
      | _ => .bad))
  | .exc x hp1 => .exc x hp1
  | .bad => .bad
section
variable {K : PySem.W.Frag} {G : Gs} {W : WX} {X : Cx} {e a b : Expr} {ea eb eo : EE} {pos p : Pos} {ta tb to : TE}
theorem rds_rg {m : List Addr} {bb : Hp} (f : Nat → Int) : ∀ ns : List Nat, RDs K G m bb (ns.map fun i => V.int (f i)) (ns.map fun i => D.int (f i))
  | [] => .nil
  | n :: ns => .cons (.int _) (rds_rg f ns)
theorem sn_lstRg (ha : SnE K G W ta ea) (hb : SnE K G W tb eb) : SnE K G W (tLstRg (tRg2 ta tb)) (eLstRg ea eb) := fun m b h hp σ s ok sl Q p => by
  refine ha m b h hp σ s ok sl _ ?_
  unfold eLstRg at p
  cases e : ea s hp with
  | ok d hp1 =>
    rw [e] at p
    cases d with
    | int i =>
      dsimp only at p
      intro v m1 b1 h1 x1 ok1 r1
      cases r1
      refine hb m1 b1 h1 hp1 σ s ok1 (sl.go x1) _ ?_
      cases e2 : eb s hp1 with
      | ok d2 hp2 =>
        rw [e2] at p
        cases d2 with
        | int j =>
          dsimp only at p
          split at p
          · rename_i hj
            rw [Bool.and_eq_true] at hj
            have g1 := numOk_b hj.1
            have g2 := numOk_b hj.2
            intro w m2 b2 h2 x2 ok2 r2
            cases r2
            refine ⟨i, j, rfl, rfl, ⟨by omega, by omega, by omega, by omega, by omega⟩, fun q hq => ?_⟩
            have F : Fr [] b2 h2 (upd b2 q (.lst (rgV i j))) (upd h2 q (.lst (rgV i j))) := Fr.laid ok2.sub hq
            exact p _ m2 _ _ ((x1.trans x2).trans (Stp.pure F)) (ok2.pure F) (.lst upd_same (rds_rg (fun k => i + (k : Int)) _))
          · exact p.elim
        | _ => exact p.elim
      | exc x hp2 => rw [e2] at p; exact fun c dx m2 b2 h2 x2 => p c dx m2 b2 h2 (x1.trans x2)
      | bad => rw [e2] at p; exact p.elim
    | _ => exact p.elim
  | exc x hp1 => rw [e] at p; exact p
  | bad => rw [e] at p; exact p.elim
theorem xlstRg {q qp : Pos} (hc : X.calm = true) (hl : Gl X "list") (hlm : X.mg "list" = none) (hg : Gl X "range") (hm : X.mg "range" = none) (ha : PX K G W X a ea) (hb : PX K G W X b eb)
    (n1 : starEach [a, b] X.env = (false, eval a X.env) :: starEach [b] X.env := by rfl) (n2 : starEach [b] X.env = (false, eval b X.env) :: starEach [] X.env := by rfl) (n3 : (backTo pos (starEach [b] X.env)).any (·.1) = false := by rfl)
    (n4 : starEach [Expr.Call (.Name "range" p) [a, b] [] pos] X.env = (false, eval (.Call (.Name "range" p) [a, b] [] pos) X.env) :: starEach [] X.env := by rfl) : PX K G W X (.Call (.Name "list" q) [.Call (.Name "range" p) [a, b] [] pos] [] qp) (eLstRg ea eb) :=
  px (pe_listRg hc hl hlm (prg_2 hg hm ha hb n1 n2 n3) n4) (sn_lstRg sn_of sn_of)
theorem ints_flat {m : List Addr} {bb : Hp} : ∀ is : List Int, (is.map V.int).all flatV = true
  | [] => rfl
  | i :: r => by rw [List.map_cons, List.all_cons, ints_flat (m := m) (bb := bb) r]; rfl
theorem sn_index (ho : SnE K G W to eo) (ha : SnE K G W ta ea) : SnE K G W (tBM K "list" (rIndex K) to (tCons ta tNil)) (eIndex eo ea) := fun m b h hp σ s ok sl Q p => by
  refine ho m b h hp σ s ok sl _ ?_
  unfold eIndex at p
  cases e : eo s hp with
  | ok d hp1 =>
    rw [e] at p
    dsimp only at p
    cases l1 : lstR hp1 d with
    | none => rw [l1] at p; exact p.elim
    | some ds =>
      rw [l1] at p
      dsimp only at p
      intro v m1 b1 h1 x1 ok1 r1
      obtain ⟨a0, vs0, ev0, sq0, _⟩ := lstR_ok ok1 r1 l1
      refine ⟨by subst ev0; exact .inl ⟨rfl, vs0, sq0⟩, ?_⟩
      refine ha m1 b1 h1 hp1 σ s ok1 (sl.go x1) _ ?_
      cases e2 : ea s hp1 with
      | ok d2 hp2 =>
        rw [e2] at p
        cases d2 with
        | int k =>
          dsimp only at p
          intro w m2 b2 h2 x2 ok2 r2
          cases r2
          cases l2 : (lstR hp2 d).bind intsD with
          | none => rw [l2] at p; exact p.elim
          | some is =>
            rw [l2] at p
            dsimp only at p
            obtain ⟨ys, y1, y2⟩ := Option.bind_eq_some_iff.mp l2
            obtain ⟨a1, vs, ev, sq, rv⟩ := lstR_ok ok2 (r1.go x2) y1
            have := rds_ints rv y2
            subst this
            cases l3 : posI k is with
            | none => rw [l3] at p; exact p.elim
            | some j =>
              rw [l3] at p
              dsimp only at p
              obtain ⟨q1, q2⟩ := posI_at l3
              refine ⟨a1, is.map V.int, .int k, j, .int k, ev, rfl, sq, rfl, ints_flat (m := m) (bb := b) is, by rw [List.getElem?_map, q1]; rfl, by unfold eqV; exact beq_self_eq_true k, fun n z hn hz => ?_, p _ m2 b2 h2 (x1.trans x2) ok2 (.int _)⟩
              rw [List.getElem?_map] at hz
              obtain ⟨i, hi, rfl⟩ := Option.map_eq_some_iff.mp hz
              have := q2 n i hn hi
              unfold eqV
              exact beq_eq_false_iff_ne.mpr this
        | _ => exact p.elim
      | exc x hp2 => rw [e2] at p; exact fun c dx m2 b2 h2 x2 => p c dx m2 b2 h2 (x1.trans x2)
      | bad => rw [e2] at p; exact p.elim
  | exc x hp1 => rw [e] at p; exact p
  | bad => rw [e] at p; exact p.elim
theorem xindex {apos cpos : Pos} (hK : X.K = K) (ho : PX K G W X a ea) (hb : PX K G W X b eb) (hbase : attributeBase a "index" X.env (eval a X.env) = eval a X.env := by rfl)
    (hfew : ((backTo cpos (starEach [b] X.env)).all (fun x => !x.1) && (backToKw cpos (keywordEach [] X.env)).all (fun x => x.1.isSome)
      && decide ([b].length + ([] : List Keyword).length + (if ([] : List Keyword).isEmpty then 0 else 1) < 30)) = true := by rfl)
    (hline : (apos.endLine == cpos.line) = true := by rfl) (hs : starEach [b] X.env = (false, eval b X.env) :: starEach [] X.env := by rfl) (hplain : (backTo cpos (starEach ([] : List Expr) X.env)).any (·.1) = false := by rfl) : PX K G W X (.Call (.Attribute a "index" apos) [b] [] cpos) (eIndex ea eb) := by
  subst hK
  exact px (pe_bm PySem.F.plainAttrs_list PySem.F.slot_list_index PySem.F.type_list_index mt_index ho (pa_cons hb pa_nil hs) hbase hfew hline hs hplain) (sn_index sn_of sn_of)
end
end EV

/-! readings evaluated step by step, and the draws that all laws share -/
namespace EV
open PySem L2 DV
section
variable {A B : ES} {s s1 s2 : Sl} {hp hp1 hp2 hp3 : List O} {d d1 d2 : D} {ds : List D} {e et ea eb ec : EE} {er : EA} {i : Nat} {b : Bool} {x : Xc} {F : List D → List O → RE} {vs : List D}
theorem seq_nx (h : A s hp = .nx s1 hp1) : sSeq A B s hp = B s1 hp1 := by unfold sSeq; rw [h]
theorem seq_rt (h : A s hp = .rt d hp1) : sSeq A B s hp = .rt d hp1 := by unfold sSeq; rw [h]
theorem asg_nm (h : e s hp = .ok d hp1) : sAsg e (gNm i) s hp = .nx (s.set i (some d)) hp1 := by unfold sAsg gNm; rw [h]
theorem if_t (h : et s hp = .ok (.bl true) hp1) : sIf et A B s hp = A s hp1 := by unfold sIf; rw [h]
theorem if_f (h : et s hp = .ok (.bl false) hp1) : sIf et A B s hp = B s hp1 := by unfold sIf; rw [h]
theorem ret_ok (h : e s hp = .ok d hp1) : sRet e s hp = .rt d hp1 := by unfold sRet; rw [h]
theorem expr_ok (h : e s hp = .ok d hp1) : sExpr e s hp = .nx s hp1 := by unfold sExpr; rw [h]
theorem next_ : sNext s hp = .nx s hp := rfl
theorem call_ok (h : er s hp = .ok ds hp1) : eCall F vs er s hp = F (ds ++ vs) hp1 := by unfold eCall; rw [h]
theorem call_ok' (h : er s hp = .ok ds hp1) : eCall F [] er s hp = F ds hp1 := by unfold eCall; rw [h]; show F (ds ++ []) hp1 = _; rw [List.append_nil]
theorem call0_ok (h : F vs hp = .ok d hp1) : eCall0 F vs s hp = .ok d hp1 := by unfold eCall0; rw [h]
theorem cons_ok (h : e s hp = .ok d hp1) (h2 : er s hp1 = .ok ds hp2) : aCons e er s hp = .ok (d :: ds) hp2 := by unfold aCons; rw [h]; dsimp only; rw [h2]
theorem nil_ok : aNil s hp = .ok [] hp := rfl
theorem var_ok (h : s[i]? = some (some d)) : eVar i s hp = .ok d hp := by unfold eVar; rw [h]
theorem con_ok : eCon d s hp = .ok d hp := rfl
theorem tru_bl (h : e s hp = .ok (.bl b) hp1) : eTru e s hp = .ok (.bl b) hp1 := by unfold eTru; rw [h]; rfl
theorem not_ok (h : e s hp = .ok (.bl b) hp1) : eNot e s hp = .ok (.bl (!b)) hp1 := by unfold eNot; rw [h]
theorem bin_ok {f : List O → D → D → Option D} (h : ea s hp = .ok d1 hp1) (h2 : eb s hp1 = .ok d2 hp2) (h3 : f hp2 d1 d2 = some d) : eBin f ea eb s hp = .ok d hp2 := by unfold eBin; rw [h]; dsimp only; rw [h2]; dsimp only; rw [h3]
theorem bi_ok {f : List O → List D → Option D} (h : er s hp = .ok ds hp1) (h2 : f hp1 ds = some d) : eBi f er s hp = .ok d hp1 := by unfold eBi; rw [h]; dsimp only; rw [h2]
theorem tup_ok (h : er s hp = .ok ds hp1) (hl : ds.length ≤ 100000) : eTup er s hp = .ok (.tup ds) hp1 := by unfold eTup; rw [h]; dsimp only; rw [if_pos hl]
theorem lst_ok (h : er s hp = .ok ds hp1) (hl : ds.length ≤ 100000) : eLst er s hp = .ok (.lst ds) hp1 := by unfold eLst; rw [h]; dsimp only; rw [if_pos hl]
theorem andT_t (h : ea s hp = .ok (.bl true) hp1) : eAndT ea eb s hp = eb s hp1 := by unfold eAndT; rw [h]; rfl
theorem andT_f (h : ea s hp = .ok (.bl false) hp1) : eAndT ea eb s hp = .ok (.bl false) hp1 := by unfold eAndT; rw [h]; rfl
theorem or_t (h : ea s hp = .ok (.bl true) hp1) : eOr ea eb s hp = .ok (.bl true) hp1 := by unfold eOr; rw [h]
theorem or_f (h : ea s hp = .ok (.bl false) hp1) (h2 : eb s hp1 = .ok (.bl b) hp2) : eOr ea eb s hp = .ok (.bl b) hp2 := by unfold eOr; rw [h]; dsimp only; rw [h2]
theorem and_t (h : ea s hp = .ok (.bl true) hp1) (h2 : eb s hp1 = .ok (.bl b) hp2) : eAnd ea eb s hp = .ok (.bl b) hp2 := by unfold eAnd; rw [h]; dsimp only; rw [h2]
theorem and_f (h : ea s hp = .ok (.bl false) hp1) : eAnd ea eb s hp = .ok (.bl false) hp1 := by unfold eAnd; rw [h]
theorem eif_t (h : et s hp = .ok (.bl true) hp1) : eIf et ea eb s hp = ea s hp1 := by unfold eIf; rw [h]
theorem eif_f (h : et s hp = .ok (.bl false) hp1) : eIf et ea eb s hp = eb s hp1 := by unfold eIf; rw [h]
theorem runB_rt {n : Nat} {body : ES} (h : body (startE n ds) hp = .rt d hp1) (hl : hp1.length = hp.length) : runB n body ds hp = .ok d hp1 := by
  unfold runB
  rw [h]
  show trunc hp.length d hp1 = _
  unfold trunc
  rw [if_pos hl]
theorem runB_nx {n : Nat} {body : ES} (h : body (startE n ds) hp = .nx s1 hp1) : runB n body ds hp = .ok .non (cutH hp.length hp1) := by
  unfold runB
  rw [h]
end
theorem lstR_ref {hp : List O} {k : Nat} {xs : List D} (h : hp[k]? = some (.lst xs)) : lstR hp (.ref k) = some xs := by
  unfold lstR
  simp [lstOf, h]
/-! the script's numbers brought to one -/
abbrev dCells : ES :=
  (sSeq (sAsg (eOrT (eListM (aCons (eSl (eVar 0) oNone (oSome (eVar 1))) aNil)) (eLstM (aCons (eCon (.int 0)) aNil))) (gNm 2))
    (sSeq (sFor (iEnumE (aCons (eSl (eVar 0) (oSome (eVar 1)) (oSome (eCon (.int 63)))) aNil)) (gTpX 2 (gsCons (gNm 3) (gsCons (gNm 4) gsNil))) (sSeq (sAsg (eBin fMod (eBi fInt (aCons (eVar 3) aNil)) (eVar 1)) (gNm 5))
    (sSet (eBin fAdd (eBin fIx (eVar 2) (eVar 5)) (eBin fMulT (eVar 4) (eBin fAdd (eVar 3) (eCon (.int 2))))) (eVar 2) (eVar 5))))
    (sRet (eVar 2))))
abbrev dCellsBody : ES := (sSeq (sAsg (eBin fMod (eBi fInt (aCons (eVar 3) aNil)) (eVar 1)) (gNm 5))
    (sSet (eBin fAdd (eBin fIx (eVar 2) (eVar 5)) (eBin fMulT (eVar 4) (eBin fAdd (eVar 3) (eCon (.int 2))))) (eVar 2) (eVar 5)))
def cellsZ : Nat → Int → List Int → Int
  | _, c, [] => c
  | k, c, n :: r => cellsZ (k + 1) (c + n * ((k : Int) + 2)) r
def cellZ : List Int → Int
  | [] => 0
  | n :: r => cellsZ 0 n r
theorem dCells_step (F : D) (k : Nat) (bit c : Int) (a : Option D) (hp : List O) (hk : k ≤ 100) :
    dCellsBody [some F, some (.int 1), some (.ref hp.length), some (.int k), some (.int bit), a] (hp ++ [.lst [.int c]]) = .nx [some F, some (.int 1), some (.ref hp.length), some (.int k), some (.int bit), some (.int 0)] (hp ++ [.lst [.int (c + bit * ((k : Int) + 2))]]) := by
  have e1 : (k : Int) % 1 = 0 := Int.emod_one _
  have e2 : mulOk bit ((k : Int) + 2) = true := by
    unfold mulOk
    have : decide (-(2 ^ 64) < (k : Int) + 2 ∧ (k : Int) + 2 < 2 ^ 64) = true := decide_eq_true (by omega)
    rw [this, Bool.or_true]
  have a1 : L2.atI [D.int c] 0 = some (.int c) := rfl
  have i1 : L2.ixN 1 0 = some 0 := rfl
  have l1 : ∀ y : List D, lstR (hp ++ [.lst y]) (.ref hp.length) = some y := fun y => lstR_ref (by simp)
  simp [dCellsBody, sSeq, sAsg, eBin, eBi, aCons, aNil, eVar, fMod, fInt, gNm, sSet, fAdd, fIx, fMulT, fMul, eCon, l1, a1, i1, e1, e2, below]
theorem dCells_loop (F : D) (hp : List O) : ∀ (r : List Int) (k : Nat) (c : Int) (a3 a4 a5 : Option D), k + r.length ≤ 100 →
    ∃ s', forGo (gTpX 2 (gsCons (gNm 3) (gsCons (gNm 4) gsNil))) dCellsBody (numb k (r.map D.int)) [some F, some (.int 1), some (.ref hp.length), a3, a4, a5] (hp ++ [.lst [.int c]]) = .nx s' (hp ++ [.lst [.int (cellsZ k c r)]]) ∧ s'[2]? = some (some (.ref hp.length))
  | [], k, c, a3, a4, a5, _ => ⟨_, rfl, rfl⟩
  | n :: r, k, c, a3, a4, a5, h => by
    obtain ⟨s', e, e2⟩ := dCells_loop F hp r (k + 1) (c + n * ((k : Int) + 2)) (some (.int k)) (some (.int n)) (some (.int 0)) (by simp at h ⊢; omega)
    refine ⟨s', ?_, e2⟩
    rw [List.map_cons]
    unfold numb forGo
    have g : gTpX 2 (gsCons (gNm 3) (gsCons (gNm 4) gsNil)) [some F, some (.int 1), some (.ref hp.length), a3, a4, a5] (.tup [.int (k : Int), .int n]) = some [some F, some (.int 1), some (.ref hp.length), some (.int k), some (.int n), a5] := rfl
    rw [g]
    dsimp only
    rw [dCells_step F k n c a5 hp (by simp at h; omega)]
    exact e
theorem slice_tl (n : Int) (r : List Int) (h : r.length ≤ 62) : cutE ((n :: r).map D.int) (some 1) (some 63) = r.map D.int := by
  unfold cutE
  have h1 : HT.sIx ((n :: r).map D.int).length 0 (some 1) = 1 := by
    unfold HT.sIx
    simp
  have h2 : HT.sIx ((n :: r).map D.int).length ((n :: r).map D.int).length (some 63) = r.length + 1 := by
    unfold HT.sIx
    simp
    omega
  rw [h1, h2, List.map_cons, List.drop_succ_cons, List.drop_zero, Nat.add_sub_cancel]
  exact List.take_of_length_le (Nat.le_of_eq (List.length_map ..))
theorem slice_hd (n : Int) (r : List Int) : cutE ((n :: r).map D.int) none (some 1) = [.int n] := by
  unfold cutE
  have h1 : HT.sIx ((n :: r).map D.int).length 0 none = 0 := rfl
  have h2 : HT.sIx ((n :: r).map D.int).length ((n :: r).map D.int).length (some 1) = 1 := by
    unfold HT.sIx
    simp
  rw [h1, h2]
  rfl
theorem cells_one (ns : List Int) (h : ns.length ≤ 63) (hp : List O) (hpl : cutOk hp.length hp = true := by rfl) : runB 6 dCells [.frz (ns.map D.int), .int 1] hp = .ok (.lst [.int (cellZ ns)]) hp := by
  have fin : ∀ c : Int, dCells (startE 6 [.frz (ns.map D.int), .int 1]) hp = .rt (.ref hp.length) (hp ++ [.lst [.int c]]) → runB 6 dCells [.frz (ns.map D.int), .int 1] hp = .ok (.lst [.int c]) hp := fun c e => by
    unfold runB
    rw [e]
    show trunc hp.length (.ref hp.length) (hp ++ [.lst [.int c]]) = _
    unfold trunc
    rw [if_neg (by simp)]
    have b1 : below hp.length (.ref hp.length) = false := by unfold below; simp
    have b2 : belows hp.length [D.int c] = true := by unfold belows; unfold below; unfold belows; rfl
    rw [if_pos (cutOk_app hpl), b1]
    simp [b2]
  cases ns with
  | nil =>
    have t : truD (hp ++ [.lst []]) (.ref hp.length) = some false := by
      show (lstR (hp ++ [.lst []]) (.ref hp.length)).map (fun xs => !xs.isEmpty) = _
      rw [lstR_ref (xs := []) (by simp)]
      rfl
    have q : (eListM (aCons (eSl (eVar 0) oNone (oSome (eVar 1))) aNil)) (startE 6 [.frz [], .int 1]) hp = .ok (.ref hp.length) (hp ++ [.lst []]) := rfl
    have f1 : (sAsg (eOrT (eListM (aCons (eSl (eVar 0) oNone (oSome (eVar 1))) aNil)) (eLstM (aCons (eCon (.int 0)) aNil))) (gNm 2)) (startE 6 [.frz [], .int 1]) hp = .nx [some (.frz []), some (.int 1), some (.ref (hp ++ [O.lst []]).length), none, none, none] (hp ++ [O.lst []] ++ [.lst [.int 0]]) := by
      refine asg_nm (s := startE 6 [.frz [], .int 1]) (i := 2) ?_
      unfold eOrT
      rw [q]
      dsimp only
      rw [t]
      rfl
    have body : dCells (startE 6 [.frz [], .int 1]) hp = .rt (.ref (hp ++ [O.lst []]).length) (hp ++ [O.lst []] ++ [.lst [.int 0]]) := (seq_nx f1).trans ((seq_nx rfl).trans (ret_ok (var_ok rfl)))
    show runB 6 dCells [.frz [], .int 1] hp = .ok (.lst [.int 0]) hp
    unfold runB
    rw [body]
    show trunc hp.length _ _ = _
    unfold trunc
    rw [if_neg (by simp)]
    have b1 : below hp.length (.ref (hp ++ [O.lst []]).length) = false := by unfold below; simp
    have b2 : belows hp.length [D.int 0] = true := by unfold belows; unfold below; unfold belows; rfl
    rw [if_pos (by rw [List.append_assoc]; exact cutOk_app hpl), b1]
    simp [b2]
  | cons n r =>
    have hr : r.length ≤ 62 := by simp at h; omega
    refine fin _ ?_
    obtain ⟨s', e, e2⟩ := dCells_loop (.frz ((n :: r).map D.int)) hp r 0 n none none none (by omega)
    have s1 := slice_hd n r
    have s2 := slice_tl n r hr
    have f1 : (sAsg (eOrT (eListM (aCons (eSl (eVar 0) oNone (oSome (eVar 1))) aNil)) (eLstM (aCons (eCon (.int 0)) aNil))) (gNm 2)) (startE 6 [.frz ((n :: r).map D.int), .int 1]) hp = .nx [some (.frz ((n :: r).map D.int)), some (.int 1), some (.ref hp.length), none, none, none] (hp ++ [.lst [.int n]]) := by
      refine asg_nm (s := startE 6 [.frz ((n :: r).map D.int), .int 1]) (i := 2) ?_
      have q : (eListM (aCons (eSl (eVar 0) oNone (oSome (eVar 1))) aNil)) (startE 6 [.frz ((n :: r).map D.int), .int 1]) hp = .ok (.ref hp.length) (hp ++ [.lst [.int n]]) := by
        show (match fList hp [.lst (cutE ((n :: r).map D.int) none (some 1))] with
          | some (D.lst xs) => RE.ok (.ref hp.length) (hp ++ [O.lst xs])
          | _ => .bad) = _
        rw [s1]; rfl
      unfold eOrT
      rw [q]
      have t : truD (hp ++ [.lst [.int n]]) (.ref hp.length) = some true := by
        show (lstR (hp ++ [.lst [.int n]]) (.ref hp.length)).map (fun xs => !xs.isEmpty) = _
        rw [lstR_ref (xs := [.int n]) (by simp)]
        rfl
      dsimp only
      rw [t]
    refine (seq_nx f1).trans ?_
    have f2 : (sFor (iEnumE (aCons (eSl (eVar 0) (oSome (eVar 1)) (oSome (eCon (.int 63)))) aNil)) (gTpX 2 (gsCons (gNm 3) (gsCons (gNm 4) gsNil))) dCellsBody) [some (.frz ((n :: r).map D.int)), some (.int 1), some (.ref hp.length), none, none, none] (hp ++ [.lst [.int n]]) = .nx s' (hp ++ [.lst [.int (cellsZ 0 n r)]]) := by
      unfold sFor
      have q : (iEnumE (aCons (eSl (eVar 0) (oSome (eVar 1)) (oSome (eCon (.int 63)))) aNil)) [some (.frz ((n :: r).map D.int)), some (.int 1), some (.ref hp.length), none, none, none] (hp ++ [.lst [.int n]]) = .ok (numb 0 (r.map D.int)) (hp ++ [.lst [.int n]]) := by
        show RI.ok (numb 0 (cutE ((n :: r).map D.int) (some 1) (some 63))) (hp ++ [.lst [.int n]]) = _
        rw [s2]
      rw [q]
      exact e
    exact (seq_nx f2).trans (ret_ok (var_ok e2))
/-! the source of draws -/
/-- a box of draws: a great number (or 0), mixed numbers, a count -/
structure Tin (o : O) (m : Int) : Prop where
  ex : ∃ a b c : Int, o = .lst [.int a, .int b, .int c] ∧ 0 ≤ a ∧ (0 ≤ b ∧ b < 2 ^ 62) ∧ (0 ≤ c ∧ c ≤ m)
theorem Tin.le {o : O} {m n : Int} (t : Tin o m) (h : m ≤ n) : Tin o n := by
  obtain ⟨a, b, c, e, h1, h2, h3, h4⟩ := t.ex
  exact ⟨a, b, c, e, h1, h2, h3, by omega⟩
abbrev dBox (z : Int) : ES :=
  (sSeq (sAsg (eIf (eBin (fLt fun i j => decide (i < j)) (eVar 1) (eBi fLen (aCons (eVar 0) aNil))) (eBin fIx (eVar 0) (eVar 1)) (eCon (.int 0))) (gNm 2))
    (sRet (eLstM (aCons (eBin fMulT (eBi fAbs (aCons (eVar 2) aNil)) (eBi fInt (aCons (eBin (fLt fun i j => decide (j ≤ i)) (eBi fAbs (aCons (eVar 2) aNil)) (eBin fPow (eCon (.int 10)) (eCon (.int 18)))) aNil))) (aCons (eBin fAdd (eBin fAdd (eBin fMod (eBi fInt (aCons (eVar 2) aNil)) (eCon (.int 2305843009213693951))) (eBin fMulT (eCon (.int 39373)) (eVar 1))) (eCon (.int z))) (aCons (eCon (.int 0)) aNil))))))
theorem box_one (z c0 : Int) (hz : 0 ≤ c0 ∧ c0 ≤ 2 ^ 40) (hp : List O) (hpl : cutOk hp.length hp = true := by rfl) : ∃ o, Tin o 0 ∧ runM 3 (dBox c0) [.lst [.int z], .int 0] hp = .ok (.ref hp.length) (hp ++ [o]) := by
  let a : Int := if z < 0 then -z else z
  let m : Int := if 1000000000000000000 ≤ a then 1 else 0
  have am : 0 ≤ a := by show 0 ≤ (if z < 0 then -z else z); split <;> omega
  have mm : 0 ≤ m ∧ m ≤ 1 := by show 0 ≤ (if 1000000000000000000 ≤ a then (1 : Int) else 0) ∧ (if 1000000000000000000 ≤ a then (1 : Int) else 0) ≤ 1; split <;> omega
  have r0 := Int.emod_nonneg z (show (2305843009213693951 : Int) ≠ 0 by decide)
  have r1 := Int.emod_lt_of_pos z (show (0 : Int) < 2305843009213693951 by decide)
  refine ⟨.lst [.int (a * m), .int (z % 2305843009213693951 + 39373 * 0 + c0), .int 0], ⟨_, _, _, rfl, Int.mul_nonneg am mm.1, ⟨by omega, by omega⟩, by decide, by decide⟩, ?_⟩
  have ok1 : mulOk a m = true := by
    unfold mulOk
    have : decide (-(2 ^ 64) < m ∧ m < 2 ^ 64) = true := decide_eq_true (by omega)
    rw [this, Bool.or_true]
  have ok2 : mulOk 39373 0 = true := by decide
  have body : dBox c0 (startE 3 [.lst [.int z], .int 0]) hp = .rt (.ref hp.length) (hp ++ [.lst [.int (a * m), .int (z % 2305843009213693951 + 39373 * 0 + c0), .int 0]]) := by
    refine (seq_nx (asg_nm (d := .int z) (hp1 := hp) rfl)).trans ?_
    have e1 : (eBi fAbs (aCons (eVar 2) aNil)) ((startE 3 [.lst [.int z], .int 0]).set 2 (some (.int z))) hp = .ok (.int a) hp := rfl
    have e2 : (eBi fInt (aCons (eBin (fLt fun i j => decide (j ≤ i)) (eBi fAbs (aCons (eVar 2) aNil)) (eBin fPow (eCon (.int 10)) (eCon (.int 18)))) aNil)) ((startE 3 [.lst [.int z], .int 0]).set 2 (some (.int z))) hp = .ok (.int m) hp := by
      refine bi_ok (cons_ok (bin_ok e1 (d2 := .int 1000000000000000000) (hp2 := hp) rfl (d := .bl (decide (1000000000000000000 ≤ a))) rfl) nil_ok) ?_
      show some (D.int (if decide (1000000000000000000 ≤ a) = true then 1 else 0)) = _
      by_cases q : 1000000000000000000 ≤ a
      · rw [decide_eq_true q]; simp [m, q]
      · rw [decide_eq_false q]; simp [m, q]
    have e3 : (eBin fMulT (eBi fAbs (aCons (eVar 2) aNil)) (eBi fInt (aCons (eBin (fLt fun i j => decide (j ≤ i)) (eBi fAbs (aCons (eVar 2) aNil)) (eBin fPow (eCon (.int 10)) (eCon (.int 18)))) aNil))) ((startE 3 [.lst [.int z], .int 0]).set 2 (some (.int z))) hp = .ok (.int (a * m)) hp := by
      refine bin_ok e1 e2 ?_
      show fMul hp (.int a) (.int m) = _
      unfold fMul
      dsimp only
      rw [if_pos ok1]
    have e4 : (eBin fAdd (eBin fAdd (eBin fMod (eBi fInt (aCons (eVar 2) aNil)) (eCon (.int 2305843009213693951))) (eBin fMulT (eCon (.int 39373)) (eVar 1))) (eCon (.int c0))) ((startE 3 [.lst [.int z], .int 0]).set 2 (some (.int z))) hp = .ok (.int (z % 2305843009213693951 + 39373 * 0 + c0)) hp := rfl
    refine ret_ok ?_
    unfold eLstM
    rw [cons_ok e3 (cons_ok e4 (cons_ok con_ok nil_ok))]
    dsimp only
    rw [if_pos (by show 3 ≤ 100000; decide)]
  unfold runM
  rw [body]
  show truncM hp.length (.ref hp.length) _ = _
  unfold truncM
  dsimp only
  rw [if_neg (Nat.lt_irrefl _), if_pos (cutOk_app hpl)]
  have g : (hp ++ [O.lst [.int (a * m), .int (z % 2305843009213693951 + 39373 * 0 + c0), .int 0]])[hp.length]? = some (O.lst [.int (a * m), .int (z % 2305843009213693951 + 39373 * 0 + c0), .int 0]) := by simp
  rw [g]
  dsimp only
  have b2 : ∀ x y w : Int, belows hp.length [D.int x, .int y, .int w] = true := fun x y w => by simp [belows, below]
  rw [if_pos (b2 _ _ _)]
  simp
abbrev dTake : ES :=
  (sSeq (sIf (eBin (fLt fun i j => decide (j < i)) (eBin fIx (eVar 0) (eCon (.int 0))) (eCon (.int 0))) (sSeq (sAsg (eBin fMod (eBi fInt (aCons (eBin fIx (eVar 0) (eCon (.int 0))) aNil)) (eVar 1)) (gNm 2))
    (sSeq (sSet (eBin fDiv (eBin fIx (eVar 0) (eCon (.int 0))) (eVar 1)) (eVar 0) (eCon (.int 0)))
    (sRet (eVar 2)))) sNext)
    (sSeq (sSet (eBin fAdd (eBin fIx (eVar 0) (eCon (.int 2))) (eCon (.int 1))) (eVar 0) (eCon (.int 2)))
    (sSeq (sAsg (eBin fMod (eBi fInt (aCons (eBin fMulT (eBin fAdd (eBin fIx (eVar 0) (eCon (.int 1))) (eBin fMulT (eCon (.int 48271)) (eBin fIx (eVar 0) (eCon (.int 2))))) (eBin fAdd (eCon (.int 39373)) (eBin fIx (eVar 0) (eCon (.int 2))))) aNil)) (eCon (.int 2147483647))) (gNm 3))
    (sSeq (sAsg (eBin fAdd (eBin fMod (eBi fInt (aCons (eVar 3) aNil)) (eCon (.int 40009))) (eCon (.int 7))) (gNm 4))
    (sSeq (sAsg (eBin fMod (eBi fInt (aCons (eBin fMulT (eBin fAdd (eBin fAdd (eVar 3) (eBin fIx (eVar 0) (eCon (.int 2)))) (eBin fDiv (eBin fIx (eVar 0) (eCon (.int 1))) (eCon (.int 1000003)))) (eVar 4)) aNil)) (eCon (.int 2147483629))) (gNm 5))
    (sRet (eBin fMod (eBi fInt (aCons (eBin fDiv (eBin fMod (eBi fInt (aCons (eBin fAdd (eBin fMulT (eVar 5) (eCon (.int 48271))) (eVar 3)) aNil)) (eCon (.int 2147483587))) (eCon (.int 64))) aNil)) (eVar 1))))))))
theorem mulOk_of {i j : Int} (h : -(2 ^ 64) < j ∧ j < 2 ^ 64) : mulOk i j = true := by
  unfold mulOk
  rw [decide_eq_true h, Bool.or_true]
/-- one draw -/
theorem take_one {hp : List O} {k : Nat} {o : O} {m n : Int} (hk : hp[k]? = some o) (t : Tin o m) (hm : m < 2 ^ 40) (hn : 0 < n ∧ n < 2 ^ 62) :
    ∃ (r : Int) (o' : O), (0 ≤ r ∧ r < n) ∧ Tin o' (m + 1) ∧ runB 6 dTake [.ref k, .int n] hp = .ok (.int r) (hp.set k o') := by
  obtain ⟨a, b, c, rfl, ha, ⟨hb, hb2⟩, hc, hc2⟩ := t.ex
  have lt : k < hp.length := (List.getElem?_eq_some_iff.mp hk).1
  have l0 := lstR_ref hk
  have set_ : ∀ y : O, (hp.set k y)[k]? = some y := fun y => by rw [List.getElem?_set]; simp [lt]
  have len_ : ∀ y : O, (hp.set k y).length = hp.length := fun y => List.length_set
  have wn : wide n = true := by
    unfold wide
    have h62 : (2 : Nat) ^ 62 < 2 ^ 200 := by decide
    have : n.natAbs < 2 ^ 62 := by omega
    exact decide_eq_true (by omega)
  have i30 : L2.ixN 3 0 = some 0 := rfl
  have i32 : L2.ixN 3 2 = some 2 := rfl
  have a0 : ∀ x y z : Int, L2.atI [D.int x, .int y, .int z] 0 = some (.int x) := fun _ _ _ => rfl
  have a1 : ∀ x y z : Int, L2.atI [D.int x, .int y, .int z] 1 = some (.int y) := fun _ _ _ => rfl
  have a2 : ∀ x y z : Int, L2.atI [D.int x, .int y, .int z] 2 = some (.int z) := fun _ _ _ => rfl
  by_cases pos : 0 < a
  · have r0 := Int.emod_nonneg a (show n ≠ 0 by omega)
    have r1 := Int.emod_lt_of_pos a hn.1
    refine ⟨a % n, .lst [.int (a / n), .int b, .int c], ⟨r0, r1⟩, ⟨_, _, _, rfl, Int.ediv_nonneg ha (by omega), ⟨hb, hb2⟩, hc, by omega⟩, runB_rt ?_ (len_ _)⟩
    simp [dTake, sSeq, sIf, eBin, eBi, aCons, aNil, eVar, startE, fLt, fIx, l0, a0, eCon, pos, sAsg, fMod, fInt, hn.1, gNm, sSet, fDiv, wn, hk, i30, below, sRet]
  · let c1 := c + 1
    have q1 : (0 : Int) ≤ c1 ∧ c1 ≤ 2 ^ 40 := by show (0 : Int) ≤ c + 1 ∧ c + 1 ≤ 2 ^ 40; omega
    let once : Int := (b + 48271 * c1) * (39373 + c1) % 2147483647
    have o0 : 0 ≤ once := Int.emod_nonneg _ (by decide)
    have o1 : once < 2147483647 := Int.emod_lt_of_pos _ (by decide)
    let wide_ : Int := once % 40009 + 7
    have w0 : 0 ≤ once % 40009 := Int.emod_nonneg _ (by decide)
    have w1 : once % 40009 < 40009 := Int.emod_lt_of_pos _ (by decide)
    let twice : Int := (once + c1 + b / 1000003) * wide_ % 2147483629
    have t0 : 0 ≤ twice := Int.emod_nonneg _ (by decide)
    have t1 : twice < 2147483629 := Int.emod_lt_of_pos _ (by decide)
    let last : Int := (twice * 48271 + once) % 2147483587 / 64
    have m1 : mulOk 48271 c1 = true := mulOk_of (by omega)
    have m2 : mulOk (b + 48271 * c1) (39373 + c1) = true := mulOk_of (by omega)
    have m3 : mulOk (once + c1 + b / 1000003) wide_ = true := mulOk_of (by show -(2 ^ 64) < once % 40009 + 7 ∧ once % 40009 + 7 < 2 ^ 64; omega)
    have m4 : mulOk twice 48271 = true := mulOk_of (by omega)
    have wd1 : wide 1000003 = true := by decide
    have wd2 : wide 64 = true := by decide
    have r0 := Int.emod_nonneg last (show n ≠ 0 by omega)
    have r1 := Int.emod_lt_of_pos last hn.1
    refine ⟨last % n, .lst [.int a, .int b, .int c1], ⟨r0, r1⟩, ⟨_, _, _, rfl, ha, ⟨hb, hb2⟩, q1.1, by show c + 1 ≤ m + 1; omega⟩, runB_rt ?_ (len_ _)⟩
    have l1 := lstR_ref (set_ (.lst [.int a, .int b, .int c1]))
    have s0 : sIf (eBin (fLt fun i j => decide (j < i)) (eBin fIx (eVar 0) (eCon (.int 0))) (eCon (.int 0))) (sSeq (sAsg (eBin fMod (eBi fInt (aCons (eBin fIx (eVar 0) (eCon (.int 0))) aNil)) (eVar 1)) (gNm 2))
      (sSeq (sSet (eBin fDiv (eBin fIx (eVar 0) (eCon (.int 0))) (eVar 1)) (eVar 0) (eCon (.int 0)))
      (sRet (eVar 2)))) sNext (startE 6 [.ref k, .int n]) hp = .nx [some (.ref k), some (.int n), none, none, none, none] hp := by
      refine (if_f (bin_ok (d1 := .int a) (d2 := .int 0) (bin_ok (var_ok rfl) con_ok ?_) con_ok ?_)).trans rfl
      · show (match lstR hp (.ref k) with
          | some xs => L2.atI xs 0
          | none => none) = _
        rw [l0]
        exact a0 a b c
      · show some (D.bl (decide (0 < a))) = _
        rw [decide_eq_false pos]
    refine (seq_nx s0).trans ?_
    have s1 : sSet (eBin fAdd (eBin fIx (eVar 0) (eCon (.int 2))) (eCon (.int 1))) (eVar 0) (eCon (.int 2)) [some (.ref k), some (.int n), none, none, none, none] hp = .nx [some (.ref k), some (.int n), none, none, none, none] (hp.set k (.lst [.int a, .int b, .int c1])) := by
      simp [sSet, eBin, eVar, fIx, l0, a2, eCon, fAdd, hk, i32, below, c1]
    refine (seq_nx s1).trans ?_
    generalize hp.set k (.lst [.int a, .int b, .int c1]) = hq at l1
    have ix1 : ∀ s : Sl, s[0]? = some (some (.ref k)) → (eBin fIx (eVar 0) (eCon (.int 1))) s hq = .ok (.int b) hq := fun s e => by
      refine bin_ok (var_ok e) con_ok ?_
      show (match lstR hq (.ref k) with
        | some xs => L2.atI xs 1
        | none => none) = _
      rw [l1]
      rfl
    have ix2 : ∀ s : Sl, s[0]? = some (some (.ref k)) → (eBin fIx (eVar 0) (eCon (.int 2))) s hq = .ok (.int c1) hq := fun s e => by
      refine bin_ok (var_ok e) con_ok ?_
      show (match lstR hq (.ref k) with
        | some xs => L2.atI xs 2
        | none => none) = _
      rw [l1]
      rfl
    have mul_ : ∀ i j : Int, mulOk i j = true → fMulT hq (.int i) (.int j) = some (.int (i * j)) := fun i j h => by
      show fMul hq (.int i) (.int j) = _
      unfold fMul
      dsimp only
      rw [if_pos h]
    have mod_ : ∀ i j : Int, 0 < j → fMod hq (.int i) (.int j) = some (.int (i % j)) := fun i j h => by
      unfold fMod
      dsimp only
      rw [if_pos h]
    refine (seq_nx (asg_nm (d := .int once) (hp1 := hq) (bin_ok (bi_ok (cons_ok (bin_ok (bin_ok (ix1 _ rfl) (bin_ok con_ok (ix2 _ rfl) (mul_ _ _ m1)) (d := .int (b + 48271 * c1)) rfl) (bin_ok con_ok (ix2 _ rfl) (d := .int (39373 + c1)) rfl) (mul_ _ _ m2)) nil_ok) rfl) con_ok (mod_ _ _ (by decide))))).trans ?_
    refine (seq_nx (asg_nm (d := .int wide_) (hp1 := hq) (bin_ok (bin_ok (bi_ok (cons_ok (var_ok rfl) nil_ok) rfl) con_ok (mod_ _ _ (by decide))) con_ok rfl))).trans ?_
    refine (seq_nx (asg_nm (d := .int twice) (hp1 := hq) (bin_ok (bi_ok (cons_ok (bin_ok (bin_ok (bin_ok (var_ok rfl) (ix2 _ rfl) (d := .int (once + c1)) rfl) (bin_ok (ix1 _ rfl) con_ok (d := .int (b / 1000003)) rfl) (d := .int (once + c1 + b / 1000003)) rfl) (var_ok rfl) (mul_ _ _ m3)) nil_ok) rfl) con_ok (mod_ _ _ (by decide))))).trans ?_
    refine ret_ok (bin_ok (bi_ok (cons_ok (bin_ok (bin_ok (bi_ok (cons_ok (bin_ok (bin_ok (var_ok rfl) con_ok (mul_ _ _ m4)) (var_ok rfl) (d := .int (twice * 48271 + once)) rfl) nil_ok) rfl) con_ok (mod_ _ _ (by decide))) con_ok (d := .int last) rfl) nil_ok) rfl) (var_ok rfl) (mod_ _ _ hn.1))
/-- one of some goods -/
theorem of_one {hp : List O} {k : Nat} {o : O} {m : Int} {goods : D} {xs : List D} (hg : goods = .tup xs ∨ goods = .lst xs) (hk : hp[k]? = some o) (t : Tin o m) (hm : m < 2 ^ 40) (hx : 0 < xs.length ∧ xs.length < 2 ^ 30) :
    ∃ (i : Nat) (d : D) (o' : O), xs[i]? = some d ∧ Tin o' (m + 1) ∧ runB 2 (sRet (eBin fIx (eVar 1) (eCall (runB 6 dTake) [] (aCons (eVar 0) (aCons (eBi fLen (aCons (eVar 1) aNil)) aNil))))) [.ref k, goods] hp = .ok d (hp.set k o') := by
  obtain ⟨r, o', ⟨r0, r1⟩, t', e⟩ := take_one (n := (xs.length : Int)) hk t hm ⟨by omega, by omega⟩
  have lt : r.toNat < xs.length := by omega
  refine ⟨r.toNat, xs[r.toNat], o', List.getElem?_eq_getElem lt, t', runB_rt ?_ (List.length_set)⟩
  refine ret_ok (bin_ok (d1 := goods) (hp1 := hp) (var_ok rfl) ((call_ok' (cons_ok (var_ok rfl) (cons_ok (bi_ok (cons_ok (var_ok rfl) nil_ok) (d := .int (xs.length : Int)) ?_) nil_ok))).trans e) ?_)
  · rcases hg with rfl | rfl <;> rfl
  · have at_ : L2.atI xs r = some xs[r.toNat] := by
      unfold L2.atI
      have q : L2.ixN xs.length r = some r.toNat := by
        unfold L2.ixN
        simp [r0, r1]
      rw [q]
      exact List.getElem?_eq_getElem lt
    rcases hg with rfl | rfl
    · exact at_
    · exact at_
end EV

/-! readings of rows whose length is not known, and draws in a row -/
namespace EV
open PySem L2 DV
section
variable {eg : EG} {et ee : EE} {s : Sl} {hp : List O}
theorem compGo_map (f : D → D) : ∀ (xs : List D), (∀ x ∈ xs, ∃ s1, eg s x = some s1 ∧ et s1 hp = .ok (.bl true) hp ∧ ee s1 hp = .ok (f x) hp) → compGo eg et ee s xs hp = .ok (xs.map f) hp
  | [], _ => rfl
  | x :: xs, h => by
    obtain ⟨s1, h1, h2, h3⟩ := h x List.mem_cons_self
    unfold compGo
    rw [h1]
    dsimp only
    rw [h2]
    dsimp only
    rw [h3]
    dsimp only
    rw [compGo_map f xs fun y hy => h y (List.mem_cons_of_mem _ hy)]
    rfl
theorem compGo_filter (f : D → D) (p : D → Bool) : ∀ (xs : List D), (∀ x ∈ xs, ∃ s1, eg s x = some s1 ∧ et s1 hp = .ok (.bl (p x)) hp ∧ (p x = true → ee s1 hp = .ok (f x) hp)) → compGo eg et ee s xs hp = .ok ((xs.filter p).map f) hp
  | [], _ => rfl
  | x :: xs, h => by
    obtain ⟨s1, h1, h2, h3⟩ := h x List.mem_cons_self
    have ih := compGo_filter f p xs fun y hy => h y (List.mem_cons_of_mem _ hy)
    unfold compGo
    rw [h1]
    dsimp only
    rw [h2]
    dsimp only
    cases e : p x with
    | true =>
      dsimp only
      rw [h3 e]
      dsimp only
      rw [ih, List.filter_cons, if_pos e]
      rfl
    | false =>
      dsimp only
      rw [ih, List.filter_cons, if_neg (by rw [e]; decide)]
/-- the heap goes on from turn to turn; I holds of it -/
theorem compGo_run {I : Nat → List O → Prop} {P : Nat → D → Prop} : ∀ (xs : List D) (k : Nat) (hp : List O), I k hp → (∀ (i : Nat) (x : D) (hp : List O), xs[i]? = some x → I (k + i) hp → ∃ s1 d hp1, eg s x = some s1 ∧ et s1 hp = .ok (.bl true) hp ∧ ee s1 hp = .ok d hp1 ∧ I (k + i + 1) hp1 ∧ P (k + i) d) →
    ∃ ys hp1, compGo eg et ee s xs hp = .ok ys hp1 ∧ I (k + xs.length) hp1 ∧ ys.length = xs.length ∧ ∀ (i : Nat) (y : D), ys[i]? = some y → P (k + i) y
  | [], k, hp, i0, _ => ⟨[], hp, rfl, i0, rfl, fun i y e => by simp at e⟩
  | x :: xs, k, hp, i0, h => by
    obtain ⟨s1, d, hp1, h1, h2, h3, h4, h5⟩ := h 0 x hp rfl i0
    obtain ⟨ys, hp2, e, i1, hl, hP⟩ := compGo_run xs (k + 1) hp1 h4 fun i y hq ei hi => by
      have := h (i + 1) y hq (by simpa using ei) (by rw [show k + (i + 1) = k + 1 + i by omega]; exact hi)
      rw [show k + (i + 1) = k + 1 + i by omega] at this
      exact this
    refine ⟨d :: ys, hp2, ?_, by rw [List.length_cons, show k + (xs.length + 1) = k + 1 + xs.length by omega]; exact i1, by rw [List.length_cons, List.length_cons, hl], fun i y ey => ?_⟩
    · unfold compGo
      rw [h1]
      dsimp only
      rw [h2]
      dsimp only
      rw [h3]
      dsimp only
      rw [e]
    · cases i with
      | zero => cases ey; exact h5
      | succ i =>
        rw [show k + (i + 1) = k + 1 + i by omega]
        exact hP i y (by simpa using ey)
variable {ei : EI} {vs : List Nat} {hp1 hp2 : List O} {ds ys : List D}
theorem comp_ok (h1 : ei s hp = .ok ds hp1) (hl : ds.length ≤ 100000) (h : compGo eg et ee (wipeE s vs) ds hp1 = .ok ys hp2) : eComp ei eg et ee vs s hp = .ok (.lst ys) hp2 := by
  unfold eComp
  rw [h1]
  dsimp only
  rw [if_pos hl, h]
theorem bools_map (p : D → Bool) : ∀ xs : List D, bools (xs.map fun x => .bl (p x)) = some (xs.map p)
  | [] => rfl
  | x :: xs => by rw [List.map_cons]; unfold bools; rw [bools_map p xs]; rfl
/-- all([.. for ..]) of things that are all so -/
theorem all_true (h1 : ei s hp = .ok ds hp) (hl : ds.length ≤ 100000) (h : ∀ x ∈ ds, ∃ s1, eg (wipeE s vs) x = some s1 ∧ et s1 hp = .ok (.bl true) hp ∧ ee s1 hp = .ok (.bl true) hp) : eBi fAll (aCons (eComp ei eg et ee vs) aNil) s hp = .ok (.bl true) hp := by
  refine bi_ok (cons_ok (comp_ok h1 hl (compGo_map (fun _ => .bl true) ds h)) nil_ok) ?_
  show ((bools (ds.map fun _ => D.bl true)).map fun bs => D.bl (bs.all id)) = _
  rw [bools_map (fun _ => true)]
  simp
theorem iSeq_tup {e : EE} {xs : List D} (h : e s hp = .ok (.tup xs) hp1) : iSeq e s hp = .ok xs hp1 := by unfold iSeq; rw [h]; rfl
theorem iSeq_lst {e : EE} {xs : List D} (h : e s hp = .ok (.lst xs) hp1) : iSeq e s hp = .ok xs hp1 := by unfold iSeq; rw [h]; rfl
/-- a for whose turns all go on -/
theorem forGo_run {g : EG} {eb : ES} {I : Nat → Sl → List O → Prop} : ∀ (xs : List D) (k : Nat) (s : Sl) (hp : List O), I k s hp → (∀ (i : Nat) (x : D) (s : Sl) (hp : List O), xs[i]? = some x → I (k + i) s hp → ∃ s1 s2 hp2, g s x = some s1 ∧ eb s1 hp = .nx s2 hp2 ∧ I (k + i + 1) s2 hp2) →
    ∃ s2 hp2, forGo g eb xs s hp = .nx s2 hp2 ∧ I (k + xs.length) s2 hp2
  | [], k, s, hp, i0, _ => ⟨s, hp, rfl, i0⟩
  | x :: xs, k, s, hp, i0, h => by
    obtain ⟨s1, s2, hp2, h1, h2, h3⟩ := h 0 x s hp rfl i0
    obtain ⟨s3, hp3, e, i1⟩ := forGo_run xs (k + 1) s2 hp2 h3 fun i y s hq ei hi => by
      have := h (i + 1) y s hq (by simpa using ei)
      rw [show k + (i + 1) = k + 1 + i by omega] at this
      exact this hi
    refine ⟨s3, hp3, ?_, by rw [List.length_cons, show k + (xs.length + 1) = k + 1 + xs.length by omega]; exact i1⟩
    unfold forGo
    rw [h1]
    dsimp only
    rw [h2]
    exact e
theorem for_ok {g : EG} {eb : ES} {r : RS} (h1 : ei s hp = .ok ds hp1) (h : forGo g eb ds s hp1 = r) : sFor ei g eb s hp = r := by
  unfold sFor; rw [h1]; exact h
end
/-! one that draws -/
def Drw (F : List D → List O → RE) (ds : List D) (c : Int) (P : D → Prop) : Prop := ∀ (o : O) (m : Int) (r : List O), Tin o m → m + c ≤ 2 ^ 30 → ∃ d o', Tin o' (m + c) ∧ F ds (o :: r) = .ok d (o' :: r) ∧ P d
theorem Drw.le {F : List D → List O → RE} {ds : List D} {c c' : Int} {P : D → Prop} (h : Drw F ds c P) (hc : c ≤ c') : Drw F ds c' P := fun o m r t hm => by
  obtain ⟨d, o', t', e, p⟩ := h o m r t (by omega)
  exact ⟨d, o', t'.le (by omega), e, p⟩
theorem drw_take {n : Int} (hn : 0 < n ∧ n < 2 ^ 62) : Drw (runB 6 dTake) [.ref 0, .int n] 1 (fun d => ∃ r, d = .int r ∧ 0 ≤ r ∧ r < n) := fun o m r t hm => by
  obtain ⟨q, o', ⟨h0, h1⟩, t', e⟩ := take_one (hp := o :: r) (k := 0) rfl t (by omega) hn
  exact ⟨_, o', t', e, q, rfl, h0, h1⟩
abbrev dPick : ES := (sRet (eBin fIx (eVar 1) (eCall (runB 6 dTake) [] (aCons (eVar 0) (aCons (eBi fLen (aCons (eVar 1) aNil)) aNil)))))
theorem drw_of {xs : List D} (hx : 0 < xs.length ∧ xs.length < 2 ^ 30) : Drw (runB 2 dPick) [.ref 0, .lst xs] 1 (fun d => d ∈ xs) := fun o m r t hm => by
  obtain ⟨i, d, o', hi, t', e⟩ := of_one (hp := o :: r) (k := 0) (.inr rfl) rfl t (by omega) hx
  exact ⟨d, o', t', e, List.mem_of_getElem? hi⟩
/-- an expression that draws -/
def EDr (ee : EE) (s : Sl) (c : Int) (P : D → Prop) : Prop := ∀ (o : O) (m : Int) (r : List O), Tin o m → m + c ≤ 2 ^ 30 → ∃ d o', Tin o' (m + c) ∧ ee s (o :: r) = .ok d (o' :: r) ∧ P d
theorem edr1 {F : List D → List O → RE} {s : Sl} {i : Nat} {a : D} {c : Int} {P : D → Prop} (h : Drw F [a] c P) (hi : s[i]? = some (some a)) : EDr (eCall F [] (aCons (eVar i) aNil)) s c P := fun o m r t hm => by
  obtain ⟨d, o', t', e, p⟩ := h o m r t hm
  exact ⟨d, o', t', (call_ok' (cons_ok (var_ok hi) nil_ok)).trans e, p⟩
theorem edr2 {F : List D → List O → RE} {s : Sl} {i : Nat} {a b : D} {eb : EE} {c : Int} {P : D → Prop} (h : Drw F [a, b] c P) (hi : s[i]? = some (some a)) (hb : ∀ hp, eb s hp = .ok b hp) : EDr (eCall F [] (aCons (eVar i) (aCons eb aNil))) s c P := fun o m r t hm => by
  obtain ⟨d, o', t', e, p⟩ := h o m r t hm
  exact ⟨d, o', t', (call_ok' (cons_ok (var_ok hi) (cons_ok (hb _) nil_ok))).trans e, p⟩
theorem compGo_draw {eg : EG} {et ee : EE} {s : Sl} {c : Int} {P : D → Prop} (hc : 0 ≤ c) : ∀ (xs : List D), (∀ x ∈ xs, ∃ s1, eg s x = some s1 ∧ (∀ hp, et s1 hp = .ok (.bl true) hp) ∧ EDr ee s1 c P) → ∀ (o : O) (m : Int) (r : List O), Tin o m → m + c * xs.length ≤ 2 ^ 30 →
    ∃ ys o', compGo eg et ee s xs (o :: r) = .ok ys (o' :: r) ∧ Tin o' (m + c * xs.length) ∧ ys.length = xs.length ∧ ∀ y ∈ ys, P y
  | [], _, o, m, r, t, _ => ⟨[], o, rfl, t.le (by simp), rfl, fun y h => by cases h⟩
  | x :: xs, h, o, m, r, t, hm => by
    obtain ⟨s1, h1, h2, h3⟩ := h x List.mem_cons_self
    have el : c * ((x :: xs).length : Int) = c * (xs.length : Int) + c := by rw [List.length_cons, Int.natCast_succ, Int.mul_add, Int.mul_one]
    have pos : 0 ≤ c * (xs.length : Int) := Int.mul_nonneg hc (by omega)
    rw [el] at hm
    obtain ⟨d, o1, t1, e1, p1⟩ := h3 o m r t (by omega)
    obtain ⟨ys, o2, e2, t2, hl, hp⟩ := compGo_draw hc xs (fun y hy => h y (List.mem_cons_of_mem _ hy)) o1 (m + c) r t1 (by omega)
    refine ⟨d :: ys, o2, ?_, by rw [el]; exact t2.le (by omega), by rw [List.length_cons, List.length_cons, hl], fun y hy => ?_⟩
    · unfold compGo
      rw [h1]
      dsimp only
      rw [h2]
      dsimp only
      rw [e1]
      dsimp only
      rw [e2]
    · rcases List.mem_cons.mp hy with rfl | hy
      · exact p1
      · exact hp y hy
end EV

namespace EV
open PySem L2 DV
/-! dicts: keys are ints and texts -/
abbrev KVs := List (L2.Key × D)
def keyD : D → Option L2.Key
  | .int i => some (.inl i)
  | .str x => some (.inr x)
  | _ => none
def kD : L2.Key → D
  | .inl i => .int i
  | .inr x => .str x
def kvsOf : Option O → Option KVs
  | some (.dct kvs) => some kvs
  | some (.lck kvs) => some kvs
  | _ => none
def dctOf : Option O → Option KVs
  | some (.dct kvs) => some kvs
  | _ => none
def valD (kvs : KVs) (k : L2.Key) : Option D := (kvs.find? fun kv => decide (kv.1 = k)).map (·.2)
def hasD (kvs : KVs) (k : L2.Key) : Bool := kvs.any fun kv => decide (kv.1 = k)
def putD (kvs : KVs) (k : L2.Key) (d : D) : KVs := if hasD kvs k = true then kvs.map (fun kv => if kv.1 = k then (kv.1, d) else kv) else kvs ++ [(k, d)]
def dropD (kvs : KVs) (k : L2.Key) : KVs := kvs.filter fun kv => decide (kv.1 ≠ k)
def mergeD (kvs more : KVs) : KVs := more.foldl (fun acc kv => putD acc kv.1 kv.2) kvs
section
variable (K : PySem.W.Frag) (G : Gs) (m : List Addr) (b : Hp)
inductive DR : List (L2.Key × V) → KVs → Prop
  | nil : DR [] []
  | cons {k : L2.Key} {v : V} {d : D} {vs : List (L2.Key × V)} {ds : KVs} : RD K G m b v d → DR vs ds → DR ((k, v) :: vs) ((k, d) :: ds)
end
section
variable {K : PySem.W.Frag} {G : Gs} {m m1 : List Addr} {b b1 h h1 : Hp} {vs ws : List (L2.Key × V)} {ds es : KVs} {k : L2.Key}
theorem DR.of : ∀ {vs : List (L2.Key × V)} {ds : KVs}, vs.map (·.1) = ds.map (·.1) → RDs K G m b (vs.map (·.2)) (ds.map (·.2)) → DR K G m b vs ds
  | [], [], _, _ => .nil
  | [], _ :: _, e, _ => by cases e
  | _ :: _, [], e, _ => by cases e
  | (k, v) :: vs, (k', d) :: ds, e, r => by
    rw [List.map_cons, List.map_cons] at e r
    obtain ⟨e1, e2⟩ := List.cons.inj e
    dsimp only at e1
    subst e1
    cases r with
    | cons r rs => exact .cons r (DR.of e2 rs)
theorem DR.keys (r : DR K G m b vs ds) : vs.map (·.1) = ds.map (·.1) := by
  induction r with
  | nil => rfl
  | cons _ _ ih => rw [List.map_cons, List.map_cons, ih]
theorem DR.vals (r : DR K G m b vs ds) : RDs K G m b (vs.map (·.2)) (ds.map (·.2)) := by
  induction r with
  | nil => exact .nil
  | cons r _ ih => exact .cons r ih
theorem DR.length (r : DR K G m b vs ds) : vs.length = ds.length := by
  induction r with
  | nil => rfl
  | cons r _ ih => rw [List.length_cons, List.length_cons, ih]
theorem DR.go (x : Stp m b h m1 b1 h1) (r : DR K G m b vs ds) : DR K G m1 b1 vs ds := .of r.keys (r.vals.go x)
theorem DR.val (r : DR K G m b vs ds) (k : L2.Key) : (∀ d, valD ds k = some d → ∃ v, valV vs k = some v ∧ RD K G m b v d) ∧ (valD ds k = none → valV vs k = none) := by
  induction r with
  | nil => exact ⟨fun d e => (by cases e), fun _ => rfl⟩
  | @cons k' v d vs ds r _ ih =>
    by_cases e : k' = k
    · have e1 : valD ((k', d) :: ds) k = some d := by unfold valD; rw [List.find?_cons, decide_eq_true e]; rfl
      rw [e1, valV_pos (p := (k', v)) e]
      exact ⟨fun d' q => by cases q; exact ⟨v, rfl, r⟩, fun q => by cases q⟩
    · have e1 : valD ((k', d) :: ds) k = valD ds k := by unfold valD; rw [List.find?_cons, decide_eq_false e]
      rw [e1, valV_neg (p := (k', v)) e]
      exact ih
theorem DR.some (r : DR K G m b vs ds) (k : L2.Key) : (valV vs k).isSome = (valD ds k).isSome := by
  obtain ⟨h1, h2⟩ := r.val k
  cases e : valD ds k with
  | none => rw [h2 e]; rfl
  | some d => obtain ⟨v, e2, _⟩ := h1 d e; rw [e2]; rfl
theorem DR.any (r : DR K G m b vs ds) (k : L2.Key) : (vs.any fun kv => decide (kv.1 = k)) = hasD ds k := by
  unfold hasD
  induction r with
  | nil => rfl
  | cons _ _ ih => rw [List.any_cons, List.any_cons, ih]
theorem DR.append (r : DR K G m b vs ds) (q : DR K G m b ws es) : DR K G m b (vs ++ ws) (ds ++ es) := by
  induction r with
  | nil => exact q
  | cons r _ ih => exact .cons r ih
theorem DR.put {v : V} {d : D} (r : DR K G m b vs ds) (k : L2.Key) (q : RD K G m b v d) : DR K G m b (putK vs k v) (putD ds k d) := by
  unfold putK putD
  rw [r.any k]
  split
  · clear ‹hasD ds k = true›
    induction r with
    | nil => exact .nil
    | @cons k' v' d' vs ds r _ ih =>
      rw [List.map_cons, List.map_cons]
      by_cases e : k' = k
      · rw [if_pos (by exact e), if_pos (by exact e)]; exact .cons q ih
      · rw [if_neg (by exact e), if_neg (by exact e)]; exact .cons r ih
  · exact r.append (.cons q .nil)
theorem DR.drop (r : DR K G m b vs ds) (k : L2.Key) : DR K G m b (dropK vs k) (dropD ds k) := by
  unfold dropK dropD
  induction r with
  | nil => exact .nil
  | @cons k' v' d' vs ds r _ ih =>
    by_cases e : k' = k
    · rw [List.filter_cons_of_neg (by simp [e]), List.filter_cons_of_neg (by simp [e])]; exact ih
    · rw [List.filter_cons_of_pos (by simp [e]), List.filter_cons_of_pos (by simp [e])]; exact .cons r ih
theorem DR.merge (r : DR K G m b vs ds) (q : DR K G m b ws es) : DR K G m b (mergeK ws vs) (mergeD es ds) := by
  induction r generalizing ws es with
  | nil => exact q
  | cons r _ ih => exact ih (q.put _ r)
theorem keyD_rd {v : V} {d : D} {k : L2.Key} (r : RD K G m b v d) (e : keyD d = some k) : v = kV k := by
  cases r <;> cases e <;> rfl
theorem kD_rd (k : L2.Key) : RD K G m b (kV k) (kD k) := by
  cases k with
  | inl i => exact .int i
  | inr x => exact .str x
end
section
variable {K : PySem.W.Frag} {G : Gs} {W : WX} {m m' : List Addr} {b h b' h' : Hp} {hp hp' : List O}
theorem Ok.newO (ok : Ok K G m b h hp) {p : Addr} {u : HO} {o : O} (hp' : h p = none) (r : ObjR K G m b (upd h p u) p o) : Ok K G (m ++ [p]) b (upd h p u) (hp ++ [o]) ∧ Stp m b h (m ++ [p]) b (upd h p u) ∧ RD K G (m ++ [p]) b (.ref p) (.ref hp.length) := by
  have bP : b p = none := ok.sub.free hp'
  have mP : p ∉ m := ok.notin hp'
  refine ⟨(ok.off bP mP).add (ObB.of bP) mP r, ((Stp.rfl' ok.sub).off hp' bP).add hp', .ref ?_⟩
  rw [← ok.len, List.getElem?_append_right (Nat.le_refl _)]
  simp
theorem Ok.mutO (ok : Ok K G m b h hp) {n : Nat} {a : Addr} {o o' : O} {u : HO} (e1 : m[n]? = some a) (e2 : hp[n]? = some o) (nb : b a = none) (r : ObjR K G m b (upd h a u) a o') : Ok K G m b (upd h a u) (hp.set n o') ∧ Stp m b h m b (upd h a u) := by
  have F : Fr [a] b h b (upd h a u) := Fr.mut ok.sub nb
  have am : a ∈ m := List.mem_of_getElem? e1
  refine ⟨⟨F.sub, ok.nd, by rw [List.length_set]; exact ok.len, fun i c w f1 f2 => ?_⟩, F.more (fun c hc => by
    have : c = a := by simpa using hc
    rw [this]; exact am), [], (List.append_nil m).symm, fun _ h => by cases h⟩
  by_cases hi : n = i
  · subst hi
    rw [List.getElem?_set, if_pos rfl] at f2
    split at f2
    · cases f2
      rw [e1] at f1; cases f1
      exact ⟨ObB.of nb, r⟩
    · cases f2
  · rw [List.getElem?_set_ne hi] at f2
    obtain ⟨n2, q⟩ := ok.ob i c w f1 f2
    have ne : c ≠ a := fun z => by
      subst z
      obtain ⟨l1, g1⟩ := List.getElem?_eq_some_iff.mp e1
      obtain ⟨l2, g2⟩ := List.getElem?_eq_some_iff.mp f1
      exact hi ((List.getElem_inj ok.nd).mp (g1.trans g2.symm))
    exact ⟨n2, q.map (fun u e => by rw [upd_ne ne]; exact e) (fun u e => e) fun vs r => r⟩
/-- a tracked dict, to be read -/
theorem Ok.rdD (ok : Ok K G m b h hp) {v : V} {n : Nat} {kvs : KVs} (r : RD K G m b v (.ref n)) (e : kvsOf hp[n]? = some kvs) : ∃ a vs, v = .ref a ∧ m[n]? = some a ∧ Rd h a (.dK vs) ∧ DR K G m b vs kvs := by
  cases r with
  | @ref a _ em =>
    cases e1 : hp[n]? with
    | none => rw [e1] at e; cases e
    | some o =>
      rw [e1] at e
      obtain ⟨_, r⟩ := ok.ob n a o em e1
      cases o with
      | dct xs => cases e; obtain ⟨vs, q1, q2, q3⟩ := r; exact ⟨a, vs, rfl, em, .inl q1, .of q2 q3⟩
      | lck xs => cases e; obtain ⟨od, vs, _, q1, q2, q3⟩ := r; exact ⟨a, vs, rfl, em, .inr ⟨od, q1⟩, .of q2 q3⟩
      | _ => cases e
/-- .. to be changed -/
theorem Ok.wrD (ok : Ok K G m b h hp) {v : V} {n : Nat} {kvs : KVs} (r : RD K G m b v (.ref n)) (e : dctOf hp[n]? = some kvs) : ∃ a vs, v = .ref a ∧ m[n]? = some a ∧ hp[n]? = some (.dct kvs) ∧ b a = none ∧ h a = some (.dK vs) ∧ DR K G m b vs kvs := by
  cases r with
  | @ref a _ em =>
    cases e1 : hp[n]? with
    | none => rw [e1] at e; cases e
    | some o =>
      rw [e1] at e
      obtain ⟨nb, r⟩ := ok.ob n a o em e1
      cases o with
      | dct xs => cases e; obtain ⟨vs, q1, q2, q3⟩ := r; exact ⟨a, vs, rfl, em, rfl, nb, q1, .of q2 q3⟩
      | _ => cases e
theorem kvs_dct {o : Option O} {kvs : KVs} (e : dctOf o = some kvs) : kvsOf o = some kvs := by
  cases o with
  | none => cases e
  | some o => cases o <;> cases e; rfl
theorem Ok.isD (ok : Ok K G m b h hp) {v : V} {n : Nat} (r : RD K G m b v (.ref n)) (e : (kvsOf hp[n]?).isSome = true) : ∃ a, v = .ref a ∧ IsD h a := by
  obtain ⟨kvs, e⟩ := Option.isSome_iff_exists.mp e
  obtain ⟨a, vs, e1, _, e2, _⟩ := ok.rdD r e
  exact ⟨a, e1, .inl ⟨vs, e2⟩⟩
end
/-! reading -/
def fDGet (hp : List O) (d1 d2 : D) : Option D := match d1 with
  | .ref n => (match keyD d2, kvsOf hp[n]? with
    | some k, some kvs => valD kvs k
    | _, _ => none)
  | _ => none
def fDIn (neg : Bool) (hp : List O) (d1 d2 : D) : Option D := match d2 with
  | .ref n => (match keyD d1, kvsOf hp[n]? with
    | some k, some kvs => some (.bl (if neg then !(valD kvs k).isSome else (valD kvs k).isSome))
    | _, _ => none)
  | _ => none
def eDNew : EE := fun _ hp => .ok (.ref hp.length) (hp ++ [.dct []])
/-- d.get(k), d.get(k, x) -/
def eDGet1 (eo ea : EE) : EE := fun s hp => match eo s hp with
  | .ok (.ref n) hp1 => if (kvsOf hp1[n]?).isSome then (match ea s hp1 with
    | .ok d hp2 => (match keyD d, kvsOf hp2[n]? with
      | some k, some kvs => .ok ((valD kvs k).getD .non) hp2
      | _, _ => .bad)
    | .exc x hp2 => .exc x hp2
    | .bad => .bad) else .bad
  | .exc x hp1 => .exc x hp1
  | _ => .bad
def eDGet2 (eo ea ex : EE) : EE := fun s hp => match eo s hp with
  | .ok (.ref n) hp1 => if (kvsOf hp1[n]?).isSome then (match ea s hp1 with
    | .ok d hp2 => (match ex s hp2 with
      | .ok z hp3 => (match keyD d, kvsOf hp3[n]? with
        | some k, some kvs => .ok ((valD kvs k).getD z) hp3
        | _, _ => .bad)
      | .exc x hp3 => .exc x hp3
      | .bad => .bad)
    | .exc x hp2 => .exc x hp2
    | .bad => .bad) else .bad
  | .exc x hp1 => .exc x hp1
  | _ => .bad
/-- d.pop(k, x) -/
def eDPop2 (eo ea ex : EE) : EE := fun s hp => match eo s hp with
  | .ok (.ref n) hp1 => if (kvsOf hp1[n]?).isSome then (match ea s hp1 with
    | .ok d hp2 => (match ex s hp2 with
      | .ok z hp3 => (match keyD d, dctOf hp3[n]? with
        | some k, some kvs => (match valD kvs k with
          | some y => .ok y (hp3.set n (.dct (dropD kvs k)))
          | none => .ok z hp3)
        | _, _ => .bad)
      | .exc x hp3 => .exc x hp3
      | .bad => .bad)
    | .exc x hp2 => .exc x hp2
    | .bad => .bad) else .bad
  | .exc x hp1 => .exc x hp1
  | _ => .bad
/-- d[k] = v -/
def sDSet (ea eo ei : EE) : ES := fun s hp => match ea s hp with
  | .ok d hp1 => (match eo s hp1 with
    | .ok (.ref n) hp2 => (match ei s hp2 with
      | .ok dk hp3 => (match keyD dk, dctOf hp3[n]? with
        | some k, some kvs => if kvs.length ≤ 99999 then .nx s (hp3.set n (.dct (putD kvs k d))) else .bad
        | _, _ => .bad)
      | .exc x hp3 => .exc x s hp3
      | .bad => .bad)
    | .exc x hp2 => .exc x s hp2
    | _ => .bad)
  | .exc x hp1 => .exc x s hp1
  | .bad => .bad
section
variable {K : PySem.W.Frag} {G : Gs} {W : WX} {ea eo ei ex : EE} {ta to ti tx : TE}
theorem ok_dget : OpOk K G (fun x y H Q => ∃ a v, x = .ref a ∧ DGet H a y (some v) ∧ Q v H) fDGet := fun m b h hp x y d1 d2 d ok r1 r2 e Q q => by
  unfold fDGet at e
  split at e
  · rename_i n
    split at e
    · rename_i k kvs ek ev
      obtain ⟨a, vs, rfl, _, rd, dr⟩ := ok.rdD r1 ev
      obtain ⟨v, e1, r⟩ := (dr.val k).1 d e
      exact ⟨a, v, rfl, .inl ⟨vs, k, rd, keyD_rd r2 ek, e1.symm⟩, q v b h (Fr.rfl' ok.sub) r⟩
    · cases e
  · cases e
def rDIn (neg : Bool) : R2 := fun y x H Q => ∃ a o, x = .ref a ∧ DGet H a y o ∧ Q (.bl (if neg then !o.isSome else o.isSome)) H
theorem ok_din (neg : Bool) : OpOk K G (rDIn neg) (fDIn neg) := fun m b h hp x y d1 d2 d ok r1 r2 e Q q => by
  unfold fDIn at e
  split at e
  · rename_i n
    split at e
    · rename_i k kvs ek ev
      cases e
      obtain ⟨a, vs, rfl, _, rd, dr⟩ := ok.rdD r2 ev
      refine ⟨a, valV vs k, rfl, .inl ⟨vs, k, rd, keyD_rd r1 ek, rfl⟩, ?_⟩
      rw [dr.some k]
      exact q _ b h (Fr.rfl' ok.sub) (.bl _)
    · cases e
  · cases e
theorem op_din {X : Cx} (hu : X.A.units + 1 < cLine) : OpR X (compareOp .In) (rDIn false) := by
  rintro pins s σ H x y v u Q I rx ry ⟨a, o, rfl, g, q⟩
  cases ry
  exact d_in hu I g rx fun s' I' => ⟨.bl o.isSome, H, I', rfl, q⟩
theorem op_dnin {X : Cx} (hu : X.A.units + 1 < cLine) : OpR X (compareOp .NotIn) (rDIn true) := by
  rintro pins s σ H x y v u Q I rx ry ⟨a, o, rfl, g, q⟩
  cases ry
  exact d_notIn hu I g rx fun s' I' => ⟨.bl (!o.isSome), H, I', rfl, q⟩
theorem sn_dnew : SnE K G W tDNewK eDNew := fun m b h hp σ s ok sl Q p q hq => by
  obtain ⟨ok2, st2, rd⟩ := ok.newO (o := .dct []) (u := .dK []) hq ⟨[], upd_same, rfl, .nil⟩
  exact p _ _ _ _ st2 ok2 rd
theorem sn_dget1 (ho : SnE K G W to eo) (ha : SnE K G W ta ea) : SnE K G W (tDGet1 to ta) (eDGet1 eo ea) := fun m b h hp σ s ok sl Q p => by
  refine ho m b h hp σ s ok sl _ ?_
  unfold eDGet1 at p
  cases e : eo s hp with
  | ok d hp1 =>
    rw [e] at p
    cases d with
    | ref n =>
      dsimp only at p
      split at p
      · rename_i il
        intro v m1 b1 h1 x1 ok1 r1
        obtain ⟨a, rfl, isd⟩ := ok1.isD r1 il
        refine ⟨a, rfl, isd, ha m1 b1 h1 hp1 σ s ok1 (sl.go x1) _ ?_⟩
        cases e2 : ea s hp1 with
        | ok d2 hp2 =>
          rw [e2] at p
          dsimp only at p
          split at p
          · rename_i k kvs ek ev
            intro w m2 b2 h2 x2 ok2 r2
            obtain ⟨a', vs, ea', _, rd, dr⟩ := ok2.rdD (r1.go x2) ev
            cases ea'
            refine ⟨valV vs k, .inl ⟨vs, k, rd, keyD_rd r2 ek, rfl⟩, p _ m2 b2 h2 (x1.trans x2) ok2 ?_⟩
            cases q : valD kvs k with
            | none => rw [(dr.val k).2 q]; exact .non
            | some z => obtain ⟨z', q1, q2⟩ := (dr.val k).1 z q; rw [q1]; exact q2
          · exact p.elim
        | exc x hp2 => rw [e2] at p; exact fun c dx m2 b2 h2 x2 => p c dx m2 b2 h2 (x1.trans x2)
        | bad => rw [e2] at p; exact p.elim
      · exact p.elim
    | _ => exact p.elim
  | exc x hp1 => rw [e] at p; exact p
  | bad => rw [e] at p; exact p.elim
theorem sn_dget2 (ho : SnE K G W to eo) (ha : SnE K G W ta ea) (hx : SnE K G W tx ex) : SnE K G W (tDGet2 to ta tx) (eDGet2 eo ea ex) := fun m b h hp σ s ok sl Q p => by
  refine ho m b h hp σ s ok sl _ ?_
  unfold eDGet2 at p
  cases e : eo s hp with
  | ok d hp1 =>
    rw [e] at p
    cases d with
    | ref n =>
      dsimp only at p
      split at p
      · rename_i il
        intro v m1 b1 h1 x1 ok1 r1
        obtain ⟨a, rfl, isd⟩ := ok1.isD r1 il
        refine ⟨a, rfl, isd, ha m1 b1 h1 hp1 σ s ok1 (sl.go x1) _ ?_⟩
        cases e2 : ea s hp1 with
        | ok d2 hp2 =>
          rw [e2] at p
          dsimp only at p
          intro w m2 b2 h2 x2 ok2 r2
          refine hx m2 b2 h2 hp2 σ s ok2 ((sl.go x1).go x2) _ ?_
          cases e3 : ex s hp2 with
          | ok d3 hp3 =>
            rw [e3] at p
            dsimp only at p
            split at p
            · rename_i k kvs ek ev
              intro z m3 b3 h3 x3 ok3 r3
              obtain ⟨a', vs, ea', _, rd, dr⟩ := ok3.rdD ((r1.go x2).go x3) ev
              cases ea'
              refine ⟨valV vs k, .inl ⟨vs, k, rd, keyD_rd (r2.go x3) ek, rfl⟩, p _ m3 b3 h3 ((x1.trans x2).trans x3) ok3 ?_⟩
              cases q : valD kvs k with
              | none => rw [(dr.val k).2 q]; exact r3
              | some z => obtain ⟨z', q1, q2⟩ := (dr.val k).1 z q; rw [q1]; exact q2
            · exact p.elim
          | exc x hp3 => rw [e3] at p; exact fun c dx m3 b3 h3 x3 => p c dx m3 b3 h3 ((x1.trans x2).trans x3)
          | bad => rw [e3] at p; exact p.elim
        | exc x hp2 => rw [e2] at p; exact fun c dx m2 b2 h2 x2 => p c dx m2 b2 h2 (x1.trans x2)
        | bad => rw [e2] at p; exact p.elim
      · exact p.elim
    | _ => exact p.elim
  | exc x hp1 => rw [e] at p; exact p
  | bad => rw [e] at p; exact p.elim
theorem sn_dpop2 (ho : SnE K G W to eo) (ha : SnE K G W ta ea) (hx : SnE K G W tx ex) : SnE K G W (tDPop2 to ta tx) (eDPop2 eo ea ex) := fun m b h hp σ s ok sl Q p => by
  refine ho m b h hp σ s ok sl _ ?_
  unfold eDPop2 at p
  cases e : eo s hp with
  | ok d hp1 =>
    rw [e] at p
    cases d with
    | ref n =>
      dsimp only at p
      split at p
      · rename_i il
        intro v m1 b1 h1 x1 ok1 r1
        obtain ⟨a, rfl, isd⟩ := ok1.isD r1 il
        refine ⟨a, rfl, isd, ha m1 b1 h1 hp1 σ s ok1 (sl.go x1) _ ?_⟩
        cases e2 : ea s hp1 with
        | ok d2 hp2 =>
          rw [e2] at p
          dsimp only at p
          intro w m2 b2 h2 x2 ok2 r2
          refine hx m2 b2 h2 hp2 σ s ok2 ((sl.go x1).go x2) _ ?_
          cases e3 : ex s hp2 with
          | ok d3 hp3 =>
            rw [e3] at p
            dsimp only at p
            split at p
            · rename_i k kvs ek ev
              intro z m3 b3 h3 x3 ok3 r3
              obtain ⟨a', vs, ea', em, eh, nb, ed, dr⟩ := ok3.wrD ((r1.go x2).go x3) ev
              cases ea'
              refine ⟨vs, k, ed, keyD_rd (r2.go x3) ek, fun y ey => ?_, fun ey => ?_⟩
              · cases q : valD kvs k with
                | none => rw [(dr.val k).2 q] at ey; cases ey
                | some y' =>
                  rw [q] at p
                  dsimp only at p
                  obtain ⟨z', q1, q2⟩ := (dr.val k).1 y' q
                  rw [q1] at ey; cases ey
                  have dr2 := dr.drop k
                  obtain ⟨ok4, st4⟩ := ok3.mutO (u := .dK (dropK vs k)) (o' := .dct (dropD kvs k)) em eh nb ⟨_, upd_same, dr2.keys, dr2.vals⟩
                  exact p _ m3 b3 _ (((x1.trans x2).trans x3).trans st4) ok4 (q2.go st4)
              · cases q : valD kvs k with
                | none => rw [q] at p; exact p _ m3 b3 h3 ((x1.trans x2).trans x3) ok3 r3
                | some y' =>
                  obtain ⟨z', q1, q2⟩ := (dr.val k).1 y' q
                  rw [q1] at ey; cases ey
            · exact p.elim
          | exc x hp3 => rw [e3] at p; exact fun c dx m3 b3 h3 x3 => p c dx m3 b3 h3 ((x1.trans x2).trans x3)
          | bad => rw [e3] at p; exact p.elim
        | exc x hp2 => rw [e2] at p; exact fun c dx m2 b2 h2 x2 => p c dx m2 b2 h2 (x1.trans x2)
        | bad => rw [e2] at p; exact p.elim
      · exact p.elim
    | _ => exact p.elim
  | exc x hp1 => rw [e] at p; exact p
  | bad => rw [e] at p; exact p.elim
theorem snS_dset (ha : SnE K G W ta ea) (ho : SnE K G W to eo) (hi : SnE K G W ti ei) : SnS K G W (sDPut to ti ta) (sDSet ea eo ei) := fun m b h hp σ s ok sl Z p => by
  refine ha m b h hp σ s ok sl _ ?_
  unfold sDSet at p
  cases e : ea s hp with
  | ok d hp1 =>
    rw [e] at p
    dsimp only at p
    intro v m1 b1 h1 x1 ok1 r1
    refine ho m1 b1 h1 hp1 σ s ok1 (sl.go x1) _ ?_
    cases e2 : eo s hp1 with
    | ok d2 hp2 =>
      rw [e2] at p
      cases d2 with
      | ref n =>
        dsimp only at p
        intro w m2 b2 h2 x2 ok2 r2
        refine hi m2 b2 h2 hp2 σ s ok2 ((sl.go x1).go x2) _ ?_
        cases e3 : ei s hp2 with
        | ok d3 hp3 =>
          rw [e3] at p
          dsimp only at p
          split at p
          · rename_i k kvs ek ev
            split at p
            · rename_i hl
              intro z m3 b3 h3 x3 ok3 r3
              obtain ⟨a', vs, rfl, em, eh, nb, ed, dr⟩ := ok3.wrD (r2.go x3) ev
              have dr2 := dr.put k ((r1.go x2).go x3)
              obtain ⟨ok4, st4⟩ := ok3.mutO (u := .dK (putK vs k v)) (o' := .dct (putD kvs k d)) em eh nb ⟨_, upd_same, dr2.keys, dr2.vals⟩
              have st := ((x1.trans x2).trans x3).trans st4
              exact ⟨a', _, rfl, .inl ⟨vs, k, ed, keyD_rd r3 ek, by rw [dr.length]; exact Nat.lt_of_le_of_lt hl (by decide), rfl⟩, p σ m3 b3 _ st ok4 (sl.go st)⟩
            · exact p.elim
          · exact p.elim
        | exc x hp3 =>
          rw [e3] at p
          exact fun cls dx m3 b3 h3 x3 ok3 => p cls dx σ m3 b3 h3 ((x1.trans x2).trans x3) ok3 (sl.go ((x1.trans x2).trans x3))
        | bad => rw [e3] at p; exact p.elim
      | _ => exact p.elim
    | exc x hp2 =>
      rw [e2] at p
      exact fun cls dx m2 b2 h2 x2 ok2 => p cls dx σ m2 b2 h2 (x1.trans x2) ok2 (sl.go (x1.trans x2))
    | bad => rw [e2] at p; exact p.elim
  | exc x hp1 =>
    rw [e] at p
    exact fun cls dx m1 b1 h1 x1 ok1 => p cls dx σ m1 b1 h1 x1 ok1 (sl.go x1)
  | bad => rw [e] at p; exact p.elim
end
/-! rules -/
section
variable {K : PySem.W.Frag} {G : Gs} {W : WX} {X : Cx} {a b c o i : Expr} {ea eb ec : EE} {pos pos' apos cpos : Pos}
theorem xdnew : PX K G W X (.Dict [] [] pos) eDNew := px pe_dnewK sn_dnew
theorem xdget (hu : X.A.units + 64 < cLine) (ha : PX K G W X a ea) (hb : PX K G W X b eb) (hs : NoSl b := by intro _ _; rfl) : PX K G W X (.Subscript a b pos) (eBin fDGet ea eb) := px (pe_dget (by omega) ha hb hs) (sn_op ok_dget sn_of sn_of)
theorem c_din (hu : X.A.units + 64 < cLine) : CpR K G X .In (fDIn false) := ⟨_, op_din (by omega), ok_din false⟩
theorem c_dnin (hu : X.A.units + 64 < cLine) : CpR K G X .NotIn (fDIn true) := ⟨_, op_dnin (by omega), ok_din true⟩
theorem xdget1 (hu : X.A.units + 64 < cLine) (ha : PX K G W X a ea) (hb : PX K G W X b eb) (m : M1 X a "get" apos b cpos := by exact ⟨by rfl, by rfl, by rfl, by rfl⟩) : PX K G W X (.Call (.Attribute a "get" apos) [b] [] cpos) (eDGet1 ea eb) := px (pe_dget1 (by omega) ha hb m) (sn_dget1 sn_of sn_of)
theorem xdget2 (hu : X.A.units + 64 < cLine) (ha : PX K G W X a ea) (hb : PX K G W X b eb) (hc : PX K G W X c ec) (m : M2 X a "get" apos b c cpos := by exact ⟨by rfl, by rfl, by rfl, by rfl⟩) : PX K G W X (.Call (.Attribute a "get" apos) [b, c] [] cpos) (eDGet2 ea eb ec) := px (pe_dget2 (by omega) ha hb hc m) (sn_dget2 sn_of sn_of sn_of)
theorem xdpop2 (ha : PX K G W X a ea) (hb : PX K G W X b eb) (hc : PX K G W X c ec) (m : M2 X a "pop" apos b c cpos := by exact ⟨by rfl, by rfl, by rfl, by rfl⟩) : PX K G W X (.Call (.Attribute a "pop" apos) [b, c] [] cpos) (eDPop2 ea eb ec) := px (pe_dpop2 ha hb hc m) (sn_dpop2 sn_of sn_of sn_of)
theorem xs_dset (hu : X.A.units + 64 < cLine) (ha : PX K G W X a ea) (ho : PX K G W X o eb) (hi : PX K G W X i ec) (hs : swapsWith a (some (.Subscript o i pos')) pos.line X.env = pure false := by rfl) : PXS K G W X (.Assign [.Subscript o i pos'] a pos) (sDSet ea eb ec) := pxS (ps_dput (by omega) ho hi ha hs) (snS_dset sn_of sn_of sn_of)
end
end EV

namespace EV
open PySem L2 DV
/-! a dict is walked: while that goes on it is laid as data -/
def itemsK (kvs : KVs) : List D := kvs.map fun kv => kD kv.1
def itemsI (kvs : KVs) : List D := kvs.map fun kv => .tup [kD kv.1, kv.2]
/-- what is read of a locked dict at slot j -/
def iLck (f : KVs → List D) (j : Nat) : EI := fun s hp => match s[j]? with
  | some (some (.ref n)) => (match hp[n]? with
    | some (.lck kvs) => .ok (f kvs) hp
    | _ => .bad)
  | _ => .bad
def eLock (j : Nat) (ev : EE) : EE := fun s hp => match s[j]? with
  | some (some (.ref n)) => (match dctOf hp[n]? with
    | some kvs => (match ev s (hp.set n (.lck kvs)) with
      | .ok d hp2 => (match hp2[n]? with
        | some (.lck kvs2) => .ok d (hp2.set n (.dct kvs2))
        | _ => .bad)
      | _ => .bad)
    | none => .bad)
  | _ => .bad
/-- b without what is at a -/
def del (b : Hp) (a : Addr) : Hp := fun c => if c = a then none else b c
theorem del_at {b : Hp} {a : Addr} : del b a a = none := by unfold del; rw [if_pos rfl]
theorem del_ne {b : Hp} {a c : Addr} (h : c ≠ a) : del b a c = b c := by unfold del; rw [if_neg h]
section
variable {K : PySem.W.Frag} {G : Gs} {m : List Addr} {b : Hp} {a : Addr} {od : Obj} {ws : List (L2.Key × V)}
mutual
theorem RD.del (l : b a = some (.frz od (.dK ws))) : ∀ {v : V} {d : D}, RD K G m b v d → RD K G m (EV.del b a) v d
  | _, _, .non => .non
  | _, _, .bl x => .bl x
  | _, _, .int x => .int x
  | _, _, .str x => .str x
  | _, _, .tup (a := c) h t hs => by
    refine .tup ?_ (fun z => ?_) (RDs.del l hs)
    · rcases h with (h | ⟨o, h⟩) | h
      · exact .inl (.inl (by rw [del_ne (fun z => by rw [z, l] at h; cases h)]; exact h))
      · exact .inl (.inr ⟨o, by rw [del_ne (fun z => by rw [z, l] at h; cases h)]; exact h⟩)
      · exact .inr h
    · rcases t z with ⟨o, us, h, hd⟩ | h
      · exact .inl ⟨o, us, by rw [del_ne (fun z => by rw [z, l] at h; cases h)]; exact h, hd⟩
      · exact .inr h
  | _, _, .lst h hs => .lst (by rw [del_ne (fun z => by rw [z, l] at h; cases h)]; exact h) (RDs.del l hs)
  | _, _, .frz h hs => by
    refine .frz ?_ (RDs.del l hs)
    rcases h with (h | ⟨o, h⟩) | h
    · exact .inl (.inl (by rw [del_ne (fun z => by rw [z, l] at h; cases h)]; exact h))
    · exact .inl (.inr ⟨o, by rw [del_ne (fun z => by rw [z, l] at h; cases h)]; exact h⟩)
    · exact .inr h
  | _, _, .ref h => .ref h
  | _, _, .fn i => .fn i
  | _, _, .ty s => .ty s
theorem RDs.del (l : b a = some (.frz od (.dK ws))) : ∀ {vs : List V} {ds : List D}, RDs K G m b vs ds → RDs K G m (EV.del b a) vs ds
  | _, _, .nil => .nil
  | _, _, .cons h hs => .cons (RD.del l h) (RDs.del l hs)
end
end
section
variable {K : PySem.W.Frag} {G : Gs} {W : WX} {m m' : List Addr} {b h b' h' : Hp} {hp hp' : List O}
theorem Ok.lock (ok : Ok K G m b h hp) {n : Nat} {a : Addr} {vs : List (L2.Key × V)} {kvs : KVs} (od : Obj) (em : m[n]? = some a) (eh : hp[n]? = some (.dct kvs)) (nb : b a = none) (ed : h a = some (.dK vs)) (dr : DR K G m b vs kvs) :
    Ok K G m (upd b a (.frz od (.dK vs))) (upd h a (.frz od (.dK vs))) (hp.set n (.lck kvs)) := by
  have sb : Same b (upd b a (.frz od (.dK vs))) := fun c u e => by
    rw [upd_ne (fun z => by rw [z, nb] at e; cases e)]; exact e
  refine ⟨fun c u e => ?_, ok.nd, by rw [List.length_set]; exact ok.len, fun i c w f1 f2 => ?_⟩
  · by_cases z : c = a
    · rw [z, upd_same] at e ⊢; exact e
    · rw [upd_ne z] at e ⊢; exact ok.sub c u e
  · by_cases hi : n = i
    · subst hi
      rw [List.getElem?_set, if_pos rfl] at f2
      split at f2
      · cases f2
        rw [em] at f1; cases f1
        exact ⟨trivial, od, vs, upd_same, upd_same, dr.keys, dr.vals.monoB sb⟩
      · cases f2
    · rw [List.getElem?_set_ne hi] at f2
      obtain ⟨n2, q⟩ := ok.ob i c w f1 f2
      have ne : c ≠ a := fun z => by
        subst z
        obtain ⟨l1, g1⟩ := List.getElem?_eq_some_iff.mp em
        obtain ⟨l2, g2⟩ := List.getElem?_eq_some_iff.mp f1
        exact hi ((List.getElem_inj ok.nd).mp (g1.trans g2.symm))
      exact ⟨n2.map fun z => by rw [upd_ne ne]; exact z, q.map (fun u e => by rw [upd_ne ne]; exact e) (fun u e => sb c u e) fun vs r => r.monoB sb⟩
theorem Ok.unlock (ok' : Ok K G m' b' h' hp') {n : Nat} {a : Addr} {vs : List (L2.Key × V)} {kvs : KVs} {od : Obj} (em : m'[n]? = some a) (eh : hp'[n]? = some (.lck kvs)) (l : b' a = some (.frz od (.dK vs))) :
    Ok K G m' (del b' a) (upd h' a (.dK vs)) (hp'.set n (.dct kvs)) := by
  refine ⟨fun c u e => ?_, ok'.nd, by rw [List.length_set]; exact ok'.len, fun i c w f1 f2 => ?_⟩
  · by_cases z : c = a
    · rw [z, del_at] at e; cases e
    · rw [del_ne z] at e
      rw [upd_ne z]; exact ok'.sub c u e
  · by_cases hi : n = i
    · subst hi
      rw [List.getElem?_set, if_pos rfl] at f2
      split at f2
      · cases f2
        rw [em] at f1; cases f1
        obtain ⟨_, od2, vs2, q1, _, q3, q4⟩ := ok'.ob n _ _ em eh
        rw [l] at q1; cases q1
        exact ⟨del_at, vs, upd_same, q3, q4.del l⟩
      · cases f2
    · rw [List.getElem?_set_ne hi] at f2
      obtain ⟨n2, q⟩ := ok'.ob i c w f1 f2
      have ne : c ≠ a := fun z => by
        subst z
        obtain ⟨l1, g1⟩ := List.getElem?_eq_some_iff.mp em
        obtain ⟨l2, g2⟩ := List.getElem?_eq_some_iff.mp f1
        exact hi ((List.getElem_inj ok'.nd).mp (g1.trans g2.symm))
      exact ⟨n2.map fun z => by rw [del_ne ne]; exact z, q.map (fun u e => by rw [upd_ne ne]; exact e) (fun u e => by rw [del_ne ne]; exact e) fun vs r => r.del l⟩
theorem Stp.unlock {a : Addr} {vs : List (L2.Key × V)} {od : Obj} (am : a ∈ m) (nb : b a = none) (ed : h a = some (.dK vs)) (x : Stp m (upd b a (.frz od (.dK vs))) (upd h a (.frz od (.dK vs))) m' b' h') : Stp m b h m' (del b' a) (upd h' a (.dK vs)) := by
  refine ⟨⟨fun c u e => ?_, fun c u e => ?_, fun c e f => ?_, fun c u e hm f => ?_, fun c f => ?_⟩, ?_⟩
  · have z : c ≠ a := fun z => by rw [z, nb] at e; cases e
    rw [del_ne z]
    exact x.fr.base c u (by rw [upd_ne z]; exact e)
  · by_cases z : c = a
    · rw [z, del_at] at e; cases e
    · rw [del_ne z] at e
      rw [upd_ne z]; exact x.fr.sub c u e
  · by_cases z : c = a
    · rw [z]; exact del_at
    · rw [del_ne z]
      exact x.fr.out c (by rw [upd_ne z]; exact e) (by rw [upd_ne z]; exact f)
  · have z : c ≠ a := fun z => hm (by rw [z]; exact am)
    rw [upd_ne z]
    exact x.fr.keep c u (by rw [upd_ne z]; exact e) hm (by rw [upd_ne z]; exact f)
  · by_cases z : c = a
    · rw [z, upd_same]; rfl
    · rw [upd_ne z]
      exact x.fr.live c (by rw [upd_ne z]; exact f)
  · obtain ⟨ms, e, n⟩ := x.pre
    refine ⟨ms, e, fun c hc => ?_⟩
    have q := n c hc
    by_cases z : c = a
    · rw [z, upd_same] at q; cases q
    · rw [upd_ne z] at q; exact q
theorem sn_lock {j : Nat} {ev : EE} {te : TE} (he : SnE K G W te ev) : SnE K G W (tLockE te) (eLock j ev) := fun m b h hp σ s ok sl Q p => by
  unfold eLock at p
  cases e0 : s[j]? with
  | none => rw [e0] at p; exact p.elim
  | some o =>
    cases o with
    | none => rw [e0] at p; exact p.elim
    | some d =>
      rw [e0] at p
      split at p
      · rename_i n hn
        cases hn
        split at p
        · rename_i kvs ek
          obtain ⟨v, ev', rv⟩ := sl.at' j _ e0
          obtain ⟨a, vs, rfl, em, eh, nb, ed, dr⟩ := ok.wrD rv ek
          refine ⟨a, .dK vs, ed, trivial, fun od => ?_⟩
          have ok1 := ok.lock od em eh nb ed dr
          have sl1 : Sls K G m (upd b a (.frz od (.dK vs))) σ s := ⟨sl.len, fun i d e => by
            obtain ⟨v, q1, q2⟩ := sl.at' i d e
            exact ⟨v, q1, q2.monoB fun c u e => by rw [upd_ne (fun z => by rw [z, nb] at e; cases e)]; exact e⟩⟩
          refine he m _ _ _ σ s ok1 sl1 _ ?_
          cases e2 : ev s (hp.set n (.lck kvs)) with
          | ok d hp2 =>
            rw [e2] at p
            dsimp only at p
            split at p
            · rename_i kvs2 e3
              intro w m' b' h' st ok' rw'
              obtain ⟨ms, em', _⟩ := st.pre
              have emn : m'[n]? = some a := by
                rw [em', List.getElem?_append_left (List.getElem?_eq_some_iff.mp em).1]; exact em
              have l : b' a = some (.frz od (.dK vs)) := st.fr.base a _ upd_same
              refine ⟨st.fr.sub a _ l, p w m' _ _ (Stp.unlock (List.mem_of_getElem? em) nb ed st) (ok'.unlock emn e3 l) (rw'.del l)⟩
            · exact p.elim
          | exc x hp2 => rw [e2] at p; exact p.elim
          | bad => rw [e2] at p; exact p.elim
        · exact p.elim
      · exact p.elim
theorem snI_keys {j : Nat} : SnI K G W (iKeys (tVar j)) (iLck itemsK j) := fun m b h hp σ s ok sl R p => by
  unfold iLck at p
  cases e0 : s[j]? with
  | none => rw [e0] at p; exact p.elim
  | some o =>
    cases o with
    | none => rw [e0] at p; exact p.elim
    | some d =>
      rw [e0] at p
      split at p
      · rename_i n hn
        cases hn
        split at p
        · rename_i kvs ek
          obtain ⟨v, ev', rv⟩ := sl.at' j _ e0
          cases rv with
          | @ref a _ em =>
            obtain ⟨_, od, vs, q1, q2, q3, q4⟩ := ok.ob n a _ em ek
            have dr : DR K G m b vs kvs := .of q3 q4
            refine ⟨.ref a, ev', a, od, rfl, .inl ⟨vs, q2, p m b h _ (Stp.rfl' ok.sub) ok ⟨fun H => H a = some (.frz od (.dK vs)), fun i H x H' => H' = H ∧ ∃ k v, vs[i]? = some (k, v) ∧ x = kV k, ?_, fun b' h' e1 e2 => e2 a _ (e1 a _ q1), fun i H x H' yy hi m2 ms b2 e1 e2 e3 => ?_⟩⟩⟩
            · have : (itemsK kvs).length = vs.length := by unfold itemsK; rw [List.length_map, dr.length]
              rw [this]
              exact walk_keys
            · obtain ⟨rfl, k, w, f1, rfl⟩ := yy
              refine ⟨b2, kD k, Fr.rfl' e3, ?_, kD_rd k⟩
              unfold itemsK
              have f2 : (vs.map (·.1))[i]? = some k := by rw [List.getElem?_map, f1]; rfl
              rw [dr.keys, List.getElem?_map] at f2
              obtain ⟨kv, f3, f4⟩ := Option.map_eq_some_iff.mp f2
              rw [List.getElem?_map, f3, ← f4]
              rfl
        · exact p.elim
      · exact p.elim
theorem snI_items {j : Nat} : SnI K G W (iItems (tVar j)) (iLck itemsI j) := fun m b h hp σ s ok sl R p => by
  unfold iLck at p
  cases e0 : s[j]? with
  | none => rw [e0] at p; exact p.elim
  | some o =>
    cases o with
    | none => rw [e0] at p; exact p.elim
    | some d =>
      rw [e0] at p
      split at p
      · rename_i n hn
        cases hn
        split at p
        · rename_i kvs ek
          obtain ⟨v, ev', rv⟩ := sl.at' j _ e0
          cases rv with
          | @ref a _ em =>
            obtain ⟨_, od, vs, q1, q2, q3, q4⟩ := ok.ob n a _ em ek
            have dr : DR K G m b vs kvs := .of q3 q4
            refine ⟨.ref a, ev', a, od, vs, rfl, q2, p m b h _ (Stp.rfl' ok.sub) ok (wok_pair walk_items (by unfold itemsI; rw [List.length_map, dr.length]) (fun b' h' e1 e2 => e2 a _ (e1 a _ q1)) fun i x y hi f1 f2 => ?_)⟩
            obtain ⟨kv, g1, g2⟩ := Option.map_eq_some_iff.mp f1
            rw [g1] at f2
            cases f2
            have g3 : (vs.map (·.2))[i]? = some kv.2 := by rw [List.getElem?_map, g1]; rfl
            obtain ⟨d, g4, g5⟩ := dr.vals.at g3
            have g6 : (vs.map (·.1))[i]? = some kv.1 := by rw [List.getElem?_map, g1]; rfl
            rw [dr.keys, List.getElem?_map] at g6
            rw [List.getElem?_map] at g4
            obtain ⟨ke, g7, g8⟩ := Option.map_eq_some_iff.mp g4
            rw [g7] at g6
            have g9 : ke.1 = kv.1 := Option.some.inj g6
            refine ⟨kD kv.1, d, ?_, ?_, by rw [← g2]; exact kD_rd _, g5⟩
            · unfold itemsI
              rw [List.getElem?_map, g7, ← g9, ← g8]
              rfl
            · cases kv.1 <;> rfl
        · exact p.elim
      · exact p.elim
end
section
variable {K : PySem.W.Frag} {G : Gs} {W : WX} {X : Cx} {e tg elt : Expr} {ev : EE} {j : Nat} {x : Str} {pos apos cpos : Pos}
theorem xlock (h : PX K G W X e ev) : PX K G W X e (eLock j ev) := px (pe_lock h) (sn_lock sn_of)
theorem xi_keys (hN : X.N[j]? = some x := by rfl) (hv : Vis X.env.scope x := by first | exact Or.inl rfl | exact Or.inr (Or.inl rfl) | exact Or.inr (Or.inr rfl)) (hd : (x == ("__debug__" : Str)) = false := by decide)
    (hcd : (x == ("__classdict__" : Str)) = false := by decide) : PXI K G W X tg (.Name x pos) (iLck itemsK j) := .of (pi_keys (pe_var hN hv hd hcd)) snI_keys
theorem xi_items {kk : Nat} {tpos : Pos} {elts : List Expr} (hN : X.N[j]? = some x := by rfl) (hv : Vis X.env.scope x := by first | exact Or.inl rfl | exact Or.inr (Or.inl rfl) | exact Or.inr (Or.inr rfl)) (hd : (x == ("__debug__" : Str)) = false := by decide)
    (hcd : (x == ("__classdict__" : Str)) = false := by decide) (hbase : attributeBase (.Name x pos) "items" X.env (eval (.Name x pos) X.env) = eval (.Name x pos) X.env := by rfl) (hline : (apos.endLine == cpos.line) = true := by rfl) : PXI K G W X (.Tuple elts kk tpos) (.Call (.Attribute (.Name x pos) "items" apos) [] [] cpos) (iLck itemsI j) := .of (pi_items (pe_var hN hv hd hcd) hbase hline) snI_items
end
end EV

/-! dict(x) of a tuple or list of pairs -/
namespace EV
open PySem L2 DV
open PyProof.Rows (IsTup)
def rDictT (K : PySem.W.Frag) : List V → Hp → VK → Prop := fun xs H Q => ∃ (a : Addr) (ps : List Addr) (kvs : List (L2.Key × V)), xs = [.ref a] ∧ SqT K H a (ps.map V.ref) ∧ TD K H a ∧ Paired (fun p kv => SqT K H p [kV kv.1, kv.2]) ps kvs ∧
  ∀ p, H p = none → Q (.ref p) (upd H p (.dK (mergeK [] kvs)))
section
variable {X : L2.Cx} {pins : List (Addr × Obj)} {σ : L2.St} {H : Hp} {s : Shared}
/-- the pairs as they lie -/
theorem pairs_lie (I : Inv X pins σ H s) : ∀ {ps : List Addr} {kvs : List (L2.Key × V)}, Paired (fun p kv => SqT X.K H p [kV kv.1, kv.2]) ps kvs →
    ∃ (prs : List (Value × Value)) (out : List (L2.Key × Value)), KV kvs out ∧ prs.length = ps.length ∧ out.length = ps.length ∧
      (∀ (j : Nat) (k v : Value), prs[j]? = some (k, v) → ∃ p, ps[j]? = some p ∧ IsTup s.heap p #[k, v]) ∧ ∀ (j : Nat) (k v : Value), prs[j]? = some (k, v) → ∃ q, out[j]? = some (q, v) ∧ keyIs q k = true
  | _, _, .nil => ⟨[], [], .nil, rfl, rfl, fun j k v z => (by simp at z), fun j k v z => (by simp at z)⟩
  | _, _, .cons (a := p) (b := kv) first rest => by
    obtain ⟨prs, out, r, l1, l2, f1, f2⟩ := pairs_lie I rest
    obtain ⟨its, vals, lies, _⟩ := I.tuple first
    obtain ⟨u, w, e, ru, rw'⟩ := vals2 vals
    subst e
    refine ⟨(u, w) :: prs, (kv.1, w) :: out, .cons ⟨rfl, rw'⟩ r, congrArg Nat.succ l1, congrArg Nat.succ l2, fun j k v z => ?_, fun j k v z => ?_⟩
    · cases j with
      | zero => cases z; exact ⟨p, rfl, lies⟩
      | succ j => exact f1 j k v z
    · cases j with
      | zero => cases z; exact ⟨kv.1, rfl, kV_is (P := X.prog) (w := X.w) ru⟩
      | succ j => exact f2 j k v z
theorem lies_plain (I : Inv X pins σ H s) {a : Addr} {its : Array Value} (t : TD X.K H a) (lies : IsTup s.heap a its) : PySem.PlainSeq "tuple" s.heap a its := by
  obtain ⟨o, at_, cls, n, dat⟩ := lies
  refine ⟨o, n, at_, cls, ?_, dat⟩
  rcases t with ⟨o2, us, e, d⟩ | ⟨o2, e, d⟩
  · have q : s.heap.get? a = some o2 := (I.hok a _ e).1
    rw [at_] at q; cases q; exact d
  · have q : s.heap.get? a = some o2 := I.kIn a o2 e
    rw [at_] at q; cases q; exact d
theorem call_dictT (calm : X.calm = true) : CallR X (.type "dict") (rDictT X.K) := by
  rintro pins s σ H xs us Q I r ⟨a, ps, kvs, rfl, sq, td, pp, q⟩
  obtain ⟨u, rfl, ru⟩ := vals1 r
  cases ru
  obtain ⟨its, vals, lies, short⟩ := I.tuple sq
  have e := refs_at vals
  subst e
  obtain ⟨prs, out, rel, l1, l2, f1, f2⟩ := pairs_lie I pp
  rw [List.length_map] at short
  refine PySem.call_dict_pairs (knd := mixKind X.prog X.w) (kvs := out) (PySem.PairArg.tuple a (ps.map Value.ref).toArray (fun j => ps.getD j 0) prs) (I.ok.hd calm) ⟨lies_plain I td lies, ?_, fun j k v z => ?_⟩ ⟨by rw [l1, l2], fun j k v z => ?_⟩ (by rw [l1]; exact short) fun h' tk hd' old => ?_
  · simp [l1]
  · obtain ⟨p, e1, e2⟩ := f1 j k v z
    have e3 : ps.getD j 0 = p := by rw [List.getD_eq_getElem?_getD, e1]; rfl
    refine ⟨?_, .inl ?_⟩
    · show (ps.map Value.ref).toArray[j]? = some (.ref (ps.getD j 0)); rw [e3]; simp [e1]
    · show s.heap.IsTuple (ps.getD j 0) #[k, v]; rw [e3]; exact e2
  · obtain ⟨k', e1, e2⟩ := f2 j k v z
    exact ⟨k', e1, e2⟩
  · have big : (s.heap.objs.size == sysModules) = false := beq_eq_false_iff_ne.mpr (Nat.ne_of_gt I.big)
    have len : (mergeK [] kvs).length ≤ sizeLine := by
      have z := length_mergeK kvs []
      have z2 : kvs.length = out.length := Paired.length rel
      rw [List.length_nil] at z
      omega
    exact ⟨.ref s.heap.objs.size, _, I.laid (t' := tk) (o := .dK (mergeK [] kvs)) (fun b o z => old b o (fun z => nomatch z) z) (Nat.le_refl _) ⟨len, big, _, KV.merge rel .nil, hd'⟩, rfl, q _ (I.hok.fresh (Nat.le_refl _))⟩
end
/-! reading -/
def pairD : D → Option (L2.Key × D)
  | .tup [k, d] => (keyD k).map fun k => (k, d)
  | _ => none
def pairsD : List D → Option KVs
  | [] => some []
  | d :: ds => match pairD d, pairsD ds with
    | some p, some ps => some (p :: ps)
    | _, _ => none
def dictSrc (hp : List O) (d : D) : Option KVs := match d with
  | .tup xs => if tabL xs && decide (xs.length ≤ 100000) then pairsD xs else none
  | d => (lstR hp d).bind fun xs => if xs.length ≤ 100000 then pairsD xs else none
def eDict (ea : EA) : EE := fun s hp => match ea s hp with
  | .ok ds hp1 => (match ds with
    | [d] => (match dictSrc hp1 d with
      | some kvs => .ok (.ref hp1.length) (hp1 ++ [.dct (mergeD [] kvs)])
      | none => .bad)
    | _ => .bad)
  | .exc x hp1 => .exc x hp1
  | .bad => .bad
section
variable {K : PySem.W.Frag} {G : Gs} {W : WX} {m : List Addr} {b h : Hp} {hp : List O} {ta : TA} {ea : EA}
theorem pairsD_ok (sub : Same b h) : ∀ {vs : List V} {ds : List D} {kvs : KVs}, RDs K G m b vs ds → pairsD ds = some kvs → ∃ (ps : List Addr) (ws : List (L2.Key × V)), vs = ps.map V.ref ∧ Paired (fun p kv => SqT K h p [kV kv.1, kv.2]) ps ws ∧ DR K G m b ws kvs
  | _, _, _, .nil, e => by cases e; exact ⟨[], [], rfl, .nil, .nil⟩
  | _, _, _, .cons (d := d) (ds := ds) r rs, e => by
    unfold pairsD at e
    split at e
    · rename_i p kvs e1 e2
      cases e
      obtain ⟨ps, ws, q1, q2, q3⟩ := pairsD_ok sub rs e2
      subst q1
      unfold pairD at e1
      split at e1
      · rename_i k d
        obtain ⟨kk, e3, e4⟩ := Option.map_eq_some_iff.mp e1
        cases e4
        cases r with
        | @tup a us _ st _ rr =>
          obtain ⟨v, w, rfl, r1, r2⟩ := rr.len2
          have := keyD_rd r1 e3
          subst this
          exact ⟨a :: ps, (kk, w) :: ws, rfl, .cons (sqT_mono sub st) q2, .cons r2 q3⟩
      · cases e1
    · cases e
theorem sn_dict (ha : SnA K G W ta ea) : SnE K G W (tCB (fun xs H Q => rDictT K xs H Q ∨ (∃ (a : Addr) (ps : List Addr) (kvs : List (L2.Key × V)), xs = [.ref a] ∧ SqL K H a (ps.map V.ref) ∧ Paired (fun p kv => SqT K H p [kV kv.1, kv.2]) ps kvs ∧
    ∀ p, H p = none → Q (.ref p) (upd H p (.dK (mergeK [] kvs))))) ta) (eDict ea) := fun m b h hp σ s ok sl Q p => by
  refine ha m b h hp σ s ok sl _ ?_
  unfold eDict at p
  cases e : ea s hp with
  | ok ds hp1 =>
    rw [e] at p
    dsimp only at p
    split at p
    · rename_i d
      split at p
      · rename_i kvs ek
        intro vs m1 b1 h1 x1 ok1 r1
        obtain ⟨v, rfl, r⟩ := r1.len1
        have fin : ∀ {ws : List (L2.Key × V)}, DR K G m1 b1 ws kvs → ∀ p, h1 p = none → Q (.ref p) (upd h1 p (.dK (mergeK [] ws))) := fun {ws} dr q hq => by
          have dr2 := dr.merge (ws := []) (es := []) .nil
          obtain ⟨ok2, st2, rd⟩ := ok1.newO (o := .dct (mergeD [] kvs)) (u := .dK (mergeK [] ws)) hq ⟨_, upd_same, dr2.keys, dr2.vals⟩
          exact p _ _ _ _ (x1.trans st2) ok2 rd
        have lists : (lstR hp1 d).bind (fun xs => if xs.length ≤ 100000 then pairsD xs else none) = some kvs → ∃ (a : Addr) (ps : List Addr) (kvs : List (L2.Key × V)), [v] = [.ref a] ∧ SqL K h1 a (ps.map V.ref) ∧ Paired (fun p kv => SqT K h1 p [kV kv.1, kv.2]) ps kvs ∧
            ∀ p, h1 p = none → Q (.ref p) (upd h1 p (.dK (mergeK [] kvs))) := fun e => by
          obtain ⟨xs, e1, e2⟩ := Option.bind_eq_some_iff.mp e
          split at e2
          · obtain ⟨a, us, rfl, sq, rr⟩ := lstR_ok ok1 r e1
            obtain ⟨ps, ws, rfl, q2, q3⟩ := pairsD_ok ok1.sub rr e2
            exact ⟨a, ps, ws, rfl, sq, q2, fin q3⟩
          · cases e2
        unfold dictSrc at ek
        split at ek
        · rename_i xs
          split at ek
          · rename_i hc
            rw [Bool.and_eq_true, decide_eq_true_eq] at hc
            cases r with
            | @tup a us _ st td rr =>
              obtain ⟨ps, ws, rfl, q2, q3⟩ := pairsD_ok ok1.sub rr ek
              exact .inl ⟨a, ps, ws, rfl, sqT_mono ok1.sub st, (td hc.1).mono ok1.sub, q2, fin q3⟩
          · cases ek
        · exact .inr (lists ek)
      · exact p.elim
    · exact p.elim
  | exc x hp1 => rw [e] at p; exact p
  | bad => rw [e] at p; exact p.elim
end
section
variable {K : PySem.W.Frag} {G : Gs} {W : WX} {X : Cx} {e : Expr} {er : EA} {p pos : Pos} {n : Nat}
theorem CallR.or {f : Value} {r r' : List V → Hp → VK → Prop} (a : CallR X f r) (c : CallR X f r') : CallR X f (fun xs H Q => r xs H Q ∨ r' xs H Q) := fun pins s σ H xs us Q I rv h => h.elim (a pins s σ H xs us Q I rv) (c pins s σ H xs us Q I rv)
theorem xdict (hK : X.K = K) (hc : X.calm = true) (hg : Gl X "dict") (hm : X.mg "dict" = none) (hv : bootBuiltins "dict" = some (.type "dict")) (ha : PXN K G W X [e] er n)
    (hs : starEach [e] X.env = (false, eval e X.env) :: starEach [] X.env := by rfl) (hpl : (backTo pos (starEach [] X.env)).any (·.1) = false := by rfl) : PX K G W X (.Call (.Name "dict" p) [e] [] pos) (eDict er) := by
  subst hK
  exact px (pe_callTy (CallR.or (call_dictT hc) (call_dictP hc)) hg hm hv ha.pa (by decide) (by decide) hs hpl) (sn_dict snA_of)
end
end EV

/-! sorted of pairs whose parts are ints or texts -/
namespace EV
open PySem L2 PyProof.Rows
/-- leaves in order -/
def ltK : L2.Key → L2.Key → Bool
  | .inl i, .inl j => decide (i < j)
  | .inr x, .inr y => decide (x.cps.toList < y.cps.toList)
  | .inl _, .inr _ => true
  | .inr _, .inl _ => false
theorem str_eq {x y : Str} (h : x.cps.toList = y.cps.toList) : x = y := by
  cases x; cases y
  simp only [Array.toList_inj] at h
  rw [h]
theorem ltK_irr (k : L2.Key) : ltK k k = false := by
  cases k with
  | inl i => exact decide_eq_false (Int.lt_irrefl i)
  | inr x => exact decide_eq_false (List.lt_irrefl _)
theorem ltK_asym {k j : L2.Key} (h : ltK k j = true) : ltK j k = false := by
  cases k <;> cases j <;> simp only [ltK, decide_eq_true_eq, decide_eq_false_iff_not] at h ⊢
  · omega
  · cases h
  · exact fun z => List.lt_asymm h z
theorem ltK_tri {k j : L2.Key} (h1 : ltK k j = false) (h2 : ltK j k = false) : k = j := by
  cases k <;> cases j <;> simp only [ltK, decide_eq_false_iff_not] at h1 h2
  · exact congrArg _ (Int.le_antisymm (Int.not_lt.mp h2) (Int.not_lt.mp h1))
  · cases h1
  · cases h2
  · exact congrArg _ (str_eq (List.le_antisymm (List.not_lt.mp h2) (List.not_lt.mp h1)))
theorem ltK_tr {k j l : L2.Key} (h1 : ltK k j = true) (h2 : ltK j l = true) : ltK k l = true := by
  cases k <;> cases j <;> cases l <;> simp only [ltK, decide_eq_true_eq] at h1 h2 ⊢ <;> first | omega | (cases h1; done) | (cases h2; done) | skip
  exact List.lt_trans h1 h2
abbrev KP := L2.Key × L2.Key
def ltP2 (p q : KP) : Bool := if p.1 = q.1 then ltK p.2 q.2 else ltK p.1 q.1
theorem ltP2_swo {α : Type} (f : α → KP) : SrtO.Swo fun x y => ltP2 (f x) (f y) := by
  have key : ∀ p q : KP, ltP2 q p = false ↔ (ltK p.1 q.1 = true ∨ (p.1 = q.1 ∧ (ltK p.2 q.2 = true ∨ p.2 = q.2))) := fun p q => by
    unfold ltP2
    by_cases e : q.1 = p.1
    · rw [if_pos e]
      constructor
      · intro h
        refine .inr ⟨e.symm, ?_⟩
        cases h2 : ltK p.2 q.2 with
        | true => exact .inl rfl
        | false => exact .inr (ltK_tri h2 h)
      · rintro (h | ⟨_, h | h⟩)
        · rw [e, ltK_irr] at h; cases h
        · exact ltK_asym h
        · rw [h]; exact ltK_irr _
    · rw [if_neg e]
      constructor
      · intro h
        refine .inl ?_
        cases h2 : ltK p.1 q.1 with
        | true => rfl
        | false => exact absurd (ltK_tri h h2) e
      · rintro (h | ⟨h, _⟩)
        · exact ltK_asym h
        · exact absurd h.symm e
  have pos : ∀ p q : KP, ltP2 p q = true → (ltK p.1 q.1 = true ∨ (p.1 = q.1 ∧ ltK p.2 q.2 = true)) := fun p q h => by
    unfold ltP2 at h
    split at h
    · rename_i e; exact .inr ⟨e, h⟩
    · exact .inl h
  refine ⟨fun x y h => (key _ _).mpr ?_, fun x y z h1 h2 => (key _ _).mpr ?_⟩
  · rcases pos _ _ h with h | ⟨h, h'⟩
    · exact .inl h
    · exact .inr ⟨h, .inl h'⟩
  · rcases (key _ _).mp h1 with a | ⟨a, a'⟩ <;> rcases (key _ _).mp h2 with c | ⟨c, c'⟩
    · exact .inl (ltK_tr a c)
    · exact .inl (by rw [← c]; exact a)
    · exact .inl (by rw [a]; exact c)
    · refine .inr ⟨a.trans c, ?_⟩
      rcases a' with a' | a' <;> rcases c' with c' | c'
      · exact .inl (ltK_tr a' c')
      · exact .inl (by rw [← c']; exact a')
      · exact .inl (by rw [a']; exact c')
      · exact .inr (a'.trans c')
def isS : L2.Key → Bool
  | .inl _ => false
  | .inr _ => true
/-- v lies there as the pair pk -/
def PairV (h : Heap) (v : Value) (pk : KP) : Prop := ∃ a o n u1 u2, v = .ref a ∧ h.get? a = some o ∧ o.cls = .type "tuple" ∧ o.data = .seq #[u1, u2] n ∧ RelV (kV pk.1) u1 ∧ RelV (kV pk.2) u2
theorem PairV.keeps {h h' : Heap} {v : Value} {pk : KP} (p : PairV h v pk) (k : ∀ b o, h.get? b = some o → o.cls = .type "tuple" → h'.get? b = some o) : PairV h' v pk := by
  obtain ⟨a, o, n, u1, u2, e, ho, hc, r⟩ := p
  exact ⟨a, o, n, u1, u2, e, k _ _ ho hc, hc, r⟩
section
variable {prog : Program} {w : World} {s : Shared} {A : Around} {E : Value → Shared → Prop}
theorem leaf_eq {k j : L2.Key} {u v : Value} {Q : Bool → Shared → Prop} (r1 : RelV (kV k) u) (r2 : RelV (kV j) v) (same : isS k = isS j) (h : Q (decide (k = j)) s) : wpAny (model prog w) A (eqBool u v) Q E s := by
  cases k <;> cases j <;> try (cases same; done)
  · obtain ⟨t1, rfl⟩ := r1
    obtain ⟨t2, rfl⟩ := r2
    refine SeqAt.EqAt.int_int _ _ _ _ prog w _ _ ?_
    rename_i i j
    have : (i == j) = decide ((Sum.inl i : L2.Key) = Sum.inl j) := by
      refine Bool.eq_iff_iff.mpr ?_
      rw [beq_iff_eq, decide_eq_true_eq]
      exact ⟨fun e => by rw [e], fun e => Sum.inl.inj e⟩
    rw [this]
    exact h
  · obtain ⟨t1, rfl⟩ := r1
    obtain ⟨t2, rfl⟩ := r2
    refine SeqAt.EqAt.str_str _ _ _ _ prog w _ _ ?_
    rename_i i j
    have : (i == j) = decide ((Sum.inr i : L2.Key) = Sum.inr j) := by
      refine Bool.eq_iff_iff.mpr ?_
      rw [beq_iff_eq, decide_eq_true_eq]
      exact ⟨fun e => by rw [e], fun e => Sum.inr.inj e⟩
    rw [this]
    exact h
theorem leaf_lt {k j : L2.Key} {u v : Value} {c : Bool} {Q : Bool → Shared → Prop} (r1 : RelV (kV k) u) (r2 : RelV (kV j) v) (same : isS k = isS j) (h : Q (ltK k j) s) : wpAny (model prog w) A (oneLt' c u v) Q E s := by
  cases k <;> cases j <;> try (cases same; done)
  · obtain ⟨t1, rfl⟩ := r1
    obtain ⟨t2, rfl⟩ := r2
    cases c with
    | true => exact oneLt_int h
    | false => exact PySem.W.kat_one _ _ (PyProof.Rows.lt_int h)
  · obtain ⟨t1, rfl⟩ := r1
    obtain ⟨t2, rfl⟩ := r2
    cases c with
    | true => exact oneLt_str h
    | false => exact PySem.W.kat_one _ _ (PyProof.Rows.lt_str h)
theorem pairV_cmp {vs : List Value} {f : Value → KP} {c1 c2 : Bool} (hp : ∀ v ∈ vs, PairV s.heap v (f v)) (k1 : ∀ v ∈ vs, isS (f v).1 = c1) (k2 : ∀ v ∈ vs, isS (f v).2 = c2) :
    SrtO.Cmp prog w A s (tuples' true) (fun p => p.1 ∈ vs) (SrtO.lt2 fun v u => ltP2 (f v) (f u)) := by
  intro p q m1 m2
  have e1 := (k1 _ m1).trans (k1 _ m2).symm
  have e2 := (k2 _ m1).trans (k2 _ m2).symm
  obtain ⟨a, o, n, u1, u2, ea, ho, hc, hd, r1, r2⟩ := hp _ m1
  obtain ⟨a', o', n', u1', u2', ea', ho', hc', hd', r1', r2'⟩ := hp _ m2
  show wpAny (model prog w) A (keyLt' (tuples' true) p.1 q.1) (fun r s' => s' = s ∧ r = ltP2 (f p.1) (f q.1)) (fun _ _ => False) s
  generalize f p.1 = x at *
  generalize f q.1 = y at *
  rw [ea, ea']
  apply PySem.W.kat_lt ho hd ho' hd'
  show PySem.W.KatLex prog w A true (decide (2 < 2)) _ [(u1, u1'), (u2, u2')] 0 s
  unfold ltP2
  refine PySem.W.kat_cons (leaf_eq r1 r1' e1 ?_)
  refine PySem.W.kat_go (fun z => ?_) (fun z => ?_)
  · rw [if_pos (of_decide_eq_true z)]
    refine PySem.W.kat_yes (PySem.W.kat_cons (leaf_eq r2 r2' e2 ?_))
    refine PySem.W.kat_go (fun z2 => ?_) (fun z2 => ?_)
    · have e3 := of_decide_eq_true z2
      exact PySem.W.kat_yes (PySem.W.kat_nil ⟨rfl, by rw [e3, ltK_irr]; rfl⟩)
    · exact PySem.W.kat_no (leaf_lt r2 r2' e2 ⟨rfl, rfl⟩)
  · rw [if_neg (of_decide_eq_false z)]
    exact PySem.W.kat_no (leaf_lt r1 r1' e1 ⟨rfl, rfl⟩)
theorem firstsV {h : Heap} {f : Value → KP} : ∀ {vs : List Value}, (∀ v ∈ vs, PairV h v (f v)) → ∃ fs : List Value, PySem.W.KatTups h vs fs ∧ fs.length = vs.length ∧ ∀ u ∈ fs, ∃ v ∈ vs, RelV (kV (f v).1) u
  | [], _ => ⟨[], PySem.W.KatTups.nil, rfl, fun _ z => nomatch z⟩
  | v :: vs, hp => by
    obtain ⟨fs, q1, q2, q3⟩ := firstsV (vs := vs) fun u m => hp u (List.mem_cons_of_mem _ m)
    obtain ⟨a, o, n, u1, u2, e, ho, hc, hd, r1, r2⟩ := hp v List.mem_cons_self
    have q0 : PySem.W.KatTups h (v :: vs) (u1 :: fs) := by rw [e]; exact PySem.W.KatTups.cons ho hc hd rfl q1
    refine ⟨u1 :: fs, q0, congrArg Nat.succ q2, fun u m => ?_⟩
    rcases List.mem_cons.mp m with rfl | m
    · exact ⟨v, List.mem_cons_self, r1⟩
    · obtain ⟨v', m', r⟩ := q3 u m
      exact ⟨v', List.mem_cons_of_mem _ m', r⟩
theorem pairV_sort {a : Addr} {vs : List Value} {f : Value → KP} {c1 c2 : Bool} (h0 : 0 < vs.length) (hp : ∀ v ∈ vs, PairV s.heap v (f v)) (k1 : ∀ v ∈ vs, isS (f v).1 = c1) (k2 : ∀ v ∈ vs, isS (f v).2 = c2) (ha : ∀ o, s.heap.get? a = some o → o.cls ≠ .type "tuple") :
    SrtO.SortableO prog w A s a vs fun v u => ltP2 (f v) (f u) := by
  intro h' keep
  have hp' : ∀ v ∈ vs, PairV h' v (f v) := fun v m => (hp v m).keeps fun b o e c => keep b o (fun z => by subst z; exact ha o e c) e
  obtain ⟨fs, q1, q2, q3⟩ := firstsV hp'
  refine ⟨tuples' true, fun Q E hq => ?_, pairV_cmp (s := { s with heap := h' }) hp' k1 k2⟩
  cases c1 with
  | false =>
    refine PySem.W.kat_kind (T := .type "int") q1 (by omega) (fun u m => ?_) (by rfl) ?_
    · obtain ⟨v, mv, r⟩ := q3 u m
      have := k1 v mv
      generalize (f v).1 = x at *
      cases x with
      | inl i => obtain ⟨t, rfl⟩ := r; exact PySem.W.Looks.now
      | inr x => cases this
    · rw [show (Value.type "int" != Value.type "tuple") = true from by decide +kernel]; exact hq
  | true =>
    refine PySem.W.kat_kind (T := .type "str") q1 (by omega) (fun u m => ?_) (by rfl) ?_
    · obtain ⟨v, mv, r⟩ := q3 u m
      have := k1 v mv
      generalize (f v).1 = x at *
      cases x with
      | inl i => cases this
      | inr x => obtain ⟨t, rfl⟩ := r; exact PySem.W.Looks.now
    · rw [show (Value.type "str" != Value.type "tuple") = true from by decide +kernel]; exact hq
/-- sorted(l) -/
theorem sorted_pairV {l : Addr} {vs : List Value} {f : Value → KP} {c1 c2 : Bool} {Q : Value → Shared → Prop} (lies : s.heap.IsList l vs.toArray) (short : vs.length ≤ sizeLine) (hp : ∀ v ∈ vs, PairV s.heap v (f v)) (k1 : ∀ v ∈ vs, isS (f v).1 = c1) (k2 : ∀ v ∈ vs, isS (f v).2 = c2)
    (q : ∀ (h' : Heap) (d : Addr) (out : List Value), SrtO.Srtd (fun v u => ltP2 (f v) (f u)) out → SrtO.Stb (fun v u => ltP2 (f v) (f u)) out vs → (∀ b o, s.heap.get? b = some o → h'.get? b = some o) → s.heap.objs.size ≤ d → (∃ n, h'.get? d = some (seqObj "list" out.toArray n)) → Q (.ref d) { s with heap := h' }) : wpAny (model prog w) A (call (.builtin "sorted") [.ref l]) Q E s :=
  SrtO.sorted_ord (ltP2_swo f) lies short
    (fun two H1 c at_ old => pairV_sort (s := { s with heap := H1 }) (by omega) (fun v m => (hp v m).keeps fun b o z _ => (old b o z).2) k1 k2 fun o z => by
      rw [show H1.get? c = some o from z] at at_
      rw [Option.some.inj at_]
      exact fun z => nomatch (Value.type.inj z : ("list" : String) = "tuple"))
    (fun out so st => q _ _ out so st (fun _ _ z => sortedAll_old z) (Nat.le_succ _) (sortedAll_at _ _ _))
end
end EV

/-! sorted as rules of the layer -/
namespace EV
open PySem L2 PyProof.Rows
def decK : Option Value → L2.Key
  | some (.int i _) => .inl i
  | some (.str x _) => .inr x
  | _ => .inl 0
def decP (h : Heap) : Value → KP
  | .ref a => (match h.get? a with
    | some o => (match o.data with
      | .seq us _ => (decK us[0]?, decK us[1]?)
      | _ => (.inl 0, .inl 0))
    | none => (.inl 0, .inl 0))
  | _ => (.inl 0, .inl 0)
theorem decK_of {k : L2.Key} {u : Value} (r : RelV (kV k) u) : decK (some u) = k := by
  cases k with
  | inl i => obtain ⟨t, rfl⟩ := r; rfl
  | inr x => obtain ⟨t, rfl⟩ := r; rfl
theorem decP_of {h : Heap} {v : Value} {pk : KP} (p : PairV h v pk) : decP h v = pk := by
  obtain ⟨a, o, n, u1, u2, rfl, e1, e2, e3, r1, r2⟩ := p
  unfold decP
  dsimp only
  rw [e1]
  dsimp only
  rw [e3]
  show (decK (some u1), decK (some u2)) = pk
  rw [decK_of r1, decK_of r2]
def adr : Value → Addr
  | .ref a => a
  | _ => 0
/-- z before y, by their pairs -/
abbrev ltZ (x y : Addr × KP) : Bool := ltP2 x.2 y.2
section
variable {X : L2.Cx} {pins : List (Addr × Obj)} {σ : L2.St} {H : Hp} {s : Shared}
theorem pairs_are (I : Inv X pins σ H s) : ∀ {ps : List Addr} {pks : List KP}, Paired (fun p pk => SqT X.K H p [kV pk.1, kV pk.2]) ps pks → Paired (fun p pk => PairV s.heap (.ref p) pk) ps pks
  | _, _, .nil => .nil
  | _, _, .cons first rest => by
    refine .cons ?_ (pairs_are I rest)
    obtain ⟨its, vals, ⟨o, at_, cls, n, dat⟩, _⟩ := I.tuple first
    obtain ⟨u, w, e, r1, r2⟩ := vals2 vals
    subst e
    exact ⟨_, o, n, u, w, rfl, at_, cls, dat, r1, r2⟩
theorem pairs_dec {h : Heap} : ∀ {ps : List Addr} {pks : List KP}, Paired (fun p pk => PairV h (.ref p) pk) ps pks → (∀ v ∈ ps.map Value.ref, PairV h v (decP h v) ∧ decP h v ∈ pks) ∧ (ps.map Value.ref).map (fun v => (adr v, decP h v)) = ps.zip pks
  | _, _, .nil => ⟨fun _ z => (nomatch z), rfl⟩
  | _, _, .cons (a := p) (b := pk) first rest => by
    obtain ⟨q1, q2⟩ := pairs_dec rest
    have e := decP_of first
    refine ⟨fun v m => ?_, ?_⟩
    · rcases List.mem_cons.mp m with rfl | m
      · rw [e]; exact ⟨first, List.mem_cons_self⟩
      · exact ⟨(q1 v m).1, List.mem_cons_of_mem _ (q1 v m).2⟩
    · show (p, decP h (.ref p)) :: _ = (p, pk) :: _
      rw [e]
      exact congrArg _ q2
theorem vals_refs : ∀ {us : List Value}, (∀ u ∈ us, ∃ a, u = Value.ref a) → Vals (us.map fun u => V.ref (adr u)) us
  | [], _ => .nil
  | u :: us, h => by
    obtain ⟨a, rfl⟩ := h u List.mem_cons_self
    exact .cons rfl (vals_refs fun u m => h u (List.mem_cons_of_mem _ m))
def rSortP (K : PySem.W.Frag) : List V → Hp → VK → Prop := fun vs H Q => ∃ (l : Addr) (ps : List Addr) (pks : List KP) (c1 c2 : Bool), vs = [.ref l] ∧ SqL K H l (ps.map V.ref) ∧ Paired (fun p pk => SqT K H p [kV pk.1, kV pk.2]) ps pks ∧ (∀ pk ∈ pks, isS pk.1 = c1) ∧ (∀ pk ∈ pks, isS pk.2 = c2) ∧
  ∀ (zs : List (Addr × KP)) (p : Addr), SrtO.Srtd ltZ zs → SrtO.Stb ltZ zs (ps.zip pks) → H p = none → Q (.ref p) (upd H p (.lst (zs.map fun z => V.ref z.1)))
theorem cr_sortP : CallR X (.builtin "sorted") (rSortP X.K) := by
  rintro pins s σ H xs us Q I r ⟨l, ps, pks, c1, c2, rfl, sq, pp, k1, k2, q⟩
  obtain ⟨u, rfl, ru⟩ := vals1 r
  cases ru
  obtain ⟨its, vals, lies, short⟩ := I.list sq
  have e := refs_at vals
  subst e
  obtain ⟨d1, d2⟩ := pairs_dec (pairs_are I pp)
  rw [List.length_map] at short
  refine sorted_pairV (f := decP s.heap) (c1 := c1) (c2 := c2) lies.isList (by rw [List.length_map]; exact short) (fun v m => (d1 v m).1) (fun v m => k1 _ (d1 v m).2) (fun v m => k2 _ (d1 v m).2) fun h' d out so st old new ⟨n, at_⟩ => ?_
  have refs : ∀ u ∈ out, ∃ a, u = Value.ref a := fun u m => by
    obtain ⟨a, _, e⟩ := List.mem_map.mp (st.perm.mem_iff.mp m)
    exact ⟨a, e.symm⟩
  have so2 : SrtO.Srtd ltZ (out.map fun v => (adr v, decP s.heap v)) := SrtO.srtd_map (f := fun v => (adr v, decP s.heap v)) so
  have st2 := SrtO.Stb.map (lt := ltZ) (ltP2_swo _) (fun v => (adr v, decP s.heap v)) st
  rw [d2] at st2
  have len : out.length = ps.length := by rw [st.len, List.length_map]
  have goal := q _ d so2 st2 (I.hok.fresh new)
  rw [List.map_map] at goal
  exact ⟨.ref d, _, I.laid (t' := s.toks) (o := .lst (out.map fun u => V.ref (adr u))) old new ⟨by rw [List.length_map, len]; exact short, out, n, vals_refs refs, at_⟩, rfl, goal⟩
end
end EV

/-! sorted pairs: what is read -/
namespace EV
open PySem L2 DV
def insP (x : KP) : List KP → List KP
  | [] => [x]
  | y :: r => if ltP2 y x then y :: insP x r else x :: y :: r
def sortP : List KP → List KP
  | [] => []
  | x :: r => insP x (sortP r)
theorem insP_perm (x : KP) : ∀ r : List KP, (insP x r).Perm (x :: r)
  | [] => List.Perm.refl _
  | y :: r => by
    unfold insP
    split
    · exact ((insP_perm x r).cons y).trans (List.Perm.swap ..)
    · exact List.Perm.refl _
theorem sortP_perm : ∀ r : List KP, (sortP r).Perm r
  | [] => List.Perm.refl _
  | x :: r => (insP_perm x _).trans ((sortP_perm r).cons x)
theorem ltP2_no {p q : KP} (h1 : ltP2 p q = false) (h2 : ltP2 q p = false) : p = q := by
  unfold ltP2 at h1 h2
  by_cases e : p.1 = q.1
  · rw [if_pos e] at h1
    rw [if_pos e.symm] at h2
    exact Prod.ext e (ltK_tri h1 h2)
  · rw [if_neg e] at h1
    rw [if_neg fun z => e z.symm] at h2
    exact absurd (ltK_tri h1 h2) e
abbrev SrtP (l : List KP) : Prop := SrtO.Srtd ltP2 l
theorem swoP : SrtO.Swo ltP2 := ltP2_swo id
theorem insP_srt (x : KP) : ∀ r : List KP, SrtP r → SrtP (insP x r)
  | [], _ => SrtO.srtd_one x
  | y :: r, h => by
    obtain ⟨h1, h2⟩ := List.pairwise_cons.mp h
    unfold insP
    split
    · rename_i e
      refine List.pairwise_cons.mpr ⟨fun z m => ?_, insP_srt x r h2⟩
      rcases List.mem_cons.mp ((insP_perm x r).mem_iff.mp m) with rfl | m
      · exact swoP.asym _ _ e
      · exact h1 z m
    · rename_i e
      refine List.pairwise_cons.mpr ⟨fun z m => ?_, h⟩
      rcases List.mem_cons.mp m with rfl | m
      · exact Bool.eq_false_iff.mpr e
      · exact swoP.tr _ _ _ (Bool.eq_false_iff.mpr e) (h1 z m)
theorem sortP_srt : ∀ r : List KP, SrtP (sortP r)
  | [] => List.Pairwise.nil
  | x :: r => insP_srt x _ (sortP_srt r)
theorem srtP_eq : ∀ {xs ys : List KP}, xs.Perm ys → SrtP xs → SrtP ys → xs = ys
  | [], ys, p, _, _ => (List.Perm.eq_nil p.symm).symm
  | x :: xs, [], p, _, _ => absurd p.length_eq (by simp)
  | x :: xs, y :: ys, p, h1, h2 => by
    have a : ltP2 x y = false := by
      rcases List.mem_cons.mp (p.mem_iff.mp (List.mem_cons_self (a := x) (l := xs))) with e | m
      · rw [e]; exact swoP.refl y
      · exact (List.pairwise_cons.mp h2).1 x m
    have c : ltP2 y x = false := by
      rcases List.mem_cons.mp (p.mem_iff.mpr (List.mem_cons_self (a := y) (l := ys))) with e | m
      · rw [e]; exact swoP.refl x
      · exact (List.pairwise_cons.mp h1).1 y m
    have e := ltP2_no a c
    subst e
    rw [srtP_eq p.cons_inv (List.pairwise_cons.mp h1).2 (List.pairwise_cons.mp h2).2]
theorem sortP_of {xs ys : List KP} (p : xs.Perm ys) (h : SrtP xs) : xs = sortP ys := srtP_eq (p.trans (sortP_perm ys).symm) h (sortP_srt ys)
def pkD : D → Option KP
  | .tup [k, v] => (match keyD k, keyD v with
    | some k, some v => some (k, v)
    | _, _ => none)
  | _ => none
def pksD : List D → Option (List KP)
  | [] => some []
  | d :: ds => match pkD d, pksD ds with
    | some p, some ps => some (p :: ps)
    | _, _ => none
def mkP (p : KP) : D := .tup [kD p.1, kD p.2]
/-- of one kind each -/
def evenP (ps : List KP) : Bool := match ps with
  | [] => true
  | p :: _ => ps.all fun q => isS q.1 == isS p.1 && isS q.2 == isS p.2
theorem evenP_ok {ps : List KP} (h : evenP ps = true) : ∃ c1 c2, (∀ p ∈ ps, isS p.1 = c1) ∧ ∀ p ∈ ps, isS p.2 = c2 := by
  cases ps with
  | nil => exact ⟨true, true, fun _ m => (nomatch m), fun _ m => (nomatch m)⟩
  | cons p r =>
    have q := List.all_eq_true.mp (show (p :: r).all (fun q => isS q.1 == isS p.1 && isS q.2 == isS p.2) = true from h)
    refine ⟨isS p.1, isS p.2, fun x m => ?_, fun x m => ?_⟩
    · have := q x m; rw [Bool.and_eq_true, beq_iff_eq, beq_iff_eq] at this; exact this.1
    · have := q x m; rw [Bool.and_eq_true, beq_iff_eq, beq_iff_eq] at this; exact this.2
def fSortP (hp : List O) (ds : List D) : Option D := match ds with
  | [d] => (match lstR hp d with
    | some xs => (match pksD xs with
      | some ps => if evenP ps then some (.lst ((sortP ps).map mkP)) else none
      | none => none)
    | none => none)
  | _ => none
section
variable {K : PySem.W.Frag} {G : Gs} {m : List Addr} {b h : Hp}
theorem pksD_ok (sub : Same b h) : ∀ {vs : List V} {ds : List D} {pks : List KP}, RDs K G m b vs ds → pksD ds = some pks → ∃ ps : List Addr, vs = ps.map V.ref ∧ Paired (fun p pk => SqT K h p [kV pk.1, kV pk.2]) ps pks ∧ ∀ z ∈ ps.zip pks, RD K G m b (.ref z.1) (mkP z.2)
  | _, _, _, .nil, e => by cases e; exact ⟨[], rfl, .nil, fun _ z => (nomatch z)⟩
  | _, _, _, .cons (d := d) (ds := ds) r rs, e => by
    unfold pksD at e
    split at e
    · rename_i p kvs e1 e2
      cases e
      obtain ⟨ps, q1, q2, q3⟩ := pksD_ok sub rs e2
      subst q1
      unfold pkD at e1
      split at e1
      · rename_i k d
        split at e1
        · rename_i k' v' e3 e4
          cases e1
          cases r with
          | @tup a us _ st td rr =>
            obtain ⟨v, w, rfl, r1, r2⟩ := rr.len2
            have n1 := keyD_rd r1 e3
            have n2 := keyD_rd r2 e4
            subst n1 n2
            refine ⟨a :: ps, rfl, .cons (sqT_mono sub st) q2, fun z mz => ?_⟩
            rcases List.mem_cons.mp mz with rfl | mz
            · exact .tup st (fun z => by cases k' <;> cases z) (.cons (kD_rd _) (.cons (kD_rd _) .nil))
            · exact q3 z mz
        · cases e1
      · cases e1
    · cases e
theorem rds_mk : ∀ {zs : List (Addr × KP)}, (∀ z ∈ zs, RD K G m b (.ref z.1) (mkP z.2)) → RDs K G m b (zs.map fun z => V.ref z.1) ((zs.map (·.2)).map mkP)
  | [], _ => .nil
  | z :: zs, h => .cons (h z List.mem_cons_self) (rds_mk fun z m => h z (List.mem_cons_of_mem _ m))
theorem zip_snd {ps : List Addr} {pks : List KP} {F : Addr → KP → Prop} (q : Paired F ps pks) : (ps.zip pks).map (·.2) = pks := by
  induction q with
  | nil => rfl
  | cons _ _ ih => rw [List.zip_cons_cons, List.map_cons, ih]
theorem ok_sortP : BiOk K G (rSortP K) fSortP := fun m b h hp xs ds d ok r e Q q => by
  unfold fSortP at e
  split at e
  · rename_i d1
    split at e
    · rename_i ys e1
      split at e
      · rename_i pks e2
        split at e
        · rename_i ev
          cases e
          obtain ⟨v, rfl, r1⟩ := r.len1
          obtain ⟨a, vs, rfl, sq, rr⟩ := lstR_ok ok r1 e1
          obtain ⟨ps, rfl, q2, q3⟩ := pksD_ok ok.sub rr e2
          obtain ⟨c1, c2, k1, k2⟩ := evenP_ok ev
          refine ⟨a, ps, pks, c1, c2, rfl, sq, q2, k1, k2, fun zs p so st hp' => ?_⟩
          have perm : (zs.map (·.2)).Perm pks := by
            have := st.perm.map (·.2)
            rw [zip_snd q2] at this
            exact this
          have eq := sortP_of perm (SrtO.srtd_map (f := fun z : Addr × KP => z.2) so)
          have F : Fr [] b h (upd b p (.lst (zs.map fun z => V.ref z.1))) (upd h p (.lst (zs.map fun z => V.ref z.1))) := Fr.laid ok.sub hp'
          refine q _ _ _ F (.lst upd_same ?_)
          rw [← eq]
          exact (rds_mk fun z mz => q3 z (st.perm.mem_iff.mp mz)).monoB F.base
        · cases e
      · cases e
    · cases e
  · cases e
/-- what is there stays, and new things are laid as data -/
noncomputable def grown (b h h' : Hp) : Hp := fun c => if (h c).isSome then b c else h' c
theorem Fr.grow {h' : Hp} (e : Same b h) (g : ∀ c o, h c = some o → h' c = some o) : Fr [] b h (grown b h h') h' := by
  refine ⟨fun c o z => ?_, fun c o z => ?_, fun c z y => ?_, fun c o _ _ z => g c o z, fun c z => ?_⟩
  · unfold grown; rw [e c o z]; exact z
  · unfold grown at z
    split at z
    · exact g c o (e c o z)
    · exact z
  · unfold grown; rw [if_pos y]; exact z
  · obtain ⟨o, y⟩ := Option.isSome_iff_exists.mp z
    rw [g c o y]; rfl
theorem grown_new {h' : Hp} {c : Addr} (n : h c = none) : grown b h h' c = h' c := by unfold grown; rw [n]; rfl
end
section
variable {K : PySem.W.Frag} {X : Cx}
theorem sortP_ok (hK : X.K = K) : CallR X (.builtin "sorted") (fun xs H Q => rSortP K xs H Q ∨ rSortedI K xs H Q) := by subst hK; exact CallR.or cr_sortP cr_sortedI
def fSort2 (hp : List O) (ds : List D) : Option D := match fSortP hp ds with
  | some d => some d
  | none => fSorted hp ds
theorem ok_sort2 {G : Gs} : BiOk K G (fun xs H Q => rSortP K xs H Q ∨ rSortedI K xs H Q) fSort2 := fun m b h hp xs ds d ok r e Q q => by
  unfold fSort2 at e
  split at e
  · rename_i d' e1
    cases e
    exact .inl (ok_sortP m b h hp xs ds d ok r e1 Q q)
  · exact .inr (ok_sorted m b h hp xs ds d ok r e Q q)
end
end EV

/-! sorted(d.items()) -/
namespace EV
open PySem L2 PyProof.Rows
open L2.DX (itemsO itemsO_ok takeT)
def rItemsK : V → List V → Hp → VK → Prop := fun x xs H Q => ∃ (a : Addr) (kvs : List (L2.Key × V)), x = .ref a ∧ xs = [] ∧ H a = some (.dK kvs) ∧ ∀ p, H p = none → Q (.ref p) (upd H p (itemsO p a))
def rSortIt : List V → Hp → VK → Prop := fun vs H Q => ∃ (p a : Addr) (pks : List KP) (c1 c2 : Bool), vs = [.ref p] ∧ H p = some (itemsO p a) ∧ H a = some (.dK (pks.map fun pk => (pk.1, kV pk.2))) ∧ (∀ pk ∈ pks, isS pk.1 = c1) ∧ (∀ pk ∈ pks, isS pk.2 = c2) ∧
  ∀ (H' : Hp) (l : Addr) (zs : List (Addr × KP)), (∀ b o, H b = some o → H' b = some o) → zs.map (·.2) = sortP pks → H l = none → H' l = some (.lst (zs.map fun z => V.ref z.1)) → (∀ z ∈ zs, H z.1 = none ∧ H' z.1 = some (.tup [kV z.2.1, kV z.2.2])) → Q (.ref l) H'
section
variable {X : L2.Cx} {pins : List (Addr × Obj)} {σ : L2.St} {H : Hp} {s : Shared}
theorem entries_lie {P : Program} {w : World} : ∀ {es : List DictEntry} {vs : List (L2.Key × Value)} {kvs : List (L2.Key × V)}, Pairs (mixKind P w) es vs → KV kvs vs → ∀ (j : Nat) (en : DictEntry), es[j]? = some en → ∃ kv, kvs[j]? = some kv ∧ RelV (kV kv.1) en.key ∧ RelV kv.2 en.val
  | _, _, _, .nil, _, j, en, z => by simp at z
  | _, _, _, .cons k1 v1 rest, rel, j, en, z => by
    cases rel with
    | @cons kv q kvs vs h t =>
      cases j with
      | zero =>
        have z : _ = en := Option.some.inj z
        subst z
        refine ⟨kv, rfl, ?_, ?_⟩
        · rw [h.1]; exact relV_key k1
        · rw [v1]; exact h.2
      | succ j => exact entries_lie rest t j en (by simpa using z)
/-- a dict's entries as they lie -/
theorem dict_raw (I : Inv X pins σ H s) {a : Addr} {kvs : List (L2.Key × V)} (e : H a = some (.dK kvs)) : (a == sysModules) = false ∧ kvs.length ≤ sizeLine ∧ ∃ es ep, DT.Raw s.heap a es ep ∧ es.size = kvs.length ∧
    ∀ (j : Nat) (en : DictEntry), es[j]? = some en → ∃ kv, kvs[j]? = some kv ∧ RelV (kV kv.1) en.key ∧ RelV kv.2 en.val := by
  obtain ⟨z, hd, vs, rel, o, es, ep, h1, h2, h3, _, h4, _⟩ := dk_of I.hok e
  have l1 := h4.length
  have l2 : kvs.length = vs.length := Paired.length rel
  refine ⟨hd, z, es, ep, ⟨o, h1, h2, h3⟩, ?_, fun j en q => entries_lie h4 rel j en (by rw [Array.getElem?_toList]; exact q)⟩
  rw [Array.length_toList] at l1
  omega
theorem mt_itemsK : MtR X "dict.items" rItemsK := by
  rintro pins s σ H x xs v us Q I rx rxs ⟨a, kvs, rfl, rfl, ha, q⟩
  cases rx
  cases rxs
  obtain ⟨hd, _, es, ep, raw, _⟩ := dict_raw I ha
  exact DT.callItems (es := es) (ep := ep) hd raw ⟨.ref s.heap.objs.size, _, I.laid (t' := s.toks) (o := itemsO s.heap.objs.size a) (fun b u z => Heap.get?_push_of_some _ z) (Nat.le_refl _) (itemsO_ok (Heap.get?_push_size _ rfl)), rfl, q _ (I.hok.fresh (Nat.le_refl _))⟩
theorem paired_at {α β : Type} {F : α → β → Prop} : ∀ {as : List α} {bs : List β}, as.length = bs.length → (∀ (j : Nat) a b, as[j]? = some a → bs[j]? = some b → F a b) → Paired F as bs
  | [], [], _, _ => .nil
  | [], _ :: _, e, _ => by cases e
  | _ :: _, [], e, _ => by cases e
  | a :: as, b :: bs, e, h => .cons (h 0 a b rfl rfl) (paired_at (Nat.succ.inj e) fun j x y h1 h2 => h (j + 1) x y (by simpa using h1) (by simpa using h2))
theorem cr_sortItK (calm : X.calm = true) : CallR X (.builtin "sorted") rSortIt := by
  rintro pins s σ H xs us Q I r ⟨p, a, pks, c1, c2, rfl, hp, ha, k1, k2, q⟩
  obtain ⟨u, rfl, ru⟩ := vals1 r
  cases ru
  have view : s.heap.IsItemsView p a := (show ObjOk X.prog X.w H s.heap p (itemsO p a) from I.hok p _ hp).1
  obtain ⟨hd, short, es, ep, raw, size, lie⟩ := dict_raw I ha
  rw [List.length_map] at size short
  refine DT.sortedI (es := es) (ep := ep) (I.ok.hd calm) view raw (by omega) fun h' tk as old lt len made => ?_
  have lenA : as.length = pks.length := by omega
  have nodup : as.Nodup := List.Pairwise.imp (fun h => Nat.ne_of_lt h) made.rise
  have at_ : (h'.push { cls := .type "list", data := .seq (as.map Value.ref).toArray }).get? h'.objs.size = some (seqObj "list" (as.map Value.ref).toArray 0) := Heap.get?_push_size _ rfl
  have older : ∀ b o, h'.get? b = some o → (h'.push { cls := .type "list", data := .seq (as.map Value.ref).toArray }).get? b = some o := fun b o z => Heap.get?_push_of_some _ z
  generalize h'.push { cls := .type "list", data := .seq (as.map Value.ref).toArray } = h2 at at_ older ⊢
  have apart : ∀ b o, h'.get? b = some o → b ≠ h'.objs.size := fun b o z => Nat.ne_of_lt (Heap.lt_size z)
  have each : ∀ (j : Nat) b pk, as[j]? = some b → pks[j]? = some pk → ∃ o u1 u2, h2.get? b = some o ∧ h'.get? b = some o ∧ o.cls = .type "tuple" ∧ o.data = .seq #[u1, u2] 0 ∧ RelV (kV pk.1) u1 ∧ RelV (kV pk.2) u2 := fun j b pk f1 f2 => by
    obtain ⟨en, g1, g2⟩ := made.pairs j b f1
    obtain ⟨kv, g3, g4, g5⟩ := lie j en g1
    rw [List.getElem?_map, f2] at g3
    cases g3
    exact ⟨_, _, _, older _ _ g2, g2, rfl, rfl, g4, g5⟩
  have pv : Paired (fun p pk => PairV h2 (.ref p) pk) as pks := paired_at lenA fun j b pk f1 f2 => by
    obtain ⟨o, u1, u2, g1, _, g2, g3, g4, g5⟩ := each j b pk f1 f2
    exact ⟨b, o, 0, u1, u2, rfl, g1, g2, g3, g4, g5⟩
  obtain ⟨d1, d2⟩ := pairs_dec pv
  refine wpAny_call_entry PyProof.Rows.slot_list_sort ⟨_, at_, rfl⟩ PyProof.Rows.entry_list_sort (SrtO.list_sort_ord (s := { s with heap := h2, toks := tk }) (ltP2_swo (decP h2)) at_ (by rw [List.length_map, lenA]; exact short) (fun two => ?_) fun out so st => ⟨.none, rfl, ?_⟩) (PyProof.Rows.args_list_sort _)
  · exact pairV_sort (s := { s with heap := h2, toks := tk }) (by omega) (fun v m => (d1 v m).1) (fun v m => k1 _ (d1 v m).2) (fun v m => k2 _ (d1 v m).2) fun o z => by
      rw [show h2.get? h'.objs.size = some o from z] at at_
      rw [Option.some.inj at_]
      exact fun z => nomatch (Value.type.inj z : ("list" : String) = "tuple")
  · show EP X pins σ Q (.ref h'.objs.size) { s with heap := sortedHeap h2 h'.objs.size (as.map Value.ref) out.toArray, toks := tk }
    have refs : ∀ u ∈ out, ∃ a, u = Value.ref a := fun u m => by
      obtain ⟨a, _, e⟩ := List.mem_map.mp (st.perm.mem_iff.mp m)
      exact ⟨a, e.symm⟩
    have st2 := SrtO.Stb.map (lt := ltZ) (ltP2_swo _) (fun v => (adr v, decP h2 v)) st
    rw [d2] at st2
    have so2 : SrtP ((out.map fun v => (adr v, decP h2 v)).map (·.2)) := by
      rw [List.map_map]
      exact SrtO.srtd_map (f := decP h2) so
    have perm := st2.perm.map (·.2)
    rw [show (as.zip pks).map (·.2) = pks from zip_snd pv] at perm
    have goal := sortP_of perm so2
    have lenO : out.length = as.length := by rw [st.len, List.length_map]
    obtain ⟨eF, atF⟩ := PyProof.Rows.sortedHeap_at (vs := as.map Value.ref) (out := out.toArray) at_
    have keepF : ∀ b o, h'.get? b = some o → (sortedHeap h2 h'.objs.size (as.map Value.ref) out.toArray).get? b = some o := fun b o z => (PyProof.Rows.sortedHeap_old (apart b o z) (Heap.lt_size (older b o z))).trans (older b o z)
    have noneL : H h'.objs.size = none := I.hok.fresh (Nat.le_of_lt lt)
    have J1 : Inv X pins σ H { s with heap := sortedHeap h2 h'.objs.size (as.map Value.ref) out.toArray, toks := tk } := I.kept (t' := tk) fun b o z => keepF b o (old b o z)
    have J2 := J1.take (h' := sortedHeap h2 h'.objs.size (as.map Value.ref) out.toArray) (t' := tk) (o := .lst (out.map fun u => V.ref (adr u))) (fun b ob _ z => z) (I.fpOk (Nat.le_of_lt lt) noneL) ⟨by rw [List.length_map, lenO, lenA]; exact short, out, eF, vals_refs refs, atF⟩
    obtain ⟨H2, J3, g, qt⟩ := takeT (P := fun b ws => ∃ pk, (b, pk) ∈ as.zip pks ∧ ws = [kV pk.1, kV pk.2]) I as _ J2 nodup fun b mb => by
      obtain ⟨j, hj⟩ := List.mem_iff_getElem?.mp mb
      have lj : j < pks.length := by rw [← lenA]; exact (List.getElem?_eq_some_iff.mp hj).1
      obtain ⟨o, u1, u2, _, g1, g2, g3, g4, g5⟩ := each j b pks[j] hj (List.getElem?_eq_getElem lj)
      have above : s.heap.objs.size ≤ b := Nat.le_of_lt (made.above b mb)
      refine ⟨above, by rw [upd_ne (apart _ _ g1)]; exact I.hok.fresh above, _, ⟨pks[j], List.mem_iff_getElem?.mpr ⟨j, List.getElem?_zip_eq_some.mpr ⟨hj, List.getElem?_eq_getElem lj⟩⟩, rfl⟩, fun H3 => ?_⟩
      exact ⟨by rw [sizeLine_eq]; show 2 ≤ 16777216; omega, [u1, u2], .cons g4 (.cons g5 .nil), o, keepF _ _ g1, g2, 0, g3⟩
    refine ⟨.ref h'.objs.size, H2, J3, rfl, q H2 h'.objs.size (out.map fun v => (adr v, decP h2 v)) (fun b o z => g b o (by rw [upd_ne (ne_of_none z noneL)]; exact z)) goal noneL ?_ fun z mz => ?_⟩
    · rw [List.map_map]
      exact g _ _ upd_same
    · have mz2 := st2.perm.mem_iff.mp mz
      obtain ⟨z1, z2⟩ := z
      have mA : z1 ∈ as := (List.of_mem_zip mz2).1
      obtain ⟨ws, ⟨pk, m2, rfl⟩, e⟩ := qt z1 mA
      have same : pk = z2 := by
        obtain ⟨i, i1⟩ := List.mem_iff_getElem?.mp m2
        obtain ⟨j, j1⟩ := List.mem_iff_getElem?.mp mz2
        obtain ⟨i2, i3⟩ := List.getElem?_zip_eq_some.mp i1
        obtain ⟨j2, j3⟩ := List.getElem?_zip_eq_some.mp j1
        have : i = j := (List.getElem?_inj (List.getElem?_eq_some_iff.mp i2).1 nodup).mp (i2.trans j2.symm)
        subst this
        exact Option.some.inj (i3.symm.trans j3)
      subst same
      exact ⟨I.hok.fresh (Nat.le_of_lt (made.above _ mA)), e⟩
end
end EV

/-! sorted(d.items()): what is read; a dict's display; dict.get with a picked def's number -/
namespace EV
open PySem L2 DV
def pksK : KVs → Option (List KP)
  | [] => some []
  | kv :: r => match keyD kv.2, pksK r with
    | some v, some ps => some ((kv.1, v) :: ps)
    | _, _ => none
def eSortIt (eo : EE) : EE := fun s hp => match eo s hp with
  | .ok (.ref n) hp1 => (match dctOf hp1[n]? with
    | some kvs => (match pksK kvs with
      | some pks => if evenP pks then .ok (.lst ((sortP pks).map mkP)) hp1 else .bad
      | none => .bad)
    | none => .bad)
  | .exc x hp1 => .exc x hp1
  | _ => .bad
section
variable {K : PySem.W.Frag} {G : Gs} {W : WX} {m : List Addr} {b h : Hp} {hp : List O} {to : TE} {eo : EE}
theorem pksK_ok : ∀ {vs : List (L2.Key × V)} {kvs : KVs} {pks : List KP}, DR K G m b vs kvs → pksK kvs = some pks → vs = pks.map fun pk => (pk.1, kV pk.2)
  | _, _, _, .nil, e => by cases e; rfl
  | _, _, _, .cons (k := k) (v := v) (d := d) r rs, e => by
    unfold pksK at e
    split at e
    · rename_i v' ps e1 e2
      cases e
      rw [pksK_ok rs e2, keyD_rd r e1]
      rfl
    · cases e
theorem mk_tab (q : KP) : ¬ tabL [kD q.1, kD q.2] = true := by
  obtain ⟨k, j⟩ := q
  cases k <;> exact fun z => by cases z
theorem sn_sortIt (ho : SnE K G W to eo) : SnE K G W (tCB rSortIt (tCons (tBM0 K "dict" rItemsK to) tNil)) (eSortIt eo) := fun m b h hp σ s ok sl Q p => by
  refine ho m b h hp σ s ok sl _ ?_
  unfold eSortIt at p
  cases e : eo s hp with
  | ok d hp1 =>
    rw [e] at p
    cases d with
    | ref n =>
      dsimp only at p
      split at p
      · rename_i kvs ek
        split at p
        · rename_i pks ep
          split at p
          · rename_i ev
            intro v m1 b1 h1 x1 ok1 r1
            obtain ⟨a, vs, rfl, em, eh, nb, ed, dr⟩ := ok1.wrD r1 ek
            obtain ⟨c1, c2, k1, k2⟩ := evenP_ok ev
            refine ⟨.inr (.inr (.inl ⟨rfl, .inl ⟨vs, ed⟩⟩)), a, vs, rfl, rfl, ed, fun q hq => ?_⟩
            have ne : a ≠ q := fun z => by rw [z, hq] at ed; cases ed
            refine ⟨q, a, pks, c1, c2, rfl, upd_same, by rw [upd_ne ne, ed, pksK_ok dr ep], k1, k2, fun H' l zs old srt nl atl each => ?_⟩
            have old1 : ∀ c o, h1 c = some o → H' c = some o := fun c o z => old c o (by rw [upd_ne (fun y => by rw [y, hq] at z; cases z)]; exact z)
            have fresh : ∀ c, (upd h1 q (L2.DX.itemsO q a)) c = none → h1 c = none := fun c z => by
              by_cases y : c = q
              · rw [y]; exact hq
              · rw [upd_ne y] at z; exact z
            have F : Fr [] b1 h1 (grown b1 h1 H') H' := Fr.grow ok1.sub old1
            refine p _ m1 _ H' (x1.trans (Stp.pure F)) (ok1.pure F) ?_
            rw [← srt]
            refine .lst (by rw [grown_new (fresh _ nl)]; exact atl) (rds_mk fun z mz => ?_)
            obtain ⟨n1, n2⟩ := each z mz
            exact .tup (.inl (.inl (by rw [grown_new (fresh _ n1)]; exact n2))) (fun y => absurd y (mk_tab z.2)) (.cons (kD_rd _) (.cons (kD_rd _) .nil))
          · exact p.elim
        · exact p.elim
      · exact p.elim
    | _ => exact p.elim
  | exc x hp1 => rw [e] at p; exact p
  | bad => rw [e] at p; exact p.elim
end
section
variable {K : PySem.W.Frag} {G : Gs} {W : WX} {X : Cx} {o : Expr} {eo : EE} {p pos apos cpos : Pos}
theorem xsortIt (hK : X.K = K) (hc : X.calm = true) (hg : Gl X "sorted") (hm : X.mg "sorted" = none) (ho : PX K G W X o eo) (hbase : attributeBase o "items" X.env (eval o X.env) = eval o X.env := by rfl) (hline : (apos.endLine == cpos.line) = true := by rfl)
    (hs : starEach [.Call (.Attribute o "items" apos) [] [] cpos] X.env = (false, eval (.Call (.Attribute o "items" apos) [] [] cpos) X.env) :: starEach [] X.env := by rfl) (hpl : (backTo pos (starEach [] X.env)).any (·.1) = false := by rfl) :
    PX K G W X (.Call (.Name "sorted" p) [.Call (.Attribute o "items" apos) [] [] cpos] [] pos) (eSortIt eo) := by
  subst hK
  exact px (pe_callB (cr_sortItK hc) hg hm (by decide +kernel) (pa_cons (pe_bm0 PySem.F.plainAttrs_dict PySem.F.slot_dict_items PySem.F.type_dict_items mt_itemsK ho hbase hline) pa_nil) (by decide) (by decide) hs hpl) (sn_sortIt sn_of)
end
/-! a display -/
inductive RP where
  | ok (kvs : KVs) (hp : List O) | exc (x : Xc) (hp : List O) | bad
def goPrs : List (EE × EE) → Sl → List O → RP
  | [], _, hp => .ok [] hp
  | (ek, ev) :: r, s, hp => match ek s hp with
    | .ok dk hp1 => (match ev s hp1 with
      | .ok d hp2 => (match goPrs r s hp2 with
        | .ok kvs hp3 => (match keyD dk with
          | some k => .ok ((k, d) :: kvs) hp3
          | none => .bad)
        | .exc x hp3 => .exc x hp3
        | .bad => .bad)
      | .exc x hp2 => .exc x hp2
      | .bad => .bad)
    | .exc x hp1 => .exc x hp1
    | .bad => .bad
def eDisp (prs : List (EE × EE)) : EE := fun s hp => match goPrs prs s hp with
  | .ok kvs hp1 => if kvs.length ≤ 15 then .ok (.ref hp1.length) (hp1 ++ [.dct (mergeD [] kvs)]) else .bad
  | .exc x hp1 => .exc x hp1
  | .bad => .bad
section
variable {K : PySem.W.Frag} {G : Gs} {W : WX}
def SnPr (K : PySem.W.Frag) (G : Gs) (W : WX) (trs : List (TE × TE)) (prs : List (EE × EE)) : Prop := ∀ m b h hp σ s, Ok K G m b h hp → Sls K G m b σ s → ∀ Q : List (V × V) → Hp → Prop,
  (match goPrs prs s hp with
    | .ok kvs hp1 => ∀ (ws : List (L2.Key × V)) m' b' h', Stp m b h m' b' h' → Ok K G m' b' h' hp1 → DR K G m' b' ws kvs → Q (ws.map fun kv => (kV kv.1, kv.2)) h'
    | .exc x hp1 => ∀ cls dx m' b' h', Stp m b h m' b' h' → Ok K G m' b' h' hp1 → XR K G m' b' h' x cls dx → W cls dx σ h'
    | .bad => False) → tPairs trs σ h Q
theorem snPr_nil : SnPr K G W [] [] := fun m b h hp σ s ok sl Q p => p [] m b h (Stp.rfl' ok.sub) ok .nil
theorem snPr_cons {tk tv : TE} {ek ev : EE} {trs : List (TE × TE)} {prs : List (EE × EE)} (hk : SnE K G W tk ek) (hv : SnE K G W tv ev) (hr : SnPr K G W trs prs) : SnPr K G W ((tk, tv) :: trs) ((ek, ev) :: prs) := fun m b h hp σ s ok sl Q p => by
  refine hk m b h hp σ s ok sl _ ?_
  unfold goPrs at p
  cases e : ek s hp with
  | ok dk hp1 =>
    rw [e] at p
    dsimp only at p
    intro v m1 b1 h1 x1 ok1 r1
    refine hv m1 b1 h1 hp1 σ s ok1 (sl.go x1) _ ?_
    cases e2 : ev s hp1 with
    | ok d hp2 =>
      rw [e2] at p
      dsimp only at p
      intro w m2 b2 h2 x2 ok2 r2
      refine hr m2 b2 h2 hp2 σ s ok2 ((sl.go x1).go x2) _ ?_
      cases e3 : goPrs prs s hp2 with
      | ok kvs hp3 =>
        rw [e3] at p
        dsimp only at p ⊢
        cases e4 : keyD dk with
        | none => rw [e4] at p; exact p.elim
        | some k =>
          rw [e4] at p
          dsimp only at p
          intro ws m3 b3 h3 x3 ok3 dr
          have := keyD_rd r1 e4
          subst this
          exact p ((k, w) :: ws) m3 b3 h3 ((x1.trans x2).trans x3) ok3 (.cons (r2.go x3) dr)
      | exc x hp3 => rw [e3] at p; exact fun c dx m3 b3 h3 x3 => p c dx m3 b3 h3 ((x1.trans x2).trans x3)
      | bad => rw [e3] at p; exact p.elim
    | exc x hp2 => rw [e2] at p; exact fun c dx m2 b2 h2 x2 => p c dx m2 b2 h2 (x1.trans x2)
    | bad => rw [e2] at p; exact p.elim
  | exc x hp1 => rw [e] at p; exact p
  | bad => rw [e] at p; exact p.elim
theorem sn_disp {trs : List (TE × TE)} {prs : List (EE × EE)} (hr : SnPr K G W trs prs) : SnE K G W (tDisp trs) (eDisp prs) := fun m b h hp σ s ok sl Q p P hP => by
  have bP : b P = none := ok.sub.free hP
  have mP : P ∉ m := ok.notin hP
  have ok0 : Ok K G m b (upd h P (.dK [])) hp := ok.off bP mP
  have st0 : Stp m b h m b (upd h P (.dK [])) := (Stp.rfl' ok.sub).off hP bP
  refine hr m b _ hp σ s ok0 sl _ ?_
  unfold eDisp at p
  cases e : goPrs prs s hp with
  | ok kvs hp1 =>
    rw [e] at p
    dsimp only at p ⊢
    split at p
    · rename_i hl
      intro ws m1 b1 h1 x1 ok1 dr
      obtain ⟨q1, q2, q3⟩ := x1.own bP mP upd_same
      refine ⟨q3, ws, rfl, by rw [dr.length]; exact hl, ?_⟩
      have dr2 := dr.merge (ws := []) (es := []) .nil
      have okF : Ok K G (m1 ++ [P]) b1 (upd h1 P (.dK (mergeK [] ws))) (hp1 ++ [.dct (mergeD [] kvs)]) := (ok1.off q1 q2).add (ObB.of q1) q2 ⟨_, upd_same, dr2.keys, dr2.vals⟩
      refine p (.ref P) (m1 ++ [P]) b1 _ (((st0.trans x1).off hP q1).add hP) okF (.ref ?_)
      rw [← ok1.len, List.getElem?_append_right (Nat.le_refl _)]
      simp
    · exact p.elim
  | exc x hp1 => rw [e] at p; exact fun c dx m1 b1 h1 x1 => p c dx m1 b1 h1 (st0.trans x1)
  | bad => rw [e] at p; exact p.elim
structure PXPr (K : PySem.W.Frag) (G : Gs) (W : WX) (X : Cx) (pos : Pos) (keys : List (Option Expr)) (values : List Expr) (prs : List (EE × EE)) : Prop where
  run : ∃ trs, PPs X pos keys values trs ∧ SnPr K G W trs prs
variable {X : Cx} {pos : Pos} {k v : Expr} {ks : List (Option Expr)} {vs : List Expr} {ek ev : EE} {prs : List (EE × EE)}
theorem xpr_nil : PXPr K G W X pos [] [] [] := ⟨_, pps_nil, snPr_nil⟩
theorem xpr_cons (hk : PX K G W X k ek) (hv : PX K G W X v ev) (hr : PXPr K G W X pos ks vs prs) : PXPr K G W X pos (some k :: ks) (v :: vs) ((ek, ev) :: prs) := by
  obtain ⟨trs, h1, h2⟩ := hr.run
  exact ⟨_, pps_cons hk hv h1, snPr_cons sn_of sn_of h2⟩
theorem xdisp (h : PXPr K G W X pos (some k :: ks) (v :: vs) prs) (hall : (some k :: ks).all (·.isSome) = true := by rfl) (hl : (some k :: ks).length = (v :: vs).length := by rfl) (h15 : (some k :: ks).length ≤ 15 := by decide) : PX K G W X (.Dict (some k :: ks) (v :: vs) pos) (eDisp prs) := by
  obtain ⟨trs, h1, h2⟩ := h.run
  exact px (pe_disp h1 hall hl (by simp) h15) (sn_disp h2)
end
end EV

namespace EV
open PySem L2 DV PyProof PyProof.Rows
theorem fm_congr' {α β : Type} {f g : α → Option β} : ∀ {l : List α}, (∀ a ∈ l, f a = g a) → l.filterMap f = l.filterMap g
  | [], _ => rfl
  | a :: l, h => by
    rw [List.filterMap_cons, List.filterMap_cons, h a (List.mem_cons_self ..), fm_congr' fun x hx => h x (List.mem_cons_of_mem _ hx)]
theorem pick_rev (its : List Value) : slicePick its.toArray none none (some (-1)) = its.reverse.toArray := by
  have b : sliceBounds none none (some (-1)) its.toArray.size = ((its.toArray.size : Int) - 1, -1, -1) := by
    simp [sliceBounds]
  unfold slicePick
  rw [b]
  have r : sliceRange ((its.toArray.size : Int) - 1) (-1) (-1) = (List.range its.toArray.size).map fun (k : Nat) => (((its.toArray.size : Int) - 1) + (-1) * (k : Int)).toNat := by
    unfold sliceRange
    have : (if (-1 : Int) > 0 then (if (its.toArray.size : Int) - 1 < -1 then (-1 - ((its.toArray.size : Int) - 1) + (-1) - 1) / (-1) else 0) else (if (its.toArray.size : Int) - 1 > -1 then ((its.toArray.size : Int) - 1 - (-1) - (-1) - 1) / (-(-1)) else 0)).toNat = its.toArray.size := by
      rw [if_neg (by decide)]
      split
      · rw [show ((its.toArray.size : Int) - 1 - (-1) - (-1) - 1) = (its.toArray.size : Int) by omega, show (-(-1) : Int) = 1 from rfl, Int.ediv_one]
        omega
      · omega
    dsimp only
    rw [this]
  dsimp only
  rw [r, List.filterMap_map]
  have := pick_back its.toArray
  refine Eq.trans ?_ this
  congr 1
  refine fm_congr' fun m _ => ?_
  show its.toArray[(((its.toArray.size : Int) - 1) + (-1) * (m : Int)).toNat]? = its.toArray[(((its.toArray.size : Int) - 1) + (m : Int) * -1).toNat]?
  rw [Int.mul_comm]
/-- t[::-1], t a tuple or a list -/
def tBackX (K : PySem.W.Frag) (te : TE) : TE := fun σ H Q => te σ H fun x H1 => ∃ a xs, x = .ref a ∧ ((SqT K H1 a xs ∧ NewT H1 xs.reverse Q) ∨ (SqL K H1 a xs ∧ ∀ p, H1 p = none → Q (.ref p) (upd H1 p (.lst xs.reverse))))
end EV
namespace DV
open PySem PySem.Spec L2 PyProof.Rows EV
section
variable {X : L2.Cx}
theorem pe_backX {e : Expr} {te : TE} {k : Nat} {p1 p2 p3 pos : Pos} (he : PE X e te) : PE X (.Subscript e (.Slice none none (some (.UnaryOp .USub (.Constant (.int 1) k p1) p2)) p3) pos) (tBackX X.K te) := by
  refine ⟨fun pins s σ H Q I hq => ?_⟩
  refine Subscript_ (thn (he.run pins s σ H _ I hq) fun v t1 ⟨x, H1, J1, r1, q1⟩ => ?_)
  obtain ⟨a, xs, rfl, q1⟩ := q1
  cases r1
  have hst : PO X (some (.UnaryOp .USub (.Constant (.int 1) k p1) p2)) (tPart (tUn (rU fun i => .int (-i)) (tC (.int 1)))) := po_some (pe_un un_neg pe_int)
  refine wpAny_Slice (thn (po_none.run pins t1 σ H1 (fun o G => o = none ∧ G = H1) J1 ⟨rfl, rfl⟩) fun v1 t2 ⟨l, H2, J2, w1, el, e2⟩ => ?_)
  subst el e2
  refine thn (po_none.run pins t2 σ H2 (fun o G => o = none ∧ G = H2) J2 ⟨rfl, rfl⟩) fun v2 t3 ⟨u, H3, J3, w2, eu, e3⟩ => ?_
  subst eu e3
  refine thn (hst.run pins t3 σ H3 (fun o G => o = some (-1) ∧ G = H3) J3 ⟨1, rfl, -1, rfl, rfl, rfl⟩) fun v3 t4 ⟨o, H4, J4, w3, eo, e4⟩ => ?_
  subst eo e4
  cases w1
  cases w2
  have J5 : Inv X pins σ H4 { t4 with heap := t4.heap.push { cls := .type "slice", data := .fields #[.none, .none, v3] } } := J4.kept (t' := t4.toks) fun b ob q => Heap.get?_push_of_some _ q
  show wpAny (model X.prog X.w) X.A (subscriptTail e (.Slice none none (some (.UnaryOp .USub (.Constant (.int 1) k p1) p2)) p3) (.ref a) (.ref t4.heap.objs.size)) (EP X pins σ Q) X.xe { t4 with heap := t4.heap.push { cls := .type "slice", data := .fields #[.none, .none, v3] } }
  rcases q1 with ⟨hx, q⟩ | ⟨hx, q⟩
  · obtain ⟨its, r, ht, hz⟩ := J5.tuple hx
    have hlen := r.length
    refine tail_any (ops := [.ref a, .ref t4.heap.objs.size]) ht.typeIs PyProof.Rows.slot_tuple_getitem.lookup ?_ (by with_unfolding_all rfl)
    refine get_back ht (Heap.IsSliceOf.new _ .none .none v3) w3 (by rw [List.size_toArray]; omega) ?_
    exact newT (tk := t4.toks) J5 r.reverse (by rw [List.length_reverse]; exact hz) rfl rfl rfl rfl q
  · obtain ⟨its, r, ht, hz⟩ := J5.list hx
    have hlen := r.length
    refine tail_any (ops := [.ref a, .ref t4.heap.objs.size]) ht.isList.typeIs slot_list_getitem.lookup ?_ (by with_unfolding_all rfl)
    refine wpAny_getItem_list_slice ht.isList (Heap.IsSliceOf.new _ .none .none v3) .none .none w3 (by simp) ?_ (by rw [List.size_toArray]; omega)
    rw [pick_rev]
    refine ⟨.ref _, _, J5.laid (t' := t4.toks) (o := .lst xs.reverse) (fun b ob q => Heap.get?_push_of_some _ q) (Nat.le_refl _) ?_, rfl, q _ (J5.hok.fresh (Nat.le_refl _))⟩
    exact ⟨by rw [List.length_reverse]; exact hz, _, 0, r.reverse, Heap.get?_push_size _ rfl⟩
end
end DV
namespace EV
open PySem L2 DV
def fRevX (hp : List O) (d : D) : Option D := match d with
  | .tup xs => some (.tup xs.reverse)
  | d => (lstR hp d).map fun xs => .lst xs.reverse
section
variable {K : PySem.W.Frag} {G : Gs} {W : WX} {X : Cx} {ta : TE} {ea : EE} {a : Expr} {pos : Pos}
theorem sn_backX (ha : SnE K G W ta ea) : SnE K G W (tBackX K ta) (eUn fRevX ea) := fun m b h hp σ s ok sl Q p => by
  refine ha m b h hp σ s ok sl _ ?_
  unfold eUn at p
  cases e : ea s hp with
  | ok d hp1 =>
    rw [e] at p
    dsimp only at p
    intro v m1 b1 h1 x1 ok1 r1
    have back : ∀ r, (lstR hp1 d).map (fun xs => D.lst xs.reverse) = some r → (∀ v b' h', Fr [] b1 h1 b' h' → RD K G m1 b' v r → Q v h') → ∃ a xs, v = .ref a ∧ ((SqT K h1 a xs ∧ NewT h1 xs.reverse Q) ∨ (SqL K h1 a xs ∧ ∀ p, h1 p = none → Q (.ref p) (upd h1 p (.lst xs.reverse)))) := fun r e q => by
      cases e1 : lstR hp1 d with
      | none => rw [e1] at e; cases e
      | some xs =>
        rw [e1] at e; cases e
        obtain ⟨a, vs, rfl, s, qa⟩ := lstR_ok ok1 r1 e1
        exact ⟨a, vs, rfl, .inr ⟨s, fun p hp => q _ _ _ (Fr.laid ok1.sub hp) (.lst upd_same (qa.rev.monoB (Fr.laid (B := []) ok1.sub hp).base))⟩⟩
    cases d with
    | tup xs =>
      cases r1 with
      | tup sa _ a =>
        refine ⟨_, _, rfl, .inl ⟨sqT_mono ok1.sub sa, fun q o hq hd => ?_⟩⟩
        exact p _ m1 _ _ (x1.trans (Stp.pure (Fr.laid ok1.sub hq))) (ok1.pure (Fr.laid ok1.sub hq)) (.tup sqT_new (fun _ => TD.new hd) (a.rev.monoB (Fr.laid (B := []) ok1.sub hq).base))
    | _ =>
      unfold fRevX at p
      dsimp only at p
      split at p
      · rename_i r er
        exact back r er fun v b' h' F rd => p v m1 b' h' (x1.trans (Stp.pure F)) (ok1.pure F) rd
      · exact p.elim
  | exc x hp1 => rw [e] at p; exact p
  | bad => rw [e] at p; exact p.elim
theorem xbackX {k : Nat} {p1 p2 p3 : Pos} (hK : X.K = K) (ha : PX K G W X a ea) : PX K G W X (.Subscript a (.Slice none none (some (.UnaryOp .USub (.Constant (.int 1) k p1) p2)) p3) pos) (eUn fRevX ea) := by subst hK; exact px (DV.pe_backX ha) (sn_backX sn_of)
end
end EV

/-! targets that write to lists, and targets with a star -/
namespace DV
open PySem PySem.Spec L2 PyProof.Rows EV
section
variable {X : L2.Cx} {es : List Expr} {k n i : Nat} {pos sp : Pos} {e : Expr} {t : TG} {u : TGs}
theorem pgs_star (h1 : PG X e t) (h2 : PGs X es u)
    (hs : (assignEach (.Starred e sp :: es) X.env).map (·.2) = assign e X.env :: (assignEach es X.env).map (·.2) := by rfl) : PGs X (.Starred e sp :: es) (gCons t u) := by
  refine ⟨fun pins s σ H vs us Q I r ⟨v, vr, e1, h⟩ => ?_⟩
  subst e1
  cases r with
  | cons r rr =>
    rw [hs]
    exact assignInOrder_cons (thn (h1.run pins s σ H _ _ _ I r h) fun _ s1 ⟨σ1, H1, I1, q1⟩ => h2.run pins s1 σ1 H1 _ _ Q I1 rr q1)
/-- a, *b = xs -/
def gStL (K : PySem.W.Frag) (u : TGs) : TG := fun v σ H Q => ∃ a x xs, v = .ref a ∧ SqL K H a (x :: xs) ∧ xs.length ≤ 16000 ∧ ∀ p, H p = none → u [x, .ref p] σ (upd H p (.lst xs)) Q
theorem pg_stL {tg t2 : Expr} (hc : X.calm = true) (h : PGs X [tg, .Starred t2 sp] u)
    (hn : (assignEach [tg, .Starred t2 sp] X.env).length = 2 := by rfl) (hst : (assignEach [tg, .Starred t2 sp] X.env).findIdx? (·.1) = some 1 := by rfl) : PG X (.Tuple [tg, .Starred t2 sp] k pos) (gStL X.K u) := by
  refine ⟨fun pins s σ H v u' Q I r ⟨a, x, xs, ea, hq, hz, hw⟩ => ?_⟩
  subst ea
  cases r
  obtain ⟨its, rv, pl, _⟩ := I.list hq
  have hl : s.heap.IsList a its.toArray := by obtain ⟨o, j, w1, w2, w3, w4⟩ := pl; exact ⟨o, w1, w2, j, w4⟩
  cases rv with
  | @cons _ y _ ys rx rr =>
    have ly : ys.length = xs.length := rr.length.symm
    have lt : a < s.heap.objs.size := by obtain ⟨o, q, _⟩ := hl; exact Heap.lt_size q
    have hne : a ≠ s.heap.objs.size := Nat.ne_of_lt lt
    rw [PyProof.Rows.assign_Tuple]
    refine wpAny_bind (wpAny_standAt ?_)
    unfold unpack
    rw [hn, hst]
    refine wpAny_bind (wpAny_holding ?_)
    unfold unpackItems notIterableAtAll
    refine wpAny_bind (wpAny_bind (wpAny_specialOf hl.typeIs slot_list_iter.lookup (wpAny_pure ?_)))
    simp only [Bool.false_eq_true, if_false]
    refine wpAny_bind (wpAny_holding (wpAny_pyIter_list hl (wpAny_bind (wpAny_holding (PySem.W.kun_draw hne 1 0 _ _ ⟨_, Heap.get?_push_size _ rfl, rfl, rfl⟩ (hl.push _) (by simp) fun h1 it1 sb1 => ?_)))))
    have l1 : h1.IsList a (y :: ys).toArray := (hl.push _).extBut sb1.extBut hne
    have up1 : ∀ b o, s.heap.get? b = some o → h1.get? b = some o := fun b o q => sb1.extBut b o (Nat.ne_of_lt (Heap.lt_size q)) (Heap.get?_push_of_some _ q)
    have z1 : s.heap.objs.size < h1.objs.size := by obtain ⟨o, q, _⟩ := it1; exact Heap.lt_size q
    rw [if_neg (by simp)]
    refine wpAny_bind (wpAny_holding (PySem.W.kun_collect (s := { s with heap := h1 }) (T := "list_iterator") (.inr (.inr (.inl rfl))) (Walks.list (A := X.A.in1) (I.ok.hd hc) s.heap.objs.size a hne _) (fun j u st => st.1.typeIs) (k := 1) (by simp) ⟨it1, l1⟩ z1 (by obtain ⟨o, q, _⟩ := l1; exact Heap.lt_size q) (fun h2 tk keep => ?_) (by rw [sizeLine_eq, List.size_toArray, List.length_cons, ly]; omega)))
    have up2 : ∀ b o, s.heap.get? b = some o → h2.get? b = some o := fun b o q => keep b o (Nat.ne_of_lt (Heap.lt_size q)) (up1 b o q)
    have dr : (y :: ys).toArray.toList.drop 1 = ys := rfl
    rw [dr]
    show wpAny _ _ (if ys.length < 2 - 1 - 1 then _ else _) _ _ _
    rw [if_neg (Nat.not_lt_zero _)]
    have tk0 : ys.length - (2 - 1 - 1) = ys.length := Nat.sub_zero _
    rw [tk0, List.take_length, List.drop_length]
    refine wpAny_bind (wpAny_newList ?_ (by rw [sizeLine_eq, ly]; omega))
    refine wpAny_pure ?_
    have at_ : (h2.push (seqObj "list" ys.toArray 0)).get? h2.objs.size = some (seqObj "list" ys.toArray 0) := Heap.get?_push_size _ rfl
    have J0 : Inv X pins σ H { s with heap := h2, toks := tk } := I.kept (t' := tk) up2
    have J : Inv X pins σ (upd H h2.objs.size (.lst xs)) { s with heap := h2.push (seqObj "list" ys.toArray 0), toks := tk } := by
      refine J0.laid (t' := tk) (o := .lst xs) (fun b o q => Heap.get?_push_of_some _ q) (Nat.le_refl _) ⟨?_, ys, 0, rr, at_⟩
      rw [sizeLine_eq]; omega
    have hf : H h2.objs.size = none := J0.hok.fresh (Nat.le_refl _)
    exact h.run pins _ σ _ [x, .ref h2.objs.size] _ Q J (.cons rx (.cons rfl .nil)) (hw _ hf)
end
end DV
namespace EV
open PySem L2 DV
/-! targets that change the heap -/
abbrev EH := Sl → List O → D → Option (Sl × List O)
abbrev EHs := Sl → List O → List D → Option (Sl × List O)
def hNm (i : Nat) : EH := fun s hp d => some (s.set i (some d), hp)
def hSub (eo ei : EE) : EH := fun s hp d => match eo s hp with
  | .ok (.ref n) hp1 => (match ei s hp1 with
    | .ok (.int k) hp2 => (match hp2[n]? with
      | some (.lst xs) => (match ixN xs.length k with
        | some j => some (s, hp2.set n (.lst (xs.set j d)))
        | none => none)
      | _ => none)
    | _ => none)
  | _ => none
def hNil : EHs := fun s hp ds => match ds with
  | [] => some (s, hp)
  | _ => none
def hCons (g : EH) (gs : EHs) : EHs := fun s hp ds => match ds with
  | d :: ds => (match g s hp d with
    | some (s1, hp1) => gs s1 hp1 ds
    | none => none)
  | _ => none
def hTp (n : Nat) (gs : EHs) : EH := fun s hp d => match d with
  | .tup xs => if xs.length = n then gs s hp xs else none
  | _ => none
/-- a, *b = xs -/
def hSt (gs : EHs) : EH := fun s hp d => match lstR hp d with
  | some (x :: xs) => if xs.length ≤ 16000 then gs s hp [x, .lst xs] else none
  | _ => none
def sAsgH (ea : EE) (g : EH) : ES := fun s hp => match ea s hp with
  | .ok d hp1 => (match g s hp1 d with
    | some (s2, hp2) => .nx s2 hp2
    | none => .bad)
  | .exc x hp1 => .exc x s hp1
  | .bad => .bad
section
variable (K : PySem.W.Frag) (G : Gs) (W : WX)
def SnH (tg : TG) (eg : EH) : Prop := ∀ m b h hp σ s v d s' hp', Ok K G m b h hp → Sls K G m b σ s → RD K G m b v d → eg s hp d = some (s', hp') → ∀ Q : St → Hp → Prop, (∀ σ' m' b' h', Stp m b h m' b' h' → Ok K G m' b' h' hp' → Sls K G m' b' σ' s' → Q σ' h') → tg v σ h Q
def SnHs (tg : TGs) (eg : EHs) : Prop := ∀ m b h hp σ s vs ds s' hp', Ok K G m b h hp → Sls K G m b σ s → RDs K G m b vs ds → eg s hp ds = some (s', hp') → ∀ Q : St → Hp → Prop, (∀ σ' m' b' h', Stp m b h m' b' h' → Ok K G m' b' h' hp' → Sls K G m' b' σ' s' → Q σ' h') → tg vs σ h Q
end
section
variable {K : PySem.W.Frag} {G : Gs} {W : WX} {X : Cx} {m : List Addr} {b h : Hp} {hp : List O} {ea eo ei : EE} {ta to ti : TE} {g : TG} {gs : TGs} {eg : EH} {egs : EHs} {n : Nat}
theorem snH_nm (i : Nat) : SnH K G (gName i) (hNm i) := fun m b h hp σ s v d s' hp' ok sl r e Q q => by
  cases e
  exact q _ m b h (Stp.rfl' ok.sub) ok (sl.set r i)
theorem snHs_nil : SnHs K G gNil hNil := fun m b h hp σ s vs ds s' hp' ok sl r e Q q => by
  cases r with
  | nil => cases e; exact ⟨rfl, q _ m b h (Stp.rfl' ok.sub) ok sl⟩
  | cons _ _ => cases e
theorem snHs_cons (hg : SnH K G g eg) (hr : SnHs K G gs egs) : SnHs K G (gCons g gs) (hCons eg egs) := fun m b h hp σ s vs ds s' hp' ok sl r e Q q => by
  cases r with
  | nil => cases e
  | @cons v vs d ds r rr =>
    unfold hCons at e
    dsimp only at e
    cases e1 : eg s hp d with
    | none => rw [e1] at e; cases e
    | some p =>
      obtain ⟨s1, hp1⟩ := p
      rw [e1] at e
      dsimp only at e
      exact ⟨v, vs, rfl, hg m b h hp σ s v d s1 hp1 ok sl r e1 _ fun σ1 m1 b1 h1 x1 ok1 sl1 => hr m1 b1 h1 hp1 σ1 s1 vs ds s' hp' ok1 sl1 (rr.go x1) e Q fun σ2 m2 b2 h2 x2 => q σ2 m2 b2 h2 (x1.trans x2)⟩
theorem snH_tp (hg : SnHs K G gs egs) : SnH K G (gTup K n gs) (hTp n egs) := fun m b h hp σ s v d s' hp' ok sl r e Q q => by
  cases r with
  | @tup a vs ds sa _ rs =>
    unfold hTp at e
    dsimp only at e
    split at e
    · rename_i hl
      exact ⟨a, vs, rfl, sqT_mono ok.sub sa, by rw [rs.length]; exact hl, hg m b h hp σ s vs ds s' hp' ok sl rs e Q q⟩
    · cases e
  | _ => cases e
theorem snH_sub (ho : SnE K G (fun _ _ _ _ => False) to eo) (hi : SnE K G (fun _ _ _ _ => False) ti ei) : SnH K G (gSub to ti rSetL) (hSub eo ei) := fun m b h hp σ s v d s' hp' ok sl r e Q q => by
  unfold hSub at e
  refine ho m b h hp σ s ok sl _ ?_
  cases e1 : eo s hp with
  | ok d1 hp1 =>
    rw [e1] at e
    cases d1 with
    | ref k =>
      dsimp only at e
      intro w m1 b1 h1 x1 ok1 r1
      refine hi m1 b1 h1 hp1 σ s ok1 (sl.go x1) _ ?_
      cases e2 : ei s hp1 with
      | ok d2 hp2 =>
        rw [e2] at e
        cases d2 with
        | int i =>
          dsimp only at e
          intro y m2 b2 h2 x2 ok2 r2
          cases r2
          cases e3 : hp2[k]? with
          | none => rw [e3] at e; cases e
          | some ob =>
            cases ob with
            | lst xs =>
              rw [e3] at e
              dsimp only at e
              cases e4 : ixN xs.length i with
              | none => rw [e4] at e; cases e
              | some j =>
                rw [e4] at e
                cases e
                obtain ⟨a, vs, ea, em, ha, rv⟩ := ref_at ok2 (r1.go x2) e3
                subst ea
                obtain ⟨ok3, st3⟩ := ok2.mut em e3 (RDs.set ((r.go x1).go x2) j rv)
                exact ⟨a, vs, i, j, rfl, rfl, ha, by rw [rv.length]; exact e4, q _ _ _ _ ((x1.trans x2).trans st3) ok3 (((sl.go x1).go x2).go st3)⟩
            | _ => rw [e3] at e; cases e
        | _ => cases e
      | exc x hp2 => rw [e2] at e; cases e
      | bad => rw [e2] at e; cases e
    | _ => cases e
  | exc x hp1 => rw [e1] at e; cases e
  | bad => rw [e1] at e; cases e
theorem snH_st (hg : SnHs K G gs egs) : SnH K G (gStL K gs) (hSt egs) := fun m b h hp σ s v d s' hp' ok sl r e Q q => by
  unfold hSt at e
  cases e1 : lstR hp d with
  | none => rw [e1] at e; cases e
  | some ys =>
    rw [e1] at e
    match ys, e1, e with
    | [], _, e => cases e
    | x :: xs, e1, e =>
      dsimp only at e
      split at e
      · rename_i hl
        obtain ⟨a, vs, rfl, sa, rs⟩ := lstR_ok ok r e1
        cases rs with
        | @cons v1 vs d1 _ r1 rr =>
          refine ⟨a, v1, vs, rfl, sa, by rw [rr.length]; exact hl, fun p hp0 => ?_⟩
          have F : Fr [] b h (upd b p (.lst vs)) (upd h p (.lst vs)) := Fr.laid ok.sub hp0
          have st : Stp m b h m (upd b p (.lst vs)) (upd h p (.lst vs)) := Stp.pure F
          exact hg _ _ _ hp σ s _ _ s' hp' (ok.pure F) (sl.go st) (.cons (r1.go st) (.cons (.lst upd_same (rr.go st)) .nil)) e Q fun σ2 m2 b2 h2 x2 => q σ2 m2 b2 h2 (st.trans x2)
      · cases e
theorem snS_asgH (ha : SnE K G W ta ea) (hg : SnH K G g eg) : SnS K G W (tAsg ta g) (sAsgH ea eg) := fun m b h hp σ s ok sl Z p => by
  refine ha m b h hp σ s ok sl _ ?_
  unfold sAsgH at p
  cases e : ea s hp with
  | ok d hp1 =>
    rw [e] at p
    dsimp only at p
    intro v m1 b1 h1 x1 ok1 r1
    cases e1 : eg s hp1 d with
    | none => rw [e1] at p; exact p.elim
    | some w =>
      obtain ⟨s2, hp2⟩ := w
      rw [e1] at p
      exact hg m1 b1 h1 hp1 σ s v d s2 hp2 ok1 (sl.go x1) r1 e1 _ fun σ2 m2 b2 h2 x2 ok2 sl2 => p σ2 m2 b2 h2 (x1.trans x2) ok2 sl2
  | exc x hp1 =>
    rw [e] at p
    exact fun cls dx m1 b1 g1 x1 ok1 => p cls dx σ m1 b1 g1 x1 ok1 (sl.go x1)
  | bad => rw [e] at p; exact p.elim
def PXH (K : PySem.W.Frag) (G : Gs) (X : Cx) (tg : Expr) (eg : EH) : Prop := ∃ g, PG X tg g ∧ SnH K G g eg
def PXHs (K : PySem.W.Frag) (G : Gs) (X : Cx) (tgs : List Expr) (eg : EHs) : Prop := ∃ g, PGs X tgs g ∧ SnHs K G g eg
variable {tg e o i : Expr} {tgs : List Expr} {pos p2 sp : Pos} {x : Str} {ev : EE} {k : Nat}
theorem h_nm {j : Nat} (hN : X.N.Nodup) (hi : X.N[j]? = some x) (hx : Loc X.env.scope x) (hf : X.fn x = true ∨ X.env.scope.names.lookup x = some .local := by first | exact .inl rfl | exact .inr rfl | assumption) : PXH K G X (.Name x pos) (hNm j) := ⟨_, pg_name hN hi hx hf, snH_nm j⟩
theorem h_nil : PXHs K G X [] hNil := ⟨_, pgs_nil, snHs_nil⟩
theorem h_cons (h1 : PXH K G X tg eg) (h2 : PXHs K G X tgs egs) (hs : (assignEach (tg :: tgs) X.env).map (·.2) = assign tg X.env :: (assignEach tgs X.env).map (·.2) := by rfl) : PXHs K G X (tg :: tgs) (hCons eg egs) := by
  obtain ⟨a, a1, a2⟩ := h1
  obtain ⟨c, c1, c2⟩ := h2
  exact ⟨_, pgs_cons a1 c1 hs, snHs_cons a2 c2⟩
theorem h_star (h1 : PXH K G X tg eg) (h2 : PXHs K G X tgs egs) (hs : (assignEach (.Starred tg sp :: tgs) X.env).map (·.2) = assign tg X.env :: (assignEach tgs X.env).map (·.2) := by rfl) : PXHs K G X (.Starred tg sp :: tgs) (hCons eg egs) := by
  obtain ⟨a, a1, a2⟩ := h1
  obtain ⟨c, c1, c2⟩ := h2
  exact ⟨_, pgs_star a1 c1 hs, snHs_cons a2 c2⟩
theorem h_tp (n : Nat) (hK : X.K = K) (hc : X.calm = true) (h : PXHs K G X tgs egs) (hn : (assignEach tgs X.env).length = n := by rfl) (hst : (assignEach tgs X.env).findIdx? (·.1) = none := by rfl) : PXH K G X (.Tuple tgs k pos) (hTp n egs) := by
  subst hK
  obtain ⟨c, c1, c2⟩ := h
  exact ⟨_, pg_tup hc c1 hn hst, snH_tp c2⟩
theorem h_st2 {t2 : Expr} (hK : X.K = K) (hc : X.calm = true) (h : PXHs K G X [tg, .Starred t2 sp] egs) (hn : (assignEach [tg, .Starred t2 sp] X.env).length = 2 := by rfl) (hst : (assignEach [tg, .Starred t2 sp] X.env).findIdx? (·.1) = some 1 := by rfl) : PXH K G X (.Tuple [tg, .Starred t2 sp] k pos) (hSt egs) := by
  subst hK
  obtain ⟨c, c1, c2⟩ := h
  exact ⟨_, pg_stL hc c1 hn hst, snH_st c2⟩
theorem h_sub (ho : PX K G (fun _ _ _ _ => False) X o eo) (hi : PX K G (fun _ _ _ _ => False) X i ei) (hass : ∀ v, assign (.Subscript o i p2) X.env v = (do let ov ← holding [v] (eval o X.env); let iv ← holding [v, ov] (eval i X.env); standAt p2; holding [v, ov, iv] (setItem ov iv v); release [v, ov, iv] []) := by intro _; rfl) : PXH K G X (.Subscript o i p2) (hSub eo ei) :=
  ⟨_, pg_sub ho hi set_list hass, snH_sub sn_of sn_of⟩
theorem xs_asgH (h : PX K G W X e ev) (hg : PXH K G X tg eg) (hs : swapsWithSole [tg] e pos.line X.env = pure false := by rfl) (hw : swappedStores [tg] e X.env = pure none := by rfl)
    (h1 : (assignEach [tg] X.env).map (·.2) = [assign tg X.env] := by rfl) : PXS K G W X (.Assign [tg] e pos) (sAsgH ev eg) := by
  obtain ⟨c, c1, c2⟩ := hg
  exact pxS (ps_asg h c1 hs hw h1) (snS_asgH sn_of c2)
end
end EV

/-! lists made longer by a list, popped at a place; join, str(n); min(xs, default=d) -/
namespace EV
open PySem L2 DV PyProof.Rows
def eExtS (eo ea : EE) : EE := fun s hp => match eo s hp with
  | .ok (.ref n) hp1 => if isLst hp1[n]? then (match ea s hp1 with
    | .ok d hp2 => (match lstR hp2 d, hp2[n]?, (match d with | .frz _ => true | _ => false) with
      | some ys, some (.lst xs), false => if xs.length + ys.length ≤ 100000 then .ok .non (hp2.set n (.lst (xs ++ ys))) else .bad
      | _, _, _ => .bad)
    | .exc x hp2 => .exc x hp2
    | _ => .bad) else .bad
  | .exc x hp1 => .exc x hp1
  | _ => .bad
def eLPop (eo ei : EE) : EE := fun s hp => match eo s hp with
  | .ok (.ref n) hp1 => if isLst hp1[n]? then (match ei s hp1 with
    | .ok (.int i) hp2 => (match hp2[n]? with
      | some (.lst xs) => if -(2 ^ 63) ≤ i ∧ i < 2 ^ 63 then (match seqIndex? i xs.length with
        | some k => (match xs[k]? with
          | some d => .ok d (hp2.set n (.lst (xs.eraseIdx k)))
          | none => .bad)
        | none => .bad) else .bad
      | _ => .bad)
    | .exc x hp2 => .exc x hp2
    | _ => .bad) else .bad
  | .exc x hp1 => .exc x hp1
  | _ => .bad
def strsD : List D → Option (List Str)
  | [] => some []
  | .str x :: r => (strsD r).map (x :: ·)
  | _ :: _ => none
def fJoin (x : Str) (ds : List D) : Option D := match ds with
  | [d] => (stillS d).bind fun xs => (strsD xs).bind fun ys => if (ys.map (·.length)).sum + ys.length * x.length ≤ 16777216 then some (.str (Txt.join x ys)) else none
  | _ => none
def fStr (hp : List O) (ds : List D) : Option D := match ds with
  | [.int i] => if wide i then some (.str (toString i)) else none
  | [.str x] => some (.str x)
  | _ => none
def fMinD (hp : List O) (d dz : D) : Option D := (lstR hp d).bind fun xs => (intsD xs).bind fun is => match minL is with
  | some m => some (.int m)
  | none => some dz
def eMinD (ea ez : EE) : EE := fun s hp => match ea s hp with
  | .ok d hp1 => (match ez s hp1 with
    | .ok dz hp2 => (match fMinD hp2 d dz with
      | some r => .ok r hp2
      | none => .bad)
    | .exc x hp2 => .exc x hp2
    | .bad => .bad)
  | .exc x hp1 => .exc x hp1
  | .bad => .bad
def fSum (hp : List O) (ds : List D) : Option D := match ds with
  | [d] => (lstR hp d).bind fun xs => (intsD xs).map fun is => .int is.sum
  | _ => none
section
variable {K : PySem.W.Frag} {G : Gs} {W : WX} {m : List Addr} {b h : Hp} {hp : List O} {ea eb eo ei : EE} {er : EA} {ta tb to ti : TE} {tr : TA} {X : Cx}
theorem RDs.erase : ∀ {vs : List V} {ds : List D} (k : Nat), RDs K G m b vs ds → RDs K G m b (vs.eraseIdx k) (ds.eraseIdx k)
  | _, _, _, .nil => .nil
  | _, _, 0, .cons _ hs => hs
  | _, _, k + 1, .cons x hs => .cons x (RDs.erase k hs)
theorem rds_strs : ∀ {vs : List V} {ds : List D} {ys : List Str}, RDs K G m b vs ds → strsD ds = some ys → vs = ys.map V.str
  | _, _, _, .nil, e => by cases e; rfl
  | _, d :: ds, _, .cons r rs, e => by
    cases d with
    | str x =>
      unfold strsD at e
      obtain ⟨zs, e1, e2⟩ := Option.map_eq_some_iff.mp e
      subst e2
      cases r
      rw [rds_strs rs e1]
      rfl
    | _ => cases e
theorem sn_extS (ho : SnE K G W to eo) (ha : SnE K G W ta ea) : SnE K G W (tBM K "list" rExtend to (tCons ta tNil)) (eExtS eo ea) := fun m b h hp σ s ok sl Q p => by
  refine ho m b h hp σ s ok sl _ ?_
  unfold eExtS at p
  cases e : eo s hp with
  | ok d hp1 =>
    rw [e] at p
    cases d with
    | ref n =>
      dsimp only at p
      by_cases il : isLst hp1[n]? = true
      case neg => rw [if_neg il] at p; exact p.elim
      rw [if_pos il] at p
      obtain ⟨ws, e1⟩ := isLst_of il
      intro v m1 b1 h1 x1 ok1 r1
      cases r1 with
      | @ref a _ em =>
        obtain ⟨_, us, hu, _⟩ := ok1.ob n a _ em e1
        refine ⟨.inl ⟨rfl, us, .inl (.inl hu)⟩, ?_⟩
        refine ha m1 b1 h1 hp1 σ s ok1 (sl.go x1) _ ?_
        cases e2 : ea s hp1 with
        | ok d2 hp2 =>
          rw [e2] at p
          dsimp only at p
          intro w m2 b2 h2 x2 ok2 r2
          split at p
          case h_2 => exact p.elim
          rename_i ys xs e3 o2 nf
          split at p
          case isFalse => exact p.elim
          rename_i hc
          have r3 : RD K G m2 b2 (.ref a) (.ref n) := (RD.ref em).go x2
          obtain ⟨a', vs, ea', em2, ha2, rv⟩ := ref_at ok2 r3 o2
          cases ea'
          have lies : ∃ c zs, w = .ref c ∧ h2 c = some (.lst zs) ∧ RDs K G m2 b2 zs ys := by
            cases d2 with
            | frz _ => cases nf
            | lst us =>
              cases e3
              cases r2 with
              | lst q1 q2 => exact ⟨_, _, rfl, ok2.sub _ _ q1, q2⟩
            | ref j =>
              refine lstOf_ok ok2 r2 ?_
              exact e3
            | _ => cases e3
          obtain ⟨c, zs, rfl, hc2, rz⟩ := lies
          obtain ⟨ok3, st3⟩ := ok2.mut em2 o2 (rv.append rz)
          refine ⟨a, c, vs, zs, rfl, rfl, ha2, hc2, ?_, p _ _ _ _ ((x1.trans x2).trans st3) ok3 .non⟩
          rw [rv.length, rz.length]; exact Nat.le_trans hc (by decide)
        | exc x hp2 =>
          rw [e2] at p
          exact fun c dx m2 b2 h2 x2 => p c dx m2 b2 h2 (x1.trans x2)
        | bad => rw [e2] at p; exact p.elim
    | _ => exact p.elim
  | exc x hp1 => rw [e] at p; exact p
  | bad => rw [e] at p; exact p.elim
theorem sn_lpop (ho : SnE K G W to eo) (ha : SnE K G W ti ei) : SnE K G W (tBM K "list" rPopAt to (tCons ti tNil)) (eLPop eo ei) := fun m b h hp σ s ok sl Q p => by
  refine ho m b h hp σ s ok sl _ ?_
  unfold eLPop at p
  cases e : eo s hp with
  | ok d hp1 =>
    rw [e] at p
    cases d with
    | ref n =>
      dsimp only at p
      by_cases il : isLst hp1[n]? = true
      case neg => rw [if_neg il] at p; exact p.elim
      rw [if_pos il] at p
      obtain ⟨ws, e1⟩ := isLst_of il
      intro v m1 b1 h1 x1 ok1 r1
      cases r1 with
      | @ref a _ em =>
        obtain ⟨_, us, hu, _⟩ := ok1.ob n a _ em e1
        refine ⟨.inl ⟨rfl, us, .inl (.inl hu)⟩, ?_⟩
        refine ha m1 b1 h1 hp1 σ s ok1 (sl.go x1) _ ?_
        cases e2 : ei s hp1 with
        | ok d2 hp2 =>
          rw [e2] at p
          cases d2 with
          | int i =>
            dsimp only at p
            intro w m2 b2 h2 x2 ok2 r2
            cases r2
            cases o2 : hp2[n]? with
            | none => rw [o2] at p; exact p.elim
            | some ob =>
              cases ob with
              | lst xs =>
                rw [o2] at p
                dsimp only at p
                split at p
                case isFalse => exact p.elim
                rename_i hi
                split at p
                case h_2 => exact p.elim
                rename_i k hk
                split at p
                case h_2 => exact p.elim
                rename_i y hy
                have r3 : RD K G m2 b2 (.ref a) (.ref n) := (RD.ref em).go x2
                obtain ⟨a', vs, ea', em2, ha2, rv⟩ := ref_at ok2 r3 o2
                cases ea'
                obtain ⟨u, hu, ru⟩ := rv.get hy
                obtain ⟨ok3, st3⟩ := ok2.mut em2 o2 (rv.erase k)
                exact ⟨a, vs, i, k, u, rfl, rfl, ha2, hi.1, hi.2, by rw [rv.length]; exact hk, hu, p _ _ _ _ ((x1.trans x2).trans st3) ok3 (ru.go st3)⟩
              | _ => rw [o2] at p; exact p.elim
          | _ => exact p.elim
        | exc x hp2 =>
          rw [e2] at p
          exact fun c dx m2 b2 h2 x2 => p c dx m2 b2 h2 (x1.trans x2)
        | bad => rw [e2] at p; exact p.elim
    | _ => exact p.elim
  | exc x hp1 => rw [e] at p; exact p
  | bad => rw [e] at p; exact p.elim
theorem sm_join : SmOk K G (fun x xs H Q => ∃ a p, ∃ ys : List Str, x = .str a ∧ xs = [.ref p] ∧ (SqL K H p (ys.map V.str) ∨ SqT K H p (ys.map V.str)) ∧ (ys.map (·.length)).sum + ys.length * a.length ≤ 16777216 ∧ Q (.str (Txt.join a ys)) H) fJoin := fun m b h hp x xs ds d ok r e Q q => by
  match ds, r, e with
  | [d1], r, e =>
    obtain ⟨v, rfl, r1⟩ := r.len1
    obtain ⟨zs, e1, e⟩ := Option.bind_eq_some_iff.mp e
    obtain ⟨ys, e2, e⟩ := Option.bind_eq_some_iff.mp e
    split at e
    case isFalse => cases e
    rename_i hz
    cases e
    obtain ⟨t, a, vs, rfl, sa, rs⟩ := stillS_ok r1 e1
    have := rds_strs rs e2
    subst this
    refine ⟨x, a, ys, rfl, rfl, ?_, hz, q _ b h (Fr.rfl' ok.sub) (.str _)⟩
    cases t
    · exact .inl (sqL_mono ok.sub sa)
    · exact .inr (sqT_mono ok.sub sa)
theorem ok_str : BiOk K G (fun xs H Q => (∃ i : Int, xs = [.int i] ∧ i.natAbs.log2 < 1920 ∧ Q (.str (toString i)) H) ∨ ∃ a, xs = [.str a] ∧ Q (.str a) H) fStr := fun m b h hp xs ds d ok r e Q q => by
  unfold fStr at e
  split at e
  · rename_i i
    split at e
    · rename_i hw
      cases e
      obtain ⟨v, rfl, r1⟩ := r.len1
      cases r1
      refine .inl ⟨i, rfl, ?_, q _ b h (Fr.rfl' ok.sub) (.str _)⟩
      have hw := of_decide_eq_true hw
      rcases Nat.eq_zero_or_pos i.natAbs with z | z
      · rw [z]; decide
      · refine Nat.lt_of_lt_of_le ((Nat.log2_lt (Nat.pos_iff_ne_zero.mp z)).mpr hw) (by decide)
    · cases e
  · rename_i x
    cases e
    obtain ⟨v, rfl, r1⟩ := r.len1
    cases r1
    exact .inr ⟨x, rfl, q _ b h (Fr.rfl' ok.sub) (.str _)⟩
  · cases e
theorem CallR_or {f : Value} {r1 r2 : List V → Hp → VK → Prop} (h1 : CallR X f r1) (h2 : CallR X f r2) : CallR X f (fun xs H Q => r1 xs H Q ∨ r2 xs H Q) := fun pins s σ H xs us Q I r e => e.elim (h1 pins s σ H xs us Q I r) (h2 pins s σ H xs us Q I r)
theorem str_ok' : CallR X (.type "str") (fun xs H Q => (∃ i : Int, xs = [.int i] ∧ i.natAbs.log2 < 1920 ∧ Q (.str (toString i)) H) ∨ ∃ a, xs = [.str a] ∧ Q (.str a) H) := CallR_or call_str_int SkE.call_str_str
theorem ok_sum : BiOk K G (rSum K) fSum := fun m b h hp xs ds d ok r e Q q => by
  match ds, e with
  | [d1], e =>
    obtain ⟨v, rfl, r1⟩ := r.len1
    obtain ⟨ys, e1, e⟩ := Option.bind_eq_some_iff.mp e
    obtain ⟨is, e2, e⟩ := Option.map_eq_some_iff.mp e
    subst e
    obtain ⟨a, vs, rfl, s, qa⟩ := lstR_ok ok r1 e1
    have := rds_ints qa e2
    subst this
    exact ⟨a, is, rfl, s, q _ b h (Fr.rfl' ok.sub) (.int _)⟩
theorem sum_ok' (hK : X.K = K) (hc : X.calm = true) : CallR X (.builtin "sum") (rSum K) := by subst hK; exact cr_sum hc
/-! min(xs, default=d) -/
theorem fold_min (n : Int) : ∀ ns : List Int, (ns.foldl min n ∈ n :: ns) ∧ ∀ y ∈ n :: ns, ns.foldl min n ≤ y := fun ns => by
  induction ns generalizing n with
  | nil => exact ⟨List.mem_cons_self, fun y hy => by rw [List.mem_singleton.mp hy]; exact Int.le_refl _⟩
  | cons k r ih =>
    obtain ⟨i1, i2⟩ := ih (min n k)
    have b := i2 (min n k) List.mem_cons_self
    rw [List.foldl_cons]
    refine ⟨?_, fun y hy => ?_⟩
    · rcases List.mem_cons.mp i1 with z | z
      · rw [z]
        rcases Int.le_total n k with c | c
        · rw [Int.min_eq_left c]; exact List.mem_cons_self
        · rw [Int.min_eq_right c]; exact List.mem_cons_of_mem _ List.mem_cons_self
      · exact List.mem_cons_of_mem _ (List.mem_cons_of_mem _ z)
    · rcases List.mem_cons.mp hy with z | z
      · subst z; exact Int.le_trans b (Int.min_le_left _ _)
      · rcases List.mem_cons.mp z with z | z
        · subst z; exact Int.le_trans b (Int.min_le_right _ _)
        · exact i2 y (List.mem_cons_of_mem _ z)
theorem reads_ints {z : Heap} : ∀ {us : List Value} {ns : List Int}, Vals (ns.map V.int) us → PySem.ReadsAll z us (ns.map PyData.int) []
  | _, [], .nil => .nil
  | _, n :: ns, .cons r rs => by
    obtain ⟨t, rfl⟩ := r
    exact PySem.ReadsAll.cons (as := []) (bs := []) (.int _ _) (reads_ints rs)
def rMinDf (K : PySem.W.Frag) : List V → List V → Hp → VK → Prop := fun vs zs H Q => ∃ (a : Addr) (ns : List Int) (d : V), vs = [V.ref a] ∧ zs = [d] ∧ SqL K H a (ns.map V.int) ∧ (ns = [] → Q d H) ∧ ∀ m, m ∈ ns → (∀ y, y ∈ ns → m ≤ y) → Q (.int m) H
theorem ck_min (hc : X.calm = true) (hu : X.A.units + 64 < cLine) : CallRK X (.builtin "min") [Str.ofString "default"] (rMinDf X.K) := by
  rintro pins s σ H vs zs us ws Q I r rz ⟨a, ns, d, rfl, rfl, hs, q0, q⟩
  obtain ⟨its, rv, hl, _⟩ := I.list hs
  rw [Vals.ref1 r]
  obtain ⟨u, rfl, ru⟩ := vals1 rz
  show wpAny _ _ (call (.builtin "min") [.ref a] [(Str.ofString "default", u)]) _ _ _
  refine PySem.W.min_list_default (I.ok.hd hc) hl.isList (by rw [List.toList_toArray]; exact reads_ints rv) (PySem.W.alikeAll_datum ns) ?_ (fun e z tk k => ?_) fun y ys i v z tk bs e _ rd k => ?_
  · have := PySem.W.depthAll_map (α := Int) ns
    have z : (PySem.W.Datum.depth Int) = 0 := rfl
    rw [z] at this
    have w : PyData.depthAll (ns.map PyData.int) = 0 := Nat.le_zero.mp this
    show X.A.units + 1 + PyData.depthAll (ns.map PyData.int) < cLine
    rw [w]
    omega
  · exact ⟨d, H, I.kept k, ru, q0 (List.map_eq_nil_iff.mp e)⟩
  · cases ns with
    | nil => cases e
    | cons n ns =>
      cases e
      have rd : PySem.Reads z v (PySem.W.minD (PyData.int n) (ns.map PyData.int)) bs := rd
      rw [PySem.W.minD_ints] at rd
      cases rd
      obtain ⟨w1, w2⟩ := fold_min n ns
      exact ⟨.int _, H, I.kept k, ⟨_, rfl⟩, q _ w1 w2⟩
theorem minL_none : ∀ {is : List Int}, minL is = none → is = []
  | [], _ => rfl
  | i :: r, e => by
    unfold minL at e
    cases e1 : minL r with
    | none => rw [e1] at e; cases e
    | some j => rw [e1] at e; cases e
theorem sn_minD (ha : SnE K G W ta ea) (hb : SnE K G W tb eb) : SnE K G W (tCKw (rMinDf K) (tCons ta tNil) (tCons tb tNil)) (eMinD ea eb) := fun m b h hp σ s ok sl Q p => by
  refine ha m b h hp σ s ok sl _ ?_
  unfold eMinD at p
  cases e : ea s hp with
  | ok d1 hp1 =>
    rw [e] at p
    dsimp only at p
    intro v m1 b1 h1 x1 ok1 r1
    refine hb m1 b1 h1 hp1 σ s ok1 (sl.go x1) _ ?_
    cases e1 : eb s hp1 with
    | ok d2 hp2 =>
      rw [e1] at p
      dsimp only at p
      intro w m2 b2 h2 x2 ok2 r2
      cases e2 : fMinD hp2 d1 d2 with
      | none => rw [e2] at p; exact p.elim
      | some r =>
        rw [e2] at p
        obtain ⟨xs, f1, f2⟩ := Option.bind_eq_some_iff.mp e2
        obtain ⟨is, f3, f4⟩ := Option.bind_eq_some_iff.mp f2
        obtain ⟨a, vs, rfl, sa, qa⟩ := lstR_ok ok2 (r1.go x2) f1
        have := rds_ints qa f3
        subst this
        refine ⟨a, is, w, rfl, rfl, sa, fun z => ?_, fun k hk hall => ?_⟩
        · subst z
          cases f4
          exact p _ m2 b2 h2 (x1.trans x2) ok2 r2
        · cases f5 : minL is with
          | none => rw [minL_none f5] at hk; cases hk
          | some k0 =>
            rw [f5] at f4
            cases f4
            obtain ⟨g1, g2⟩ := minL_ok f5
            have : k = k0 := Int.le_antisymm (hall _ g1) (g2 _ hk)
            subst this
            exact p _ m2 b2 h2 (x1.trans x2) ok2 (.int _)
    | exc x hp2 =>
      rw [e1] at p
      exact fun c dx m2 b2 h2 x2 => p c dx m2 b2 h2 (x1.trans x2)
    | bad => rw [e1] at p; exact p.elim
  | exc x hp1 => rw [e] at p; exact p
  | bad => rw [e] at p; exact p.elim
variable {x : Str} {p pos apos cpos kpos : Pos} {a e : Expr}
theorem xminD (hK : X.K = K) (hc : X.calm = true) (hu : X.A.units + 64 < cLine) (hg : Gl X "min") (hm : X.mg "min" = none) (ha : PX K G W X a ea) (hb : PX K G W X e eb)
    (hs : starEach [a] X.env = (false, eval a X.env) :: starEach [] X.env := by rfl)
    (he : backTo pos (starEach [a] X.env) = (false, eval a X.env) :: backTo pos (starEach [] X.env) := by rfl) (hpl : (backTo pos (starEach [a] X.env)).any (·.1) = false := by rfl)
    (hall : (backToKw pos (keywordEach [⟨some (Str.ofString "default"), e, kpos⟩] X.env)).all (·.1.isSome) = true := by rfl) (hnone : (backToKw pos (keywordEach [⟨some (Str.ofString "default"), e, kpos⟩] X.env)).any (·.1.isNone) = false := by rfl) (hks : (backToKw pos (keywordEach [⟨some (Str.ofString "default"), e, kpos⟩] X.env)).filterMap (·.1) = [Str.ofString "default"] := by rfl) :
    PX K G W X (.Call (.Name "min" p) [a] [⟨some (Str.ofString "default"), e, kpos⟩] pos) (eMinD ea eb) := by
  subst hK
  exact px (pe_callBK (ck_min hc hu) hg hm (by decide +kernel) (pa_cons ha pa_nil hs) (pk_cons hb pk_nil) (by decide) (by decide) he hpl hall hnone hks) (sn_minD sn_of sn_of)
theorem xext {b : Expr} (hK : X.K = K) (ho : PX K G W X a ea) (hb : PX K G W X b eb) (hbase : attributeBase a "extend" X.env (eval a X.env) = eval a X.env := by rfl)
    (hfew : ((backTo cpos (starEach [b] X.env)).all (fun x => !x.1) && (backToKw cpos (keywordEach [] X.env)).all (fun x => x.1.isSome)
      && decide ([b].length + ([] : List Keyword).length + (if ([] : List Keyword).isEmpty then 0 else 1) < 30)) = true := by rfl)
    (hline : (apos.endLine == cpos.line) = true := by rfl) (hs : starEach [b] X.env = (false, eval b X.env) :: starEach [] X.env := by rfl) (hplain : (backTo cpos (starEach ([] : List Expr) X.env)).any (·.1) = false := by rfl) : PX K G W X (.Call (.Attribute a "extend" apos) [b] [] cpos) (eExtS ea eb) := by
  subst hK
  exact px (pe_bm PySem.F.plainAttrs_list PySem.F.slot_list_extend PySem.F.type_list_extend mt_extend ho (pa_cons hb pa_nil hs) hbase hfew hline hs hplain) (sn_extS sn_of sn_of)
theorem xlpop {b : Expr} (hK : X.K = K) (ho : PX K G W X a ea) (hb : PX K G W X b eb) (hbase : attributeBase a "pop" X.env (eval a X.env) = eval a X.env := by rfl)
    (hfew : ((backTo cpos (starEach [b] X.env)).all (fun x => !x.1) && (backToKw cpos (keywordEach [] X.env)).all (fun x => x.1.isSome)
      && decide ([b].length + ([] : List Keyword).length + (if ([] : List Keyword).isEmpty then 0 else 1) < 30)) = true := by rfl)
    (hline : (apos.endLine == cpos.line) = true := by rfl) (hs : starEach [b] X.env = (false, eval b X.env) :: starEach [] X.env := by rfl) (hplain : (backTo cpos (starEach ([] : List Expr) X.env)).any (·.1) = false := by rfl) : PX K G W X (.Call (.Attribute a "pop" apos) [b] [] cpos) (eLPop ea eb) := by
  subst hK
  exact px (pe_bm PySem.F.plainAttrs_list PySem.F.slot_list_pop PySem.F.type_list_pop mt_popAt ho (pa_cons hb pa_nil hs) hbase hfew hline hs hplain) (sn_lpop sn_of sn_of)
end
end EV

/-! xs[a::k]; list(range(n)); clauses of a try that name nothing -/
namespace EV
open PySem L2 DV PyProof PyProof.Rows
def pickN {α : Type} (xs : List α) (lo st : Option Int) : List α := (sliceRange (sliceBounds lo none st xs.length).1 (sliceBounds lo none st xs.length).2.1 (sliceBounds lo none st xs.length).2.2).filterMap fun i => xs[i]?
theorem vals_pick {xs : List V} {us : List Value} (r : Vals xs us) : ∀ l : List Nat, Vals (l.filterMap fun i => xs[i]?) (l.filterMap fun i => us[i]?)
  | [] => .nil
  | i :: l => by
    have ih := vals_pick r l
    rw [List.filterMap_cons, List.filterMap_cons]
    have ln := r.length
    cases e : xs[i]? with
    | none =>
      have : us[i]? = none := by
        rw [List.getElem?_eq_none_iff] at e ⊢
        omega
      rw [this]
      exact ih
    | some y =>
      obtain ⟨u, e1, ru⟩ := r.get e
      rw [e1]
      exact .cons ru ih
theorem rds_pick {K : PySem.W.Frag} {G : Gs} {m : List Addr} {b : Hp} {vs : List V} {ds : List D} (r : RDs K G m b vs ds) : ∀ l : List Nat, RDs K G m b (l.filterMap fun i => vs[i]?) (l.filterMap fun i => ds[i]?)
  | [] => .nil
  | i :: l => by
    have ih := rds_pick r l
    rw [List.filterMap_cons, List.filterMap_cons]
    have ln := r.length
    cases e : ds[i]? with
    | none =>
      have : vs[i]? = none := by
        rw [List.getElem?_eq_none_iff] at e ⊢
        omega
      rw [this]
      exact ih
    | some d =>
      obtain ⟨v, e1, rv⟩ := r.get e
      rw [e1]
      exact .cons rv ih
def tStep (K : PySem.W.Frag) (k : Int) (te tl : TE) : TE := fun σ H Q => te σ H fun x H1 => tPart tl σ H1 fun o H2 => ∃ a xs, x = .ref a ∧ SqL K H2 a xs ∧ (pickN xs o (some k)).length ≤ 16000 ∧ ∀ p, H2 p = none → Q (.ref p) (upd H2 p (.lst (pickN xs o (some k))))
end EV
namespace DV
open PySem PySem.Spec L2 PyProof PyProof.Rows EV
section
variable {X : L2.Cx}
theorem pe_step {e l : Expr} {te tl : TE} {k : Int} {j : Nat} {p1 p2 pos : Pos} (h0 : some k ≠ some 0) (he : PE X e te) (hl : PE X l tl) : PE X (.Subscript e (.Slice (some l) none (some (.Constant (.int k) j p1)) p2) pos) (tStep X.K k te tl) := by
  refine ⟨fun pins s σ H Q I hq => ?_⟩
  refine Subscript_ (thn (he.run pins s σ H _ I hq) fun v t1 ⟨x, H1, J1, r1, q1⟩ => ?_)
  have hst : PO X (some (.Constant (.int k) j p1)) (tPart (tC (.int k))) := po_some pe_int
  refine wpAny_Slice (thn ((po_some hl).run pins t1 σ H1 (fun o G => ∃ a xs, x = .ref a ∧ SqL X.K G a xs ∧ (pickN xs o (some k)).length ≤ 16000 ∧ ∀ p, G p = none → Q (.ref p) (upd G p (.lst (pickN xs o (some k))))) J1 q1) fun v1 t2 ⟨o1, H2, J2, w1, a, xs, ex, sq, z, q⟩ => ?_)
  subst ex
  cases r1
  refine thn (po_none.run pins t2 σ H2 (fun o G => o = none ∧ G = H2) J2 ⟨rfl, rfl⟩) fun v2 t3 ⟨u, H3, J3, w2, eu, e3⟩ => ?_
  subst eu e3
  refine thn (hst.run pins t3 σ H3 (fun o G => o = some k ∧ G = H3) J3 ⟨k, rfl, rfl, rfl⟩) fun v3 t4 ⟨o, H4, J4, w3, eo, e4⟩ => ?_
  subst eo e4
  cases w2
  have J5 : Inv X pins σ H4 { t4 with heap := t4.heap.push { cls := .type "slice", data := .fields #[v1, .none, v3] } } := J4.kept (t' := t4.toks) fun b ob q => Heap.get?_push_of_some _ q
  obtain ⟨its, r, ht, hz⟩ := J5.list sq
  have hlen := r.length
  show wpAny (model X.prog X.w) X.A (subscriptTail e (.Slice (some l) none (some (.Constant (.int k) j p1)) p2) (.ref a) (.ref t4.heap.objs.size)) (EP X pins σ Q) X.xe { t4 with heap := t4.heap.push { cls := .type "slice", data := .fields #[v1, .none, v3] } }
  refine tail_any (ops := [.ref a, .ref t4.heap.objs.size]) ht.isList.typeIs slot_list_getitem.lookup ?_ (by with_unfolding_all rfl)
  refine wpAny_getItem_list_slice ht.isList (Heap.IsSliceOf.new _ v1 .none v3) w1 .none w3 h0 ?_ (by rw [List.size_toArray]; omega)
  have e5 : slicePick its.toArray o1 none (some k) = (pickN its o1 (some k)).toArray := by
    unfold slicePick pickN
    rw [List.size_toArray]
    congr 1
    exact fm_congr' fun m _ => by rw [List.getElem?_toArray]
  rw [e5]
  have rp : Vals (pickN xs o1 (some k)) (pickN its o1 (some k)) := by
    unfold pickN
    rw [hlen]
    exact vals_pick r _
  refine ⟨.ref _, _, J5.laid (t' := t4.toks) (o := .lst (pickN xs o1 (some k))) (fun b ob q => Heap.get?_push_of_some _ q) (Nat.le_refl _) ?_, rfl, q _ (J5.hok.fresh (Nat.le_refl _))⟩
  exact ⟨by rw [sizeLine_eq]; omega, _, 0, rp, Heap.get?_push_size _ rfl⟩
end
end DV
namespace EV
open PySem L2 DV PyProof PyProof.Rows
def eStep (k : Int) (ea el : EE) : EE := fun s hp => match ea s hp with
  | .ok d hp1 => (match el s hp1 with
    | .ok (.int i) hp2 => (match lstR hp2 d with
      | some xs => if (pickN xs (some i) (some k)).length ≤ 16000 then .ok (.lst (pickN xs (some i) (some k))) hp2 else .bad
      | none => .bad)
    | .exc x hp2 => .exc x hp2
    | _ => .bad)
  | .exc x hp1 => .exc x hp1
  | .bad => .bad
def eLstRg1 (ea : EE) : EE := fun s hp => match ea s hp with
  | .ok (.int j) hp1 => if numOk j then .ok (.lst ((List.range j.toNat).map fun (k : Nat) => .int (0 + (k : Int)))) hp1 else .bad
  | .exc x hp1 => .exc x hp1
  | _ => .bad
abbrev Hn := (Nat → Option Bool) × ES
def catchN (x : Xc) : List Hn → Sl → List O → RS
  | [], s, hp => .exc x s hp
  | (mt, su) :: r, s, hp => match mt x.c with
    | some true => (match su s hp with
      | .exc _ _ _ => .bad
      | z => z)
    | some false => catchN x r s hp
    | none => .bad
def sTryN (body : ES) (hs : List Hn) : ES := fun s hp => match body s hp with
  | .nx s1 hp1 => .nx s1 hp1
  | .rt d hp1 => .rt d hp1
  | .bk s1 hp1 => .bk s1 hp1
  | .ct s1 hp1 => .ct s1 hp1
  | .exc x s1 hp1 => catchN x hs s1 hp1
  | .bad => .bad
inductive HdsN (K : PySem.W.Frag) (G : Gs) (X : Cx) : List ExceptHandler → List Hn → Prop
  | nil : HdsN K G X [] []
  | cons {x : Str} {C : Addr} {mt : Nat → Option Bool} {su : ES} {b₀ : Stmt} {suite : List Stmt} {np pos' : Pos} {hds : List ExceptHandler} {l : List Hn} (hc : Names X x (.ref C))
      (hm : ∀ c b, mt c = some b → PySem.W.exmOne K (.ref (G.ca c)) (.ref C) = some b)
      (hsu : ∀ (a : Addr) (oe : Obj) (cls : Value) (d : Option Addr) (pn : List (Addr × Obj)), Zc cls d oe → (∃ vs, oe.data = .fields vs) → PXB K G (fun _ _ _ _ => False) (X.suite a ((a, oe) :: pn)) (b₀ :: suite) su) (r : HdsN K G X hds l) :
      HdsN K G X (.ExceptHandler (some (.Name x np)) none (b₀ :: suite) pos' :: hds) ((mt, su) :: l)
section
variable {K : PySem.W.Frag} {G : Gs} {W : WX} {X : Cx} {body : List Stmt} {h₀ : ExceptHandler} {hds : List ExceptHandler} {pos : Pos} {ev : ES} {hs : List Hn} {ea eb el : EE} {ta tb tl : TE}
theorem hdsN_go {hds : List ExceptHandler} {hs : List Hn} (hh : HdsN K G X hds hs) : ∃ l, HdsOk X hds l ∧ ∀ (x : Xc) (s : Sl) (hp : List O) (σ : L2.St) (m : List Addr) (b h : Hp) (cls : Value) (d : Option Addr) (Z : Ends) (W : WX),
    Ok K G m b h hp → Sls K G m b σ s → XR K G m b h x cls d → PostS K G m b h (catchN x hs s hp) Z W → wMany K W Z l cls d σ h := by
  induction hh with
  | nil => exact ⟨[], .nil, fun x s hp σ m b h cls d Z W ok sl xr p => p cls d σ m b h (Stp.rfl' ok.sub) ok sl xr⟩
  | @cons x C mt su b₀ suite np pos' hds l hc hm hsu r ih =>
    obtain ⟨l2, h2, go⟩ := ih
    refine ⟨(.ref C, fun a cls d => tOfS K G (fun _ _ _ _ => False) su) :: l2, .cons hc hsu h2, fun x s hp σ m b h cls d Z W ok sl xr p => ?_⟩
    unfold catchN at p
    cases e : mt x.c with
    | none => rw [e] at p; exact p.elim
    | some bb =>
      rw [e] at p
      have ex := hm _ _ e
      rw [← xr.1] at ex
      refine ⟨bb, ex, fun eb a ha => ?_, fun eb => ?_⟩
      · subst eb
        dsimp only at p
        refine ⟨m, b, hp, s, ok, sl, ?_⟩
        cases e3 : su s hp with
        | exc x2 s2 hp2 => rw [e3] at p; exact p.elim
        | bad => rw [e3] at p; exact p.elim
        | _ => rw [e3] at p; exact p
      · subst eb
        exact go x s hp σ m b h cls d Z W ok sl xr p
theorem xs_tryN (hK : X.K = K) (hst : X.stack = X.env :: X.outer) (hf : X.env.frame = some X.env.locals) (tk : Takes X W)
    (hb : ∀ (W : WX) (pn : List (Addr × Obj)) (xe : Value → Shared → Prop), Takes (X.tr pn xe) W → PassesOwn (model X.prog X.w) X.A X.env xe → PXB K G W (X.tr pn xe) body ev) (hh : HdsN K G X (h₀ :: hds) hs) :
    PXS K G W X (.Try body (h₀ :: hds) [] [] pos) (sTryN ev hs) := by
  subst hK
  obtain ⟨l, h2, go⟩ := hdsN_go hh
  refine pxS (L2.ps_try_many (tb := fun W => tOfS X.K G W ev) hst hf tk (fun W pn xe t1 t2 => hb W pn xe t1 t2) h2) fun m b h hp σ s ok sl Z p => ?_
  refine ⟨m, b, hp, s, ok, sl, ?_⟩
  unfold sTryN at p
  cases e : ev s hp with
  | nx s1 hp1 => rw [e] at p; exact p
  | rt d hp1 => rw [e] at p; exact p
  | bk s1 hp1 => rw [e] at p; exact p
  | ct s1 hp1 => rw [e] at p; exact p
  | exc x s1 hp1 =>
    rw [e] at p
    exact fun cls dx σ' m' b' h' st ok' sl' xr => go x s1 hp1 σ' m' b' h' cls dx Z W ok' sl' xr (p.go st)
  | bad => rw [e] at p; exact p.elim
theorem sn_step (k : Int) (ha : SnE K G W ta ea) (hl : SnE K G W tl el) : SnE K G W (tStep K k ta tl) (eStep k ea el) := fun m b h hp σ s ok sl Q p => by
  refine ha m b h hp σ s ok sl _ ?_
  unfold eStep at p
  cases e : ea s hp with
  | ok d hp1 =>
    rw [e] at p
    dsimp only at p
    intro v m1 b1 h1 x1 ok1 r1
    refine hl m1 b1 h1 hp1 σ s ok1 (sl.go x1) _ ?_
    cases e2 : el s hp1 with
    | ok d2 hp2 =>
      rw [e2] at p
      cases d2 with
      | int i =>
        dsimp only at p
        intro w m2 b2 h2 x2 ok2 r2
        cases r2
        split at p
        case h_2 => exact p.elim
        rename_i xs e3
        split at p
        case isFalse => exact p.elim
        rename_i hz
        obtain ⟨a, vs, rfl, sa, rs⟩ := lstR_ok ok2 (r1.go x2) e3
        have pe : ∀ us : List V, us.length = xs.length → pickN us (some i) (some k) = (sliceRange (sliceBounds (some i) none (some k) xs.length).1 (sliceBounds (some i) none (some k) xs.length).2.1 (sliceBounds (some i) none (some k) xs.length).2.2).filterMap fun j => us[j]? := fun us e => by unfold pickN; rw [e]
        have rp : RDs K G m2 b2 (pickN vs (some i) (some k)) (pickN xs (some i) (some k)) := by
          rw [pe vs rs.length]
          exact rds_pick rs _
        refine ⟨i, rfl, a, vs, rfl, sa, by rw [rp.length]; exact hz, fun q hq => ?_⟩
        have F : Fr [] b2 h2 (upd b2 q (.lst (pickN vs (some i) (some k)))) (upd h2 q (.lst (pickN vs (some i) (some k)))) := Fr.laid ok2.sub hq
        have st := Stp.pure (m := m2) F
        exact p _ m2 _ _ ((x1.trans x2).trans st) (ok2.pure F) (.lst upd_same (rp.go st))
      | _ => exact p.elim
    | exc x hp2 => rw [e2] at p; exact fun c dx m2 b2 h2 x2 => p c dx m2 b2 h2 (x1.trans x2)
    | bad => rw [e2] at p; exact p.elim
  | exc x hp1 => rw [e] at p; exact p
  | bad => rw [e] at p; exact p.elim
theorem xstep {k : Int} {j : Nat} {p1 p2 pos : Pos} {a l : Expr} (hK : X.K = K) (h0 : some k ≠ some 0) (ha : PX K G W X a ea) (hl : PX K G W X l el) : PX K G W X (.Subscript a (.Slice (some l) none (some (.Constant (.int k) j p1)) p2) pos) (eStep k ea el) := by subst hK; exact px (DV.pe_step h0 ha hl) (sn_step k sn_of sn_of)
theorem sn_lstRg1 (ha : SnE K G W ta ea) : SnE K G W (tLstRg (tRg1 ta)) (eLstRg1 ea) := fun m b h hp σ s ok sl Q p => by
  refine ha m b h hp σ s ok sl _ ?_
  unfold eLstRg1 at p
  cases e : ea s hp with
  | ok d hp1 =>
    rw [e] at p
    cases d with
    | int j =>
      dsimp only at p
      split at p
      · rename_i hj
        have g := numOk_b hj
        intro v m1 b1 h1 x1 ok1 r1
        cases r1
        refine ⟨j, rfl, ⟨by omega, by omega, by omega, by omega, by omega⟩, fun q hq => ?_⟩
        have F : Fr [] b1 h1 (upd b1 q (.lst (rgV 0 j))) (upd h1 q (.lst (rgV 0 j))) := Fr.laid ok1.sub hq
        have e0 : (j - 0).toNat = j.toNat := by rw [Int.sub_zero]
        have rr : RDs K G m1 (upd b1 q (.lst (rgV 0 j))) (rgV 0 j) ((List.range j.toNat).map fun (k : Nat) => D.int (0 + (k : Int))) := by
          unfold rgV
          rw [e0]
          exact rds_rg (fun k => 0 + (k : Int)) _
        exact p _ m1 _ _ (x1.trans (Stp.pure F)) (ok1.pure F) (.lst upd_same rr)
      · exact p.elim
    | _ => exact p.elim
  | exc x hp1 => rw [e] at p; exact p
  | bad => rw [e] at p; exact p.elim
theorem xlstRg1 {q p qp pos : Pos} {a : Expr} (hc : X.calm = true) (hl : Gl X "list") (hlm : X.mg "list" = none) (hg : Gl X "range") (hm : X.mg "range" = none) (ha : PX K G W X a ea)
    (n1 : starEach [a] X.env = (false, eval a X.env) :: starEach [] X.env := by rfl)
    (n4 : starEach [Expr.Call (.Name "range" p) [a] [] pos] X.env = (false, eval (.Call (.Name "range" p) [a] [] pos) X.env) :: starEach [] X.env := by rfl) : PX K G W X (.Call (.Name "list" q) [.Call (.Name "range" p) [a] [] pos] [] qp) (eLstRg1 ea) :=
  px (pe_listRg hc hl hlm (prg_1 hg hm ha n1) n4) (sn_lstRg1 sn_of)
end
end EV

/-! sets of texts: made of a row of texts, sorted -/
namespace EV
open PySem PySem.Spec L2 PyProof.Rows
def keyX (e : Int × Value) : Str := match e.2 with
  | .str k _ => k
  | _ => Str.empty
def GoodX (w : World) (e : Int × Value) : Prop := ∃ k tk, e.2 = Value.str k tk ∧ e.1 = hashStr w k
def addX (L : List Str) (k : Str) : List Str := if k ∈ L then L else k :: L
theorem mem_addX {L : List Str} {k j : Str} : j ∈ addX L k ↔ j ∈ L ∨ j = k := by
  unfold addX
  split
  · rename_i h
    exact ⟨.inl, fun z => z.elim id fun e => e ▸ h⟩
  · rw [List.mem_cons]; exact Or.comm
theorem nodup_addX {L : List Str} {k : Str} (h : L.Nodup) : (addX L k).Nodup := by
  unfold addX
  split
  · exact h
  · rename_i n; exact List.nodup_cons.mpr ⟨n, h⟩
theorem len_addX (L : List Str) (k : Str) : (addX L k).length ≤ L.length + 1 := by
  unfold addX
  split
  · omega
  · rw [List.length_cons]; omega
/-- its members are told by L, in some order -/
structure SetX (w : World) (h : Heap) (a : Addr) (L : List Str) where
  o : Obj
  es : Array (Int × Value)
  ep : Nat
  t : SetTable
  at_ : h.get? a = some o
  ex : o.ExactSet
  dat : o.data = .set es ep t
  good : ∀ e ∈ es.toList, GoodX w e
  mem : (es.toList.map keyX).Perm L
  nd : L.Nodup
  few : es.size < scanBound
  fit : t.fits es.size = true
  ris : Ris t.place.toList
  led : w.params.followText "set-order" = true ∨ t.led = true
section
variable {P : Program} {w : World} {A : Around} {E : Value → Shared → Prop} {s : Shared} {a : Addr} {L : List Str}
def SetX.keep {h h' : Heap} (R : SetX w h a L) (k : ∀ o, h.get? a = some o → h'.get? a = some o) : SetX w h' a L := { R with at_ := k _ R.at_ }
theorem SetX.size {h : Heap} (R : SetX w h a L) : R.es.size = L.length := by
  have := R.mem.length_eq
  rw [List.length_map, Array.length_toList] at this
  exact this
theorem goodX_elems {l : List (Int × Value)} (g : ∀ e ∈ l, GoodX w e) : ElemsOf (PySem.strKind P w) l := fun e he => by
  obtain ⟨k, tk, h1, h2⟩ := g e he
  rw [h1]
  exact ⟨⟨k, strKind_is P w k tk, h2⟩, rfl⟩
theorem goodX_is {e : Int × Value} (g : GoodX w e) (k : Str) : (PySem.strKind P w).is k e.2 = true ↔ keyX e = k := by
  obtain ⟨j, tk, h1, _⟩ := g
  unfold keyX
  rw [h1]
  exact ⟨fun z => (PySem.strKind P w).inj (.str j tk) j k (strKind_is P w j tk) z, fun z => by subst z; exact strKind_is P w j tk⟩
theorem tail_ok {g : Bool → Sem Unit} (hg : ∀ (b : Bool) (z : Shared) (R : Unit → Shared → Prop), R () z → wpAny (model P w) A (g b) R E z)
    {o : Obj} {es : Array (Int × Value)} {ep : Nat} {t : SetTable} (ho : s.heap.get? a = some o) (hex : o.ExactSet) (hd : o.data = .set es ep t)
    {es1 : Array (Int × Value)} {t2 : SetTable} (g1 : ∀ e ∈ es1.toList, GoodX w e) (m1 : (es1.toList.map keyX).Perm L) (nd : L.Nodup)
    (hb1 : es1.size < scanBound) (hf2 : t2.fits es1.size = true) (hr : Ris t2.place.toList) (hl : w.params.followText "set-order" = true ∨ t2.led = true) {wasDummy : Bool} {R : Option Bool → Shared → Prop}
    (hR : ∀ z, Heap.SameBut a s.heap z → SetX w z a L → R (some true) { s with heap := z }) :
    wpAny (model P w) A (do
        storeSet a es1 t2
        if (!wasDummy && t2.tooFull) = true then do
            g (relayAll t2 es1 (SetTable.grown es1.size)).2.2
            storeSet a (relayAll t2 es1 (SetTable.grown es1.size)).1 (relayAll t2 es1 (SetTable.grown es1.size)).2.1
            pure (some true)
          else pure (some true)) R E s := by
  refine wpAny_bind (wpAny_storeSet_of ho hd ?_ (fits_of_scanBound hb1))
  have there := store_at (es' := es1) (t' := t2) ho hd
  have same := Heap.SameBut.update s.heap a (Obj.putSet es1 t2)
  split
  · have q1 := relayAll_perm t2 es1 (SetTable.grown es1.size)
    have q2 := relayAll_fits t2 es1 (SetTable.grown es1.size)
    have q3 := relayAll_ris t2 es1 (SetTable.grown es1.size)
    have q4 := relayAll_led t2 es1 (SetTable.grown es1.size)
    generalize relayAll t2 es1 (SetTable.grown es1.size) = Z at q1 q2 q3 q4 ⊢
    obtain ⟨es2, t3, gave⟩ := Z
    dsimp only at q1 q2 q3 q4 ⊢
    have hsz : es2.size < scanBound := by
      rw [← Array.length_toList, q1.length_eq, Array.length_toList]
      exact hb1
    refine wpAny_bind (hg _ _ _ (wpAny_bind (wpAny_storeSet_of there rfl ?_ (fits_of_scanBound hsz))))
    exact wpAny_pure (hR _ (same.trans (Heap.SameBut.update _ a _)) { o := _, es := es2, ep := _, t := t3, at_ := store_at (es' := es2) (t' := t3) there rfl, ex := hex, dat := rfl, good := fun e he => g1 e (q1.mem_iff.mp he), mem := (q1.map keyX).trans m1, nd := nd, few := hsz, fit := q2, ris := q3, led := hl.imp id fun z => by rw [q4]; exact z })
  · exact wpAny_pure (hR _ same { o := _, es := es1, ep := _, t := t2, at_ := there, ex := hex, dat := rfl, good := g1, mem := m1, nd := nd, few := hb1, fit := hf2, ris := hr, led := hl })
theorem addX_hashed {k : Str} {tk : Tok} {Q : Bool → Shared → Prop} (R : SetX w s.heap a L) (room : L.length + 1 < scanBound)
    (hQ : ∀ z b, Heap.SameBut a s.heap z → SetX w z a (addX L k) → Q b { s with heap := z }) :
    wpAny (model P w) A (setAddHashed a (.str k tk) ((PySem.strKind P w).hash k)) Q E s := by
  obtain ⟨o, es, ep, t, ho, hex, hd, g, pm0, nd, hb, hf, hr, hl⟩ := R
  have size : es.size = L.length := by
    have := pm0.length_eq
    rw [List.length_map, Array.length_toList] at this
    exact this
  have mine : (PySem.strKind P w).is k (.str k tk) = true := strKind_is P w k tk
  have sca : (Value.str k tk).scannable = true := rfl
  have els : ElemsOf (PySem.strKind P w) es.toList := goodX_elems g
  unfold setAddHashed setAddHashedIn
  refine wpAny_holding (wpAny_bind (wpAny_setState_of ho hd hf ?_))
  dsimp only
  rw [byScan_of sca hb els]
  simp only [↓reduceIte]
  unfold setAddByScan
  refine wpAny_bind (wpAny_bind (wpAny_rule (wpAny_bind (wpAny_setScan_of mine ho hd hf els ?_))))
  cases fi : List.findIdx? (fun e => (PySem.strKind P w).is k e.2) es.toList with
  | some j =>
    obtain ⟨lt, pj, _⟩ := List.findIdx?_eq_some_iff_getElem.mp fi
    have inL : k ∈ L := pm0.mem_iff.mp (List.mem_map.mpr ⟨_, List.getElem_mem lt, (goodX_is (P := P) (g _ (List.getElem_mem lt)) k).mp pj⟩)
    have e0 : addX L k = L := if_pos inL
    refine wpAny_pure (wpAny_pure (hQ s.heap _ (Heap.SameBut.refl a s.heap) ?_))
    rw [e0]
    exact { o := o, es := es, ep := ep, t := t, at_ := ho, ex := hex, dat := hd, good := g, mem := pm0, nd := nd, few := hb, fit := hf, ris := hr, led := hl }
  | none =>
    have notin : k ∉ L := fun z => by
      obtain ⟨e, he, q⟩ := List.mem_map.mp (pm0.mem_iff.mpr z)
      have c := List.findIdx?_eq_none_iff.mp fi e he
      rw [(goodX_is (P := P) (g e he) k).mpr q] at c
      cases c
    have e0 : addX L k = k :: L := if_neg notin
    have quiet : ∀ (b : Bool) {z : Shared} {R : Unit → Shared → Prop}, R () z → wpAny (model P w) A (match b with | true => rule "set.scan.the-table-gave-way" | false => pure ()) R E z :=
      fun b z R q => by cases b <;> first | exact wpAny_pure q | exact wpAny_rule q
    have n1 := layNew_perm t es ((PySem.strKind P w).hash k) (.str k tk)
    have n2 := layNew_fits t es ((PySem.strKind P w).hash k) (.str k tk)
    have n3 := layNew_ris t es ((PySem.strKind P w).hash k) (.str k tk) hr
    have n4 := layNew_led t es ((PySem.strKind P w).hash k) (.str k tk)
    generalize layNew t es ((PySem.strKind P w).hash k) (.str k tk) = Z at n1 n2 n3 n4 ⊢
    obtain ⟨es1, t1, wasDummy, gave⟩ := Z
    dsimp only at n1 n2 n3 n4 ⊢
    rw [Array.toList_push] at n1
    have pc : es1.toList.Perm (((PySem.strKind P w).hash k, Value.str k tk) :: es.toList) := n1.trans (List.perm_append_singleton _ _)
    have pk : (es1.toList.map keyX).Perm (addX L k) := by
      rw [e0]
      exact (pc.map keyX).trans (List.Perm.cons k pm0)
    have g1 : ∀ e ∈ es1.toList, GoodX w e := fun e he => by
      rcases List.mem_cons.mp (pc.mem_iff.mp he) with z | z
      · rw [z]; exact ⟨k, tk, rfl, rfl⟩
      · exact g e z
    have hb1 : es1.size < scanBound := by
      rw [← Array.length_toList, pc.length_eq, List.length_cons, Array.length_toList, size]
      exact room
    have ledd : w.params.followText "set-order" = true ∨ t1.led = true := hl.imp id fun z => by rw [n4]; exact z
    refine wpAny_bind (quiet _ ?_)
    split
    · refine wpAny_bind ?_
      rw [hashByValue_scannable 8 sca]
      refine wpAny_pure (tail_ok ?_ ho hex hd g1 pk (nodup_addX nd) hb1 ?_ ?_ ?_ ?_)
      · intro b z R q; cases b <;> first | exact wpAny_pure q | exact wpAny_rule q
      · first | (split <;> first | exact n2 | exact SetTable.fits_plain_off n2) | exact n2
      · first | (split <;> exact n3) | exact n3
      · first | (split <;> exact ledd) | exact ledd
      · intro z sb r; dsimp only; exact wpAny_pure (hQ z _ sb r)
    · refine wpAny_bind (wpAny_pure ?_)
      simp only [↓reduceIte]
      refine tail_ok ?_ ho hex hd g1 pk (nodup_addX nd) hb1 n2 n3 ledd ?_
      · intro b z R q; cases b <;> first | exact wpAny_pure q | exact wpAny_rule q
      · intro z sb r; dsimp only; exact wpAny_pure (hQ z _ sb r)
/-- what is met up to the end -/
def setOfX (xs : List Str) : List Str := xs.foldl addX []
def freshX {h : Heap} (ho : h.get? a = some { cls := .type "set", dict := none, data := .set #[] 0 (.fresh 0 0 (!w.params.followText "set-order")) }) : SetX w h a [] :=
  { o := _, es := #[], ep := 0, t := _, at_ := ho, ex := ⟨rfl, rfl, rfl⟩, dat := rfl, good := (fun e he => by simp at he), mem := (by simp), nd := List.nodup_nil, few := (by decide), fit := (by rfl), ris := List.Pairwise.nil, led := by
      show _ ∨ (!w.params.followText "set-order") = true
      cases w.params.followText "set-order"
      · exact .inr rfl
      · exact .inl rfl }
theorem loopX {I : Addr} {fp wr : List Addr} {G : Array GenState → Array GenState → Prop} {n : Nat} {Pv : Nat → Value → Prop} {St : Nat → Shared → Prop} {R : Result → Shared → Prop}
    (W : WalksS P w A.in1 I fp wr G n Pv St) (S : Addr) (hSf : S ∉ fp) (xs : List Str) (hn : n = xs.length) (hb : xs.length + 1 < scanBound) (hval : ∀ i v, Pv i v → ∃ k t, xs[i]? = some k ∧ v = .str k t) :
    ∀ (k i : Nat) (s : Shared), n - i = k → i ≤ n → St i s → (∃ M : List Str, M.length ≤ i ∧ (xs.drop i).foldl addX M = setOfX xs ∧ Nonempty (SetX w s.heap S M)) →
      (∀ s', Moved (S :: wr) G s s' → Nonempty (SetX w s'.heap S (setOfX xs)) → R (.ok (.ret .none)) s') →
      codeAny (model P w) A (.builtin "set.update.loop" ⟨[.ref S, .ref I], []⟩) R s := by
  have hSw : S ∉ wr := fun h => hSf (W.sub _ h)
  have wider : ∀ b ∈ wr, b ∈ S :: wr := fun b hb => List.mem_cons_of_mem _ hb
  intro k
  induction k with
  | zero =>
    intro i s hk hi hst ⟨M, _, eM, ⟨hS⟩⟩ hR
    have hin : i = n := by omega
    subst hin
    refine codeAny_builtin PyProof.Rows.F.entry_set_update_loop ?_
    rw [Around.under_plainId PyProof.Rows.F.plain_set_update_loop _]
    show wpAny _ A.in1 (pyNext (.ref I) >>= _) _ _ s
    refine wpAny_bind (W.done s _ _ hst fun s' hm => ?_)
    show wpAny _ A.in1 (ret Value.none) _ _ s'
    rw [hn, List.drop_length] at eM
    have eM : M = setOfX xs := eM
    subst eM
    exact wpAny_pure (hR s' (hm.mono wider) ⟨hS.keep fun o e => hm.heap S o hSw e⟩)
  | succ k ih =>
    intro i s hk hi hst ⟨M, lM, eM, ⟨hS⟩⟩ hR
    have hlt : i < n := by omega
    refine codeAny_builtin PyProof.Rows.F.entry_set_update_loop ?_
    rw [Around.under_plainId PyProof.Rows.F.plain_set_update_loop _]
    show wpAny _ A.in1 (pyNext (.ref I) >>= _) _ _ s
    refine wpAny_bind (W.item i s _ _ hlt hst fun v s' hP hst' hm => ?_)
    obtain ⟨z, t, hz, rfl⟩ := hval i v hP
    have hd : xs.drop i = z :: xs.drop (i + 1) := by
      obtain ⟨lt, e0⟩ := List.getElem?_eq_some_iff.mp hz
      rw [← e0]; exact List.drop_eq_getElem_cons lt
    rw [hd, List.foldl_cons] at eM
    show wpAny _ A.in1 (holding [Value.str z t] (setAdd S (.str z t)) >>= _) _ _ s'
    refine wpAny_bind (wpAny_holding ?_)
    unfold setAdd
    refine wpAny_holding (wpAny_bind ((PySem.strKind P w).pyHash (k := z) (strKind_is _ _ _ _) ?_))
    refine addX_hashed (s := { s' with toks := s'.toks + 1 }) (hS.keep fun o e => hm.heap S o hSw e) (by omega) fun y b hsb hS2 => ?_
    have lM2 := len_addX M z
    refine wpAny_pure ⟨plainId_quiet PyProof.Rows.F.plain_set_update_loop _, ih (i + 1) _ (by omega) hlt (W.frame _ s' _ _ hst' (Nat.le_succ _) fun b hb o e => ?_) ⟨_, by omega, eM, ⟨hS2⟩⟩ fun s'' hm'' hS'' => ?_⟩
    · rw [hsb.2 b (fun h : b = S => hSf (by rw [← h]; exact hb))]; exact e
    · refine hR s'' (Moved.trans W.gtrans ((hm.mono wider).then_heap (Nat.le_succ _) fun b o hb e => ?_) hm'') hS''
      rw [hsb.2 b (fun h : b = S => hb (by rw [h]; exact List.mem_cons_self))]; exact e
end
end EV
namespace EV
open PySem PySem.Spec L2 PyProof.Rows
section
variable {P : Program} {w : World} {A : Around} {E : Value → Shared → Prop} {s : Shared}
theorem texts_at : ∀ {us : List Value} {xs : List Str}, StrsAre us xs → ∀ (i : Nat) (v : Value), us[i]? = some v → ∃ k t, xs[i]? = some k ∧ v = .str k t
  | _, _, .nil, i, v, e => nomatch e
  | _, _, .cons x t r, 0, v, e => by cases e; exact ⟨x, t, rfl, rfl⟩
  | _, _, .cons x t r, i + 1, v, e => texts_at r i v e
/-- an empty set, led as the World has it -/
abbrev bare0 (w : World) : Obj := { cls := .type "set", dict := none, data := .set #[] 0 (.fresh 0 0 (!w.params.followText "set-order")) }
set_option maxHeartbeats 3200000 in
theorem call_setX {l : Addr} {items : Array Value} (xs : List Str) {Q : Value → Shared → Prop} (hh : A.handled = none) (hl : s.heap.IsList l items) (hit : StrsAre items.toList xs) (hb : xs.length + 1 < scanBound)
    (h : ∀ (z : Heap) (tk : Nat), Nonempty (SetX w z s.heap.objs.size (setOfX xs)) → (∀ b o, s.heap.get? b = some o → z.get? b = some o) → Q (.ref s.heap.objs.size) { s with heap := z, toks := tk }) :
    wpAny (model P w) A (call (.type "set") [.ref l]) Q E s := by
  have hisz : xs.length = items.size := by rw [← StrsAre.len_eq hit, Array.length_toList]
  obtain ⟨c, tl, hmro⟩ := PySem.F.called_set.mro
  have hmade := PySem.F.called_set.made; have hsub := PySem.F.called_set.sub
  refine wpAny_call (codeAny_of_tree ?_)
  show wpAny _ _ (callAny (.type "set") _) _ _ _
  refine wpAny_pure ⟨Code.quiet_builtin _ (by decide +kernel), codeAny_builtin PySem.F.entry_type_call ?_⟩
  rw [Around.under_plain (weight_type_call_type "set" [.ref l] []) rfl]
  have h1 := PySem.F.called_set.notType; have h2 := PySem.F.called_set.canCreate
  have hct := PySem.F.typeCall_set_1 (.ref l)
  repeat (any_goals (first | assumption | wp_step))

  refine codeAny_mono (code_set_led1 (.ref l) (E := E) (Q₁ := fun obj s₁ => obj = .ref s.heap.objs.size ∧ s₁ = { s with heap := s.heap.push (bare0 w) }) ⟨rfl, rfl⟩) fun r s₁ hr => ?_
  cases r with
  | error e => exact hr
  | ok fl =>
    cases fl with
    | ret obj =>
      obtain ⟨rfl, rfl⟩ := hr
      have hS : (s.heap.push (bare0 w)).get? s.heap.objs.size = some (bare0 w) := Heap.get?_push_size _ rfl
      have hT : Shared.TypeIs { s with heap := s.heap.push (bare0 w) } (.ref s.heap.objs.size) "set" := ⟨_, hS, rfl⟩
      have hli := PySem.F.called_set.init.lookup; have hbi := PySem.F.called_set.init.bind (.ref s.heap.objs.size)
      repeat (any_goals (first | assumption | wp_step))

      refine codeAny_mono (codeAny_call_builtin (R := wants (fun r s₂ => r = .none ∧ ∃ z tk, s₂ = { s with heap := z, toks := tk } ∧ Nonempty (SetX w z s.heap.objs.size (setOfX xs)) ∧
          (∀ b o, s.heap.get? b = some o → z.get? b = some o)) E) PySem.F.called_set.init.plain PySem.F.entry_set_init (check_set_init_1 hT ?_)) fun r₂ s₂ hr₂ => ?_
      · obtain ⟨⟨ocls, odict, odata, oslots⟩, hol, hcl, nl, hdl⟩ := hl
        simp only at hcl hdl
        subst hcl; subst hdl
        have hol' : (s.heap.push (bare0 w)).get? l = some { cls := .type "list", dict := odict, data := .seq items nl, slots := oslots } := Heap.get?_push_of_some _ hol
        have hsls := PySem.F.sub_list_set; have hslf := PySem.F.sub_list_frozenset; have hne : (Value.type "list" == Value.type "dict") = false := by decide
        have hl1 : (s.heap.push (bare0 w)).IsList l items := ⟨_, hol', rfl, nl, rfl⟩
        unfold Builtin.«set.__init__» noKeywords Builtin.Frozenset.updateFrom
        generalize hPI : pyIter = PI
        wp_walk
        subst hPI

        refine wpAny_pyIter_list hl1 (wpAny_bind (wpAny_runValue ?_))
        have hlS : l < s.heap.objs.size := Heap.lt_size hol
        have hz1 : (s.heap.push (bare0 w)).objs.size = s.heap.objs.size + 1 := Heap.size_push ..
        have hneI : l ≠ (s.heap.push (bare0 w)).objs.size := by rw [hz1]; exact Nat.ne_of_lt (Nat.lt_succ_of_lt hlS)
        have hSf : s.heap.objs.size ∉ [(s.heap.push (bare0 w)).objs.size, l] := by
          rw [hz1]; intro z
          rcases List.mem_cons.mp z with z | z
          · omega
          · exact absurd (List.mem_singleton.mp z) (Nat.ne_of_gt hlS)
        have hval : ∀ (i : Nat) (v : Value), items[i]? = some v → ∃ k t, xs[i]? = some k ∧ v = .str k t := fun i v hv => by
          exact texts_at hit i v (by rw [Array.getElem?_toList]; exact hv)
        refine loopX ((Walks.list (show A.in1.in1.in1.handled = none by simp [hh]) _ l hneI items).toS) s.heap.objs.size
          hSf xs hisz.symm hb hval (items.size - 0) 0 _ (by omega) (Nat.zero_le _)
          ⟨⟨_, Heap.get?_push_size _ rfl, rfl, rfl⟩, (hl1.push _)⟩ ⟨[], Nat.le_refl 0, rfl, ⟨freshX (Heap.get?_push_of_some _ hS)⟩⟩ ?hR
        case hR =>
          rintro ⟨z, g2, d2, tk2, os2⟩ hm hS'
          have eg : g2 = s.gens := hm.gens; have ed : d2 = s.drawn := hm.drawn; have eo : os2 = s.os := hm.os
          subst eg ed eo
          show wpAny _ _ _ _ _ _
          refine wpAny_pure ?_
          show wpAny _ _ (ret Value.none) _ _ _
          refine wpAny_pure ⟨rfl, z, tk2, rfl, hS', fun b o e => ?_⟩
          have lt := Heap.lt_size e
          refine hm.heap b o (fun z => ?_) (Heap.get?_push_of_some _ (Heap.get?_push_of_some _ e))
          rcases List.mem_cons.mp z with z | z
          · rw [z] at lt; exact absurd lt (Nat.lt_irrefl _)
          · have q := List.mem_singleton.mp z
            rw [q] at lt
            have lt : (s.heap.push (bare0 w)).objs.size < s.heap.objs.size := lt
            rw [hz1] at lt
            exact absurd lt (Nat.not_lt_of_le (Nat.le_succ _))

      · cases r₂ with
        | error e => exact hr₂
        | ok fl₂ =>
          cases fl₂ with
          | ret r =>
            obtain ⟨rfl, z, tk, rfl, hS', hk'⟩ := hr₂
            repeat (any_goals (first | assumption | wp_step))
            exact h _ _ hS' hk'
          | _ => exact hr₂.elim
    | _ => exact hr.elim
end
end EV

/-! sorted(set(xs)), xs texts -/
namespace EV
open PySem PySem.Spec L2 PyProof.Rows
def twice (x : Str) : KP := (.inr x, .inr x)
def once (p : KP) : Str := match p.1 with
  | .inr x => x
  | .inl _ => Str.empty
def sortX (xs : List Str) : List Str := (sortP (xs.map twice)).map once
theorem once_twice (xs : List Str) : (xs.map twice).map once = xs := by
  rw [List.map_map]
  exact List.map_id' xs
theorem lt_twice {a b : Str} (h : ltCps a.cps.toList b.cps.toList = false) : ltP2 (twice a) (twice b) = false := by
  rw [ltCps_eq] at h
  unfold ltP2 twice
  dsimp only
  split <;> exact h
theorem rising_all : ∀ (l : List Str) (p : Str), risingS p l = true → SrtP (l.map twice) ∧ ∀ z ∈ l.map twice, ltP2 z (twice p) = false
  | [], p, _ => ⟨List.Pairwise.nil, fun z m => nomatch m⟩
  | x :: r, p, h => by
    have h : (!ltCps x.cps.toList p.cps.toList && risingS x r) = true := h
    rw [Bool.and_eq_true, Bool.not_eq_true'] at h
    obtain ⟨h1, h2⟩ := rising_all r x h.2
    have a := lt_twice h.1
    refine ⟨List.pairwise_cons.mpr ⟨h2, h1⟩, fun z m => ?_⟩
    rcases List.mem_cons.mp m with e | m
    · rw [e]; exact a
    · exact swoP.tr _ _ _ a (h2 z m)
theorem srt_twice {l : List Str} (h : sortedS l = true) : SrtP (l.map twice) := by
  cases l with
  | nil => exact List.Pairwise.nil
  | cons x r =>
    obtain ⟨h1, h2⟩ := rising_all r x h
    exact List.pairwise_cons.mpr ⟨h2, h1⟩
theorem sortX_of {xs ys : List Str} (p : ys.Perm xs) (h : sortedS ys = true) : ys = sortX xs := by
  unfold sortX
  rw [← sortP_of (p.map twice) (srt_twice h), once_twice]
theorem sortX_perm (xs : List Str) : (sortX xs).Perm xs := by
  have := (sortP_perm (xs.map twice)).map once
  rw [once_twice] at this
  exact this
section
variable {P : Program} {w : World} {A : Around} {E : Value → Shared → Prop} {s : Shared} {a : Addr} {L : List Str}
theorem strs_of_good : ∀ (l : List Value), (∀ v ∈ l, ∃ k tk, v = Value.str k tk) → StrsAre l (l.map fun v => keyX (0, v))
  | [], _ => .nil
  | v :: l, h => by
    obtain ⟨k, tk, rfl⟩ := h v List.mem_cons_self
    exact .cons k tk (strs_of_good l fun u hu => h u (List.mem_cons_of_mem _ hu))
theorem sorted_setX {Q : Value → Shared → Prop} (R : SetX w s.heap a L) (hh : A.handled = none)
    (hQ : ∀ z p (out : Array Value) (c : Nat), (∀ b o, s.heap.get? b = some o → z.heap.get? b = some o) → z.gens = s.gens → z.os = s.os → s.heap.objs.size ≤ p →
      z.heap.get? p = some (seqObj "list" out c) → StrsAre out.toList (sortX L) → Q (.ref p) z) :
    wpAny (model P w) A (call (.builtin "sorted") [.ref a]) Q E s := by
  obtain ⟨o, es, ep, t, ho, hex, hd, g, pm0, nd, hb, hf, hr, hl⟩ := R
  refine Calls.call_function_entry kind_sorted plain_sorted entry_sorted (args_sorted1 _) ?_
  unfold Builtin.«sorted»
  refine wpAny_bind (m := checkCount "sorted" 1 1 _) (wpAny_pure (wpAny_bind (collect_set (A := A.in1) hh ⟨o, ho, hex.1, hd⟩ hf hb hr hl fun s1 vs k1 hz g1 o1 pm => ?_)))
  have hvl : vs.length < scanBound := by rw [pm.length_eq, List.length_map, Array.length_toList]; exact hb
  have hL : vs.length ≤ sizeLine := fits_of_scanBound hvl
  have hS : StrsAre vs (vs.map fun v => keyX (0, v)) := strs_of_good vs fun v hv => by
    obtain ⟨e, he, q⟩ := List.mem_map.mp (pm.mem_iff.mp hv)
    obtain ⟨k, tk, h1, _⟩ := g e he
    exact ⟨k, tk, by rw [← q]; exact h1⟩
  have pk : (vs.map fun v => keyX (0, v)).Perm L := by
    have q := pm.map fun v => keyX (0, v)
    rw [List.map_map] at q
    exact q.trans pm0
  refine wpAny_bind (wpAny_newList ?_ hL)
  have hoL : (s1.heap.push (seqObj "list" vs.toArray 0)).get? s1.heap.objs.size = some (seqObj "list" vs.toArray 0) := Heap.get?_push_size _ rfl
  refine wpAny_bind (wpAny_holding (wpAny_call_entry slot_list_sort ⟨_, hoL, rfl⟩ entry_list_sort (list_sort_treeKAny strKind_oneLt hoL hS.keysOf (fun v₁ v₂ rest e => keyKind_strs (by rw [← e]; exact hS)) hL fun st' hp hs => ⟨_, rfl, ?_⟩) (args_list_sort _)))
  obtain ⟨ys, y1, y2, y3⟩ := sorted_out_str hS hp hs
  obtain ⟨c, hc⟩ := sortedHeap_at (vs := vs) (out := (arrOf st').map (·.2)) hoL
  rw [sortX_of (y2.trans pk) y3] at y1
  refine wpAny_pure ⟨_, rfl, hQ _ s1.heap.objs.size _ c (fun b u e => ?_) g1 o1 hz hc y1⟩
  have q := k1 b u e
  have lt := Heap.lt_size q
  show (sortedHeap (s1.heap.push (seqObj "list" vs.toArray 0)) s1.heap.objs.size vs _).get? b = some u
  rw [sortedHeap_old (Nat.ne_of_lt lt) (by rw [size_push']; exact Nat.lt_succ_of_lt lt)]
  exact Heap.get?_push_of_some _ q
end
def tSortX (K : PySem.W.Frag) (ta : TE) : TE := fun σ H Q => ta σ H fun x H1 => ∃ l xs, x = .ref l ∧ SqL K H1 l (xs.map V.str) ∧ xs.length ≤ 500 ∧ ∀ p, H1 p = none → Q (.ref p) (upd H1 p (.lst ((sortX (setOfX xs)).map V.str)))
theorem setOf_len : ∀ (xs M : List Str), (xs.foldl addX M).length ≤ M.length + xs.length
  | [], M => Nat.le_refl _
  | x :: xs, M => by
    have a := len_addX M x
    have b := setOf_len xs (addX M x)
    rw [List.foldl_cons, List.length_cons]
    omega
section
variable {X : L2.Cx} {a : Expr} {ta : TE} {p p2 q pos : Pos}
theorem run_sortX {pins : List (Addr × Obj)} {σ : L2.St} {H : Hp} {s : Shared} {Q : VK} {a : Addr} {L : List Str} (I : Inv X pins σ H s) (R : SetX X.w s.heap a L) (hc : X.calm = true) (hz : L.length ≤ sizeLine) (q : ∀ p, H p = none → Q (.ref p) (upd H p (.lst ((sortX L).map V.str)))) :
    wpAny (model X.prog X.w) X.A (call (.builtin "sorted") [.ref a]) (EP X pins σ Q) X.xe s := by
  refine sorted_setX R (I.ok.hd hc) fun y b out c kp eg eo lt at_ so => ?_
  have hn : H b = none := I.hok.fresh lt
  have ln : ((sortX L).map V.str).length ≤ sizeLine := by rw [List.length_map, (sortX_perm L).length_eq]; exact hz
  have J : Inv X pins σ (upd H b (.lst ((sortX L).map V.str))) { s with heap := y.heap, gens := y.gens, drawn := y.drawn, toks := y.toks } :=
    I.call (ch := []) (Un.laid kp lt hn) (I.hok.laid kp lt ⟨ln, out.toList, c, vals_of_strs so, at_⟩) (by rw [eg]; exact I.bare) (fun _ z => nomatch z)
  have e : y = { s with heap := y.heap, gens := y.gens, drawn := y.drawn, toks := y.toks } := by
    cases y
    cases s
    cases eo
    rfl
  rw [e]
  exact ⟨.ref b, _, J, rfl, q b hn⟩
theorem pe_sortX (hc : X.calm = true) (hg : Gl X "sorted") (hm : X.mg "sorted" = none) (hg2 : Gl X "set") (hm2 : X.mg "set" = none) (ha : PE X a ta)
    (n1 : starEach [a] X.env = (false, eval a X.env) :: starEach [] X.env := by rfl)
    (n2 : starEach [Expr.Call (.Name "set" p2) [a] [] q] X.env = (false, eval (.Call (.Name "set" p2) [a] [] q) X.env) :: starEach [] X.env := by rfl) :
    PE X (.Call (.Name "sorted" p) [.Call (.Name "set" p2) [a] [] q] [] pos) (tSortX X.K ta) := by
  refine ⟨fun pins s σ H Q I h => ?_⟩
  refine Call_ (ld_blt I hg hm (show bootBuiltins "sorted" = some (.builtin "sorted") by kernel_rfl) (PyProof.Rows.callWith_builtin1 (PyProof.Rows.args_cons ?_ n2) rfl rfl))
  refine Call_ (ld_blt I hg2 hm2 boot_set (PyProof.Rows.callWith_type1 (PyProof.Rows.args_cons (thn (ha.run pins s σ H _ I h) fun v s1 ⟨x, H1, I1, r1, q1⟩ => PyProof.Rows.args_nil ?_) n1) n1 rfl))
  obtain ⟨l, xs, rfl, hq, hz, q1⟩ := q1
  cases r1
  obtain ⟨its, r, pl, _⟩ := I1.list hq
  refine call_setX xs (I1.ok.hd hc) pl.isList (by rw [List.toList_toArray]; exact r.strs) (by unfold scanBound; omega) fun z tk ⟨R⟩ k => PyProof.Rows.args_nil ?_
  refine run_sortX (s := { s1 with heap := z, toks := tk }) (I1.kept k) R hc ?_ q1
  have h2 := setOf_len xs []
  have h3 : (setOfX xs).length ≤ 0 + xs.length := h2
  rw [sizeLine_eq]
  omega
end
end EV
namespace EV
open PySem L2 DV
def fSortX (hp : List O) (d : D) : Option D := (lstR hp d).bind fun xs => (strsD xs).bind fun ys => if ys.length ≤ 500 then some (.lst ((sortX (setOfX ys)).map D.str)) else none
def eSortX (ea : EE) : EE := fun s hp => match ea s hp with
  | .ok d hp1 => (match fSortX hp1 d with
    | some r => .ok r hp1
    | none => .bad)
  | .exc x hp1 => .exc x hp1
  | .bad => .bad
section
variable {K : PySem.W.Frag} {G : Gs} {W : WX} {X : L2.Cx} {ea : EE} {ta : TE} {a : Expr} {p p2 q pos : Pos}
theorem rds_of_strs {m : List Addr} {b : Hp} : ∀ ns : List Str, RDs K G m b (ns.map V.str) (ns.map D.str)
  | [] => .nil
  | n :: ns => .cons (.str n) (rds_of_strs ns)
theorem sn_sortX (ha : SnE K G W ta ea) : SnE K G W (tSortX K ta) (eSortX ea) := fun m b h hp σ s ok sl Q p => by
  refine ha m b h hp σ s ok sl _ ?_
  unfold eSortX at p
  cases e : ea s hp with
  | ok d hp1 =>
    rw [e] at p
    dsimp only at p
    intro v m1 b1 h1 x1 ok1 r1
    cases e1 : fSortX hp1 d with
    | none => rw [e1] at p; exact p.elim
    | some r =>
      rw [e1] at p
      obtain ⟨xs, f1, f2⟩ := Option.bind_eq_some_iff.mp e1
      obtain ⟨ys, f3, f4⟩ := Option.bind_eq_some_iff.mp f2
      split at f4
      · rename_i hz
        cases f4
        obtain ⟨l, vs, rfl, sa, rs⟩ := lstR_ok ok1 r1 f1
        have := rds_strs rs f3
        subst this
        refine ⟨l, ys, rfl, sa, hz, fun c hc => ?_⟩
        have F : Fr [] b1 h1 (upd b1 c (.lst ((sortX (setOfX ys)).map V.str))) (upd h1 c (.lst ((sortX (setOfX ys)).map V.str))) := Fr.laid ok1.sub hc
        exact p _ m1 _ _ (x1.trans (Stp.pure F)) (ok1.pure F) (.lst upd_same (rds_of_strs _))
      · cases f4
  | exc x hp1 => rw [e] at p; exact p
  | bad => rw [e] at p; exact p.elim
theorem xsortX (hK : X.K = K) (hc : X.calm = true) (hg : Gl X "sorted") (hm : X.mg "sorted" = none) (hg2 : Gl X "set") (hm2 : X.mg "set" = none) (ha : PX K G W X a ea)
    (n1 : starEach [a] X.env = (false, eval a X.env) :: starEach [] X.env := by rfl)
    (n2 : starEach [Expr.Call (.Name "set" p2) [a] [] q] X.env = (false, eval (.Call (.Name "set" p2) [a] [] q) X.env) :: starEach [] X.env := by rfl) :
    PX K G W X (.Call (.Name "sorted" p) [.Call (.Name "set" p2) [a] [] q] [] pos) (eSortX ea) := by
  subst hK
  exact px (pe_sortX hc hg hm hg2 hm2 ha n1 n2) (sn_sortX sn_of)
end
end EV

/-! a list made longer by a tuple; tuple(text) -/
namespace EV
open PySem L2 DV PyProof.Rows
open AutoSeq1 (wpAny_loadPart')
theorem list_extT (l : Addr) (items : Array Value) (n : Nat) (b : Addr) (items2 : Array Value) (n2 : Nat) (dd : Option Addr) (sl : Array (Option Value)) (c0 : ¬(!items.isEmpty && Builtin.List.listTooLong (items.size + items2.size)) = true) (c1 : items.size ≤ sizeLine) (c2 : items.size + items2.size ≤ sizeLine + 1) :
    Meets (Builtin.«list.extend» ⟨[.ref l, .ref b], []⟩) (fun _ R s => s.heap.get? l = some { cls := .type "list", dict := none, data := .seq items n, slots := #[] } ∧ s.heap.get? b = some (tupO items2 n2 dd sl) ∧ R (.ok (.ret Value.none)) { s with heap := s.heap.update l (Obj.mapSeq fun x => x ++ items2), toks := s.toks }) := by
  refine .of_wp ?_
  rintro prog w A R ⟨hp, g, d, tk, os⟩ ⟨hl, hb, h⟩
  have f1 := AutoSeq1.idx_int; have f2 := sub_tuple_tuple; have f3 := sub_list_list; have f4 := sub_tuple_list; have f5 := sub_list_tuple
  have z : (items ++ items2).size ≤ sizeLine + 1 := by rw [Array.size_append]; exact c2
  wp_walk using (wpAny_updateSeq hl rfl (hz := c1) (_hz' := z)), wpAny_loadPart' hl, wpAny_loadPart' hb
  exact ⟨_, rfl, h⟩
def rExtT (K : PySem.W.Frag) : V → List V → Hp → VK → Prop := fun x vs H Q => ∃ l b xs zs, x = .ref l ∧ vs = [.ref b] ∧ H l = some (.lst xs) ∧ SqT K H b zs ∧ xs.length + zs.length ≤ sizeLine ∧ Q .non (upd H l (.lst (xs ++ zs)))
theorem mt_extT {X : L2.Cx} : MtM X "list.extend" (rExtT X.K) := by
  rintro pins s σ H x vs v us Q I rx rv ⟨l, b, xs, zs, rfl, rfl, hH, hB, hz, q⟩
  cases rx
  obtain ⟨u, rfl, ru⟩ := rv.one
  cases ru
  obtain ⟨z, its, n, r, hl, e⟩ := I.lstM hH
  obtain ⟨it2, n2, dd, sl, e2, sz2⟩ := tup_there I hB
  obtain ⟨its2, r2, ht2, _⟩ := I.tuple hB
  have same : it2 = its2.toArray := by
    obtain ⟨o, q1, _, n3, q2⟩ := ht2
    rw [e2] at q1
    cases q1
    have q2 : PySem.Data.seq it2 n2 = .seq its2.toArray n3 := q2
    injection q2
  subst same
  have hsz : its.toArray.size + its2.toArray.size ≤ sizeLine := by rw [sz2, List.size_toArray, ← hl]; exact hz
  have hlong : ¬ (!its.toArray.isEmpty && Builtin.List.listTooLong (its.toArray.size + its2.toArray.size)) = true := by
    rw [notLongL hsz, Bool.and_false]
    exact Bool.false_ne_true
  refine call_meets PySem.F.slot_list_extend ⟨_, e, rfl⟩ PySem.F.entry_list_extend (PySem.F.args_list_extend_2 _ _)
    (list_extT l its.toArray n b its2.toArray n2 dd sl hlong (by rw [List.size_toArray]; omega) (by omega)) ⟨e, e2, ?_⟩
  refine ⟨.non, _, I.lset (its' := its ++ its2) hH e (by simp) (r.append r2) ?_, rfl, q⟩
  rw [List.length_append]; exact hz
def signV (x : Str) : List V := x.cps.toList.map fun c => .str ⟨#[c]⟩
def rTupS : List V → Hp → VK → Prop := fun xs H Q => ∃ x, xs = [.str x] ∧ x.cps.size ≤ 1000 ∧ NewT H (signV x) Q
theorem vals_signs {x : Str} {acc : Array Value} (h : ItemsOf (SignAt x) acc x.cps.size) : Vals (signV x) acc.toList := by
  have key : ∀ (l : List Nat) (us : List Value), us.length = l.length → (∀ (j : Nat) v c, us[j]? = some v → l[j]? = some c → ∃ t, v = .str ⟨#[c]⟩ t) → Vals (l.map fun c => V.str ⟨#[c]⟩) us := fun l => by
    induction l with
    | nil => exact fun us e _ => by cases us with | nil => exact .nil | cons _ _ => cases e
    | cons c l ih =>
      intro us e q
      cases us with
      | nil => cases e
      | cons u us => exact .cons (q 0 u c rfl rfl) (ih us (Nat.succ.inj e) fun j v c2 h1 h2 => q (j + 1) v c2 (by simpa using h1) (by simpa using h2))
  refine key _ _ (by rw [Array.length_toList, h.1, Array.length_toList]) fun j v c h1 h2 => ?_
  obtain ⟨c2, t, e1, e2⟩ := h.2 j v (by rw [← Array.getElem?_toList]; exact h1)
  rw [Array.getElem?_toList, e1] at h2
  cases h2
  exact ⟨t, e2⟩
theorem call_tupS {X : L2.Cx} (hc : X.calm = true) : CallR X (.type "tuple") rTupS := by
  rintro pins s σ H xs us Q I r ⟨x, rfl, hz, q⟩
  obtain ⟨u, rfl, t, rfl⟩ := vals1 r
  refine call_tuple_str (I.ok.hd hc) x t (fun h' tk acc k it => ?_) (by rw [sizeLine_eq]; omega)
  have v := vals_signs it
  have ln := v.length
  have J : Inv X pins σ H { s with heap := h', toks := tk } := I.kept (t' := tk) k
  refine newT (s := { s with heap := h', toks := tk }) (ob := { cls := .type "tuple", data := .seq acc }) (its := acc.toList) (n := 0) (tk := tk) J v ?_ rfl rfl rfl (by rw [Array.toArray_toList]) q
  rw [ln, Array.length_toList, it.1, sizeLine_eq]
  omega
/-! what is read -/
def fTuple2 (hp : List O) (ds : List D) : Option D := match ds with
  | [.str x] => if x.cps.size ≤ 1000 then some (.tup (signs x)) else none
  | _ => fTuple hp ds
def eExt2 (eo ea : EE) : EE := fun s hp => match eo s hp with
  | .ok (.ref n) hp1 => if isLst hp1[n]? then (match ea s hp1 with
    | .ok d hp2 => (match seqR hp2 d, hp2[n]?, (match d with | .frz _ => true | _ => false) with
      | some ys, some (.lst xs), false => if xs.length + ys.length ≤ 100000 then .ok .non (hp2.set n (.lst (xs ++ ys))) else .bad
      | _, _, _ => .bad)
    | .exc x hp2 => .exc x hp2
    | _ => .bad) else .bad
  | .exc x hp1 => .exc x hp1
  | _ => .bad
section
variable {K : PySem.W.Frag} {G : Gs} {W : WX} {m : List Addr} {b h : Hp} {hp : List O} {ea eb eo ei : EE} {er : EA} {ta tb to ti : TE} {tr : TA} {X : Cx}
theorem rds_signs {m : List Addr} {b : Hp} (x : Str) : RDs K G m b (signV x) (signs x) := by
  unfold signV signs
  generalize x.cps.toList = l
  induction l with
  | nil => exact .nil
  | cons c l ih => exact .cons (.str _) ih
theorem signs_str (x : Str) : tabL (signs x) = true → x.cps.size = 0 := fun e => by
  unfold tabL signs at e
  rcases l : x.cps.toList with _ | ⟨c, r⟩
  · rw [← Array.length_toList, l]; rfl
  · rw [l] at e; cases e
theorem ok_tuple2 : BiOk K G (fun xs H Q => rTupS xs H Q ∨ rTupF K xs H Q) fTuple2 := fun m b h hp xs ds d ok r e Q q => by
  unfold fTuple2 at e
  split at e
  · rename_i x
    split at e
    · rename_i hz
      cases e
      obtain ⟨v, rfl, r1⟩ := r.len1
      cases r1
      exact .inl ⟨x, rfl, hz, fun l o hl hd => q _ _ _ (Fr.laid ok.sub hl) (.tup sqT_new (fun _ => TD.new hd) (rds_signs x))⟩
    · cases e
  · exact .inr (ok_tuple m b h hp xs ds d ok r e Q q)
theorem tuple2_ok (hK : X.K = K) (hc : X.calm = true) : CallR X (.type "tuple") (fun xs H Q => rTupS xs H Q ∨ rTupF K xs H Q) := by subst hK; exact CallR_or (call_tupS hc) call_tupleF
theorem sn_ext2 (ho : SnE K G W to eo) (ha : SnE K G W ta ea) : SnE K G W (tBM K "list" (fun x vs H Q => rExtend x vs H Q ∨ rExtT K x vs H Q) to (tCons ta tNil)) (eExt2 eo ea) := fun m b h hp σ s ok sl Q p => by
  refine ho m b h hp σ s ok sl _ ?_
  unfold eExt2 at p
  cases e : eo s hp with
  | ok d hp1 =>
    rw [e] at p
    cases d with
    | ref n =>
      dsimp only at p
      by_cases il : isLst hp1[n]? = true
      case neg => rw [if_neg il] at p; exact p.elim
      rw [if_pos il] at p
      obtain ⟨ws, e1⟩ := isLst_of il
      intro v m1 b1 h1 x1 ok1 r1
      cases r1 with
      | @ref a _ em =>
        obtain ⟨_, us, hu, _⟩ := ok1.ob n a _ em e1
        refine ⟨.inl ⟨rfl, us, .inl (.inl hu)⟩, ?_⟩
        refine ha m1 b1 h1 hp1 σ s ok1 (sl.go x1) _ ?_
        cases e2 : ea s hp1 with
        | ok d2 hp2 =>
          rw [e2] at p
          dsimp only at p
          intro w m2 b2 h2 x2 ok2 r2
          split at p
          case h_2 => exact p.elim
          rename_i ys xs e3 o2 nf
          split at p
          case isFalse => exact p.elim
          rename_i hc
          have r3 : RD K G m2 b2 (.ref a) (.ref n) := (RD.ref em).go x2
          obtain ⟨a', vs, ea', em2, ha2, rv⟩ := ref_at ok2 r3 o2
          cases ea'
          have lies : ∃ c zs, w = .ref c ∧ (h2 c = some (.lst zs) ∨ SqT K h2 c zs) ∧ RDs K G m2 b2 zs ys := by
            cases d2 with
            | frz _ => cases nf
            | tup us =>
              cases e3
              cases r2 with
              | tup q1 _ q2 => exact ⟨_, _, rfl, .inr (sqT_mono ok2.sub q1), q2⟩
            | lst us =>
              cases e3
              cases r2 with
              | lst q1 q2 => exact ⟨_, _, rfl, .inl (ok2.sub _ _ q1), q2⟩
            | ref j =>
              obtain ⟨c, zs, q1, q2, q3⟩ := lstOf_ok ok2 r2 (show lstOf hp2 (.ref j) = some ys from e3)
              exact ⟨c, zs, q1, .inl q2, q3⟩
            | _ => cases e3
          obtain ⟨c, zs, rfl, hc2, rz⟩ := lies
          obtain ⟨ok3, st3⟩ := ok2.mut em2 o2 (rv.append rz)
          have fit : vs.length + zs.length ≤ sizeLine := by rw [rv.length, rz.length]; exact Nat.le_trans hc (by decide)
          have go := p _ _ _ _ ((x1.trans x2).trans st3) ok3 .non
          rcases hc2 with hc2 | hc2
          · exact .inl ⟨a, c, vs, zs, rfl, rfl, ha2, hc2, fit, go⟩
          · exact .inr ⟨a, c, vs, zs, rfl, rfl, ha2, hc2, fit, go⟩
        | exc x hp2 =>
          rw [e2] at p
          exact fun c dx m2 b2 h2 x2 => p c dx m2 b2 h2 (x1.trans x2)
        | bad => rw [e2] at p; exact p.elim
    | _ => exact p.elim
  | exc x hp1 => rw [e] at p; exact p
  | bad => rw [e] at p; exact p.elim
theorem mt_ext2 : MtM X "list.extend" (fun x vs H Q => rExtend x vs H Q ∨ rExtT X.K x vs H Q) := fun pins s σ H x xs v us Q I rx rxs h => h.elim (mt_extend pins s σ H x xs v us Q I rx rxs) (mt_extT pins s σ H x xs v us Q I rx rxs)
variable {x : Str} {p pos apos cpos kpos : Pos} {a e : Expr}
theorem xext2 {b : Expr} (hK : X.K = K) (ho : PX K G W X a ea) (hb : PX K G W X b eb) (hbase : attributeBase a "extend" X.env (eval a X.env) = eval a X.env := by rfl)
    (hfew : ((backTo cpos (starEach [b] X.env)).all (fun x => !x.1) && (backToKw cpos (keywordEach [] X.env)).all (fun x => x.1.isSome)
      && decide ([b].length + ([] : List Keyword).length + (if ([] : List Keyword).isEmpty then 0 else 1) < 30)) = true := by rfl)
    (hline : (apos.endLine == cpos.line) = true := by rfl) (hs : starEach [b] X.env = (false, eval b X.env) :: starEach [] X.env := by rfl) (hplain : (backTo cpos (starEach ([] : List Expr) X.env)).any (·.1) = false := by rfl) : PX K G W X (.Call (.Attribute a "extend" apos) [b] [] cpos) (eExt2 ea eb) := by
  subst hK
  exact px (pe_bm PySem.F.plainAttrs_list PySem.F.slot_list_extend PySem.F.type_list_extend mt_ext2 ho (pa_cons hb pa_nil hs) hbase hfew hline hs hplain) (sn_ext2 sn_of sn_of)
end
end EV

/-! loops and comprehensions over a list that may change -/
namespace EV
open PySem L2 DV
def forR (n : Nat) (g : EG) (eb : ES) : Nat → Nat → Sl → List O → RS
  | 0, _, _, _ => .bad
  | f + 1, i, s, hp => match hp[n]? with
    | some (.lst xs) => (match xs[i]? with
      | none => .nx s hp
      | some d => (match g s d with
        | some s1 => (match eb s1 hp with
          | .nx s2 hp2 => forR n g eb f (i + 1) s2 hp2
          | .ct s2 hp2 => forR n g eb f (i + 1) s2 hp2
          | .bk s2 hp2 => .nx s2 hp2
          | .rt d hp2 => .rt d hp2
          | .exc x s2 hp2 => .exc x s2 hp2
          | .bad => .bad)
        | none => .bad))
    | _ => .bad
def sForR (ea : EE) (g : EG) (eb : ES) : ES := fun s hp => match ea s hp with
  | .ok (.ref n) hp1 => if isLst hp1[n]? then forR n g eb 100000 0 s hp1 else .bad
  | .exc x hp1 => .exc x s hp1
  | _ => .bad
def compR (n : Nat) (eg : EG) (et ee : EE) (s : Sl) : Nat → Nat → List O → RA
  | 0, _, _ => .bad
  | f + 1, i, hp => match hp[n]? with
    | some (.lst xs) => (match xs[i]? with
      | none => .ok [] hp
      | some d => (match eg s d with
        | some s1 => (match et s1 hp with
          | .ok (.bl true) hp1 => (match ee s1 hp1 with
            | .ok y hp2 => (match compR n eg et ee s f (i + 1) hp2 with
              | .ok ys hp3 => .ok (y :: ys) hp3
              | r => r)
            | _ => .bad)
          | .ok (.bl false) hp1 => compR n eg et ee s f (i + 1) hp1
          | _ => .bad)
        | none => .bad))
    | _ => .bad
def eCompR (ea : EE) (eg : EG) (et ee : EE) (vs : List Nat) : EE := fun s hp => match ea s hp with
  | .ok (.ref n) hp1 => if isLst hp1[n]? then (match compR n eg et ee (wipeE s vs) 20000 0 hp1 with
    | .ok ys hp2 => .ok (.lst ys) hp2
    | _ => .bad) else .bad
  | .exc x hp1 => .exc x hp1
  | _ => .bad
section
variable {K : PySem.W.Frag} {G : Gs} {W : WX} {m : List Addr} {b h : Hp} {hp : List O} {ea ee et : EE} {ta te : TE} {tt : TT} {X : Cx} {g : TG} {eg : EG} {ns vs : List Nat} {a : ES} {t : TS}
theorem sqL_of {H : Hp} {p : Addr} {xs : List V} (e : H p = some (.lst xs)) : SqL K H p xs := .inl (.inl e)
/-- where the list lies as it is -/
theorem list_here (ok : Ok K G m b h hp) {n : Nat} {p : Addr} (em : m[n]? = some p) {xs : List D} (e : hp[n]? = some (.lst xs)) : ∃ us, SqL K h p us ∧ RDs K G m b us xs := by
  obtain ⟨_, us, q, r⟩ := ok.ob n p _ em e
  exact ⟨us, sqL_of q, r⟩
theorem snS_forR (ha : SnE K G W ta ea) (hg : SnG K G ns g eg) (hb : SnS K G W t a) : SnS K G W (tFor (iList K ta) g t) (sForR ea eg a) := fun m b h hp σ s ok sl Z p => by
  refine ha m b h hp σ s ok sl _ ?_
  unfold sForR at p
  cases e : ea s hp with
  | ok d hp1 =>
    rw [e] at p
    cases d with
    | ref n =>
      dsimp only at p
      by_cases il : isLst hp1[n]? = true
      case neg => rw [if_neg il] at p; exact p.elim
      rw [if_pos il] at p
      obtain ⟨ws, e1⟩ := isLst_of il
      intro v m1 b1 h1 x1 ok1 r1
      cases r1 with
      | @ref q _ em =>
        obtain ⟨us, hu, _⟩ := list_here ok1 em e1
        refine ⟨q, rfl, ⟨us, hu⟩, ?_⟩
        refine ⟨fun i f σ' H => ∃ m' b' hp' s', Stp m1 b1 h1 m' b' H ∧ Ok K G m' b' H hp' ∧ Sls K G m' b' σ' s' ∧ PostS K G m' b' H (forR n eg a f i s' hp') Z W, ⟨100000, m1, b1, hp1, s, Stp.rfl' ok1.sub, ok1, sl.go x1, p.go x1⟩, ?_⟩
        rintro i f σ' H ⟨m', b', hp', s', st, ok', sl', p'⟩
        cases f with
        | zero => exact p'.elim
        | succ f =>
          unfold forR at p'
          obtain ⟨ms, em', _⟩ := st.pre
          have emq : m'[n]? = some q := by
            have lt : n < m1.length := (List.getElem?_eq_some_iff.mp em).1
            rw [em', List.getElem?_append_left lt]; exact em
          cases o1 : hp'[n]? with
          | none => rw [o1] at p'; exact p'.elim
          | some ob =>
            rw [o1] at p'
            cases ob with
            | lst xs =>
              dsimp only at p'
              obtain ⟨us, hu, ru⟩ := list_here ok' emq o1
              cases o2 : xs[i]? with
              | none =>
                rw [o2] at p'
                refine .inl ⟨⟨us, hu, ?_⟩, p' σ' m' b' H (Stp.rfl' ok'.sub) ok' sl'⟩
                rw [ru.length]
                exact List.getElem?_eq_none_iff.mp o2
              | some d =>
                rw [o2] at p'
                dsimp only at p'
                obtain ⟨y, hy, ry⟩ := ru.get o2
                refine .inr ⟨⟨us, y, hu, hy⟩, fun σ3 H3 => ∃ m3 b3 hp3 s3, Stp m1 b1 h1 m3 b3 H3 ∧ Ok K G m3 b3 H3 hp3 ∧ Sls K G m3 b3 σ3 s3 ∧ PostS K G m3 b3 H3 (forR n eg a f (i + 1) s3 hp3) Z W, fun σ3 H3 z => ⟨f, Nat.lt_succ_self f, z⟩, ?_⟩
                rintro x H' ⟨eH, hx⟩
                have eH : H' = H := eH
                subst eH
                have hx := hx us hu
                rw [hy] at hx
                cases hx
                cases e3 : eg s' d with
                | none => rw [e3] at p'; exact p'.elim
                | some s1 =>
                  rw [e3] at p'
                  dsimp only at p'
                  refine hg m' b' H' σ' s' y d s1 ok'.sub sl' ry e3 _ fun σ2 _ sl3 => ?_
                  refine hb m' b' H' hp' σ2 s1 ok' sl3 _ ?_
                  cases e2 : a s1 hp' with
                  | nx s2 hp2 =>
                    rw [e2] at p'
                    exact fun σ3 m3 b3 h3 x3 ok3 sl3 => ⟨m3, b3, hp2, s2, st.trans x3, ok3, sl3, p'.go x3⟩
                  | ct s2 hp2 =>
                    rw [e2] at p'
                    exact fun σ3 m3 b3 h3 x3 ok3 sl3 => ⟨m3, b3, hp2, s2, st.trans x3, ok3, sl3, p'.go x3⟩
                  | bk s2 hp2 => rw [e2] at p'; exact p'
                  | rt d2 hp2 => rw [e2] at p'; exact p'
                  | exc x2 s2 hp2 => rw [e2] at p'; exact p'
                  | bad => rw [e2] at p'; exact p'.elim
            | _ => exact p'.elim
    | _ => exact p.elim
  | exc x hp1 =>
    rw [e] at p
    exact fun cls dx m1 b1 g1 x1 ok1 => p cls dx σ m1 b1 g1 x1 ok1 (sl.go x1)
  | bad => rw [e] at p; exact p.elim
theorem compR_len {n : Nat} {s : Sl} : ∀ (f i : Nat) (hp : List O) (ys : List D) (hp2 : List O), compR n eg et ee s f i hp = .ok ys hp2 → ys.length ≤ f
  | 0, _, _, _, _, e => by cases e
  | f + 1, i, hp, ys, hp2, e => by
    unfold compR at e
    split at e
    case h_2 => cases e
    split at e
    · cases e; exact Nat.zero_le _
    split at e
    case h_2 => cases e
    split at e
    · split at e
      · split at e
        · rename_i q
          cases e
          have := compR_len _ _ _ _ _ q
          rw [List.length_cons]; omega
        · rename_i nq
          exact absurd e (nq _ _)
      · cases e
    · exact Nat.le_succ_of_le (compR_len _ _ _ _ _ e)
    · cases e
theorem sn_compR (ha : SnE K G W ta ea) (hg : SnG K G ns g eg) (hs : ∀ i ∈ ns, i ∈ vs) (ht : SnT K G WF tt et) (he : SnE K G WF te ee) : SnE K G W (tLc (iList K ta) g tt te vs) (eCompR ea eg et ee vs) := fun m b h hp σ s ok sl Q p => by
  refine ha m b h hp σ s ok sl _ ?_
  unfold eCompR at p
  cases e : ea s hp with
  | ok d hp1 =>
    rw [e] at p
    cases d with
    | ref n =>
      dsimp only at p
      by_cases il : isLst hp1[n]? = true
      case neg => rw [if_neg il] at p; exact p.elim
      rw [if_pos il] at p
      obtain ⟨ws, e1⟩ := isLst_of il
      intro v m1 b1 h1 x1 ok1 r1
      cases r1 with
      | @ref q _ em =>
        obtain ⟨us, hu, _⟩ := list_here ok1 em e1
        refine ⟨q, rfl, ⟨us, hu⟩, fun P hP => ?_⟩
        cases ec : compR n eg et ee (wipeE s vs) 20000 0 hp1 with
        | exc _ _ => rw [ec] at p; exact p.elim
        | bad => rw [ec] at p; exact p.elim
        | ok ys hpf =>
          rw [ec] at p
          have bP : b1 P = none := ok1.sub.free hP
          have mP : P ∉ m1 := ok1.notin hP
          refine ⟨fun i f H => ∃ m' b' hp' acc done rest, Stp m1 b1 h1 m' b' H ∧ Ok K G m' b' H hp' ∧ b' P = none ∧ P ∉ m' ∧ H P = some (.lst acc) ∧ RDs K G m' b' acc done ∧ done.length + f ≤ 20000 ∧ compR n eg et ee (wipeE s vs) f i hp' = .ok rest hpf ∧ done ++ rest = ys,
            ⟨20000, m1, b1, hp1, [], [], ys, (Stp.rfl' ok1.sub).off hP bP, ok1.off bP mP, bP, mP, upd_same, .nil, by show 0 + 20000 ≤ 20000; omega, ec, rfl⟩, ?_⟩
          rintro i f H ⟨m', b', hp', acc, done, rest, st, ok', bP', mP', hA, rA, hd, ec', ey⟩
          cases f with
          | zero => cases ec'
          | succ f =>
            unfold compR at ec'
            obtain ⟨ms, em', _⟩ := st.pre
            have emq : m'[n]? = some q := by
              have lt : n < m1.length := (List.getElem?_eq_some_iff.mp em).1
              rw [em', List.getElem?_append_left lt]; exact em
            cases o1 : hp'[n]? with
            | none => rw [o1] at ec'; cases ec'
            | some ob =>
              rw [o1] at ec'
              cases ob with
              | lst xs =>
                dsimp only at ec'
                obtain ⟨us, hu, ru⟩ := list_here ok' emq o1
                cases o2 : xs[i]? with
                | none =>
                  rw [o2] at ec'
                  cases ec'
                  rw [List.append_nil] at ey
                  subst ey
                  have st' := st.seal hP bP' hA
                  refine .inl ⟨⟨us, hu, ?_⟩, p _ m' _ H (x1.trans st') (ok'.seal bP' mP' hA) (.lst upd_same (rA.monoB (Fr.seal ok'.sub bP' hA).1))⟩
                  rw [ru.length]
                  exact List.getElem?_eq_none_iff.mp o2
                | some d =>
                  rw [o2] at ec'
                  dsimp only at ec'
                  obtain ⟨y, hy, ry⟩ := ru.get o2
                  refine .inr ⟨⟨us, y, hu, hy⟩, fun H3 => ∃ m3 b3 hp3 acc3 done3 rest3, Stp m1 b1 h1 m3 b3 H3 ∧ Ok K G m3 b3 H3 hp3 ∧ b3 P = none ∧ P ∉ m3 ∧ H3 P = some (.lst acc3) ∧ RDs K G m3 b3 acc3 done3 ∧ done3.length + f ≤ 20000 ∧ compR n eg et ee (wipeE s vs) f (i + 1) hp3 = .ok rest3 hpf ∧ done3 ++ rest3 = ys, fun H3 z => ⟨f, Nat.lt_succ_self f, z⟩, ?_⟩
                  rintro x H' ⟨eH, hx⟩
                  have eH : H' = H := eH
                  subst eH
                  have hx := hx us hu
                  rw [hy] at hx
                  cases hx
                  cases e3 : eg (wipeE s vs) d with
                  | none => rw [e3] at ec'; cases ec'
                  | some s1 =>
                    rw [e3] at ec'
                    dsimp only at ec'
                    refine hg m' b' H' _ _ y d s1 ok'.sub (((sl.go x1).go st).wipe vs) ry e3 _ fun σ2 on sl3 => ⟨on.wipe hs, ?_⟩
                    cases e2 : et s1 hp' with
                    | ok dt hp1' =>
                      rw [e2] at ec'
                      cases dt with
                      | bl c =>
                        refine snT_use ht ok' sl3 (fun c' hpx ex m3 b3 H3 st3 ok3 => ?_) (fun x' hpx ex => by rw [e2] at ex; cases ex) (.inl ⟨c, hp1', e2⟩)
                        rw [e2] at ex; cases ex
                        have o3 := st3.own bP' mP' hA
                        cases c with
                        | true =>
                          rw [if_pos rfl]
                          dsimp only at ec'
                          cases e4 : ee s1 hp1' with
                          | ok z hp2 =>
                            rw [e4] at ec'
                            dsimp only at ec'
                            cases e5 : compR n eg et ee (wipeE s vs) f (i + 1) hp2 with
                            | ok rs hp3 =>
                              rw [e5] at ec'
                              cases ec'
                              refine he m3 b3 H3 hp1' σ2 s1 ok3 (sl3.go st3) _ ?_
                              rw [e4]
                              intro v m4 b4 H4 st4 ok4 r4
                              have o4 := st4.own o3.1 o3.2.1 o3.2.2
                              refine ⟨acc, o4.2.2, ?_, m4, b4, hp2, acc ++ [v], done ++ [z], rs, ((st.trans st3).trans st4).off hP o4.1, ok4.off o4.1 o4.2.1, o4.1, o4.2.1, upd_same, ((rA.go st3).go st4).append (.cons r4 .nil), ?_, e5, ?_⟩
                              · rw [rA.length]; exact Nat.lt_of_lt_of_le (show done.length < 20001 by omega) (by decide)
                              · rw [List.length_append]; show done.length + 1 + f ≤ 20000; omega
                              · rw [List.append_assoc]; exact ey
                            | exc _ _ => rw [e5] at ec'; cases ec'
                            | bad => rw [e5] at ec'; cases ec'
                          | exc _ _ => rw [e4] at ec'; cases ec'
                          | bad => rw [e4] at ec'; cases ec'
                        | false =>
                          rw [if_neg Bool.false_ne_true]
                          exact ⟨m3, b3, hp1', acc, done, rest, st.trans st3, ok3, o3.1, o3.2.1, o3.2.2, rA.go st3, by omega, ec', ey⟩
                      | _ => cases ec'
                    | exc _ _ => rw [e2] at ec'; cases ec'
                    | bad => rw [e2] at ec'; cases ec'
              | _ => cases ec'
    | _ => exact p.elim
  | exc x hp1 => rw [e] at p; exact p
  | bad => rw [e] at p; exact p.elim
abbrev iAny (K : PySem.W.Frag) (ta : TE) : TI := fun σ H R => iTup K ta σ H R ∨ (fun σ H R => iList K ta σ H R ∨ iStr ta σ H R) σ H R
def sForX (ea : EE) (g : EG) (eb : ES) : ES := fun s hp => match ea s hp with
  | .ok (.ref _) _ => sForR ea g eb s hp
  | _ => sFor (iSeq ea) g eb s hp
def eCompX (ea : EE) (eg : EG) (et ee : EE) (vs : List Nat) : EE := fun s hp => match ea s hp with
  | .ok (.ref _) _ => eCompR ea eg et ee vs s hp
  | _ => eComp (iSeq ea) eg et ee vs s hp
theorem snS_forX (ha : SnE K G W ta ea) (hg : SnG K G ns g eg) (hb : SnS K G W t a) : SnS K G W (tFor (iAny K ta) g t) (sForX ea eg a) := fun m b h hp σ s ok sl Z p => by
  unfold sForX at p
  split at p
  · exact .inr (.inl (snS_forR ha hg hb m b h hp σ s ok sl Z p))
  · exact snS_for (snI_seq ha) hg hb m b h hp σ s ok sl Z p
theorem sn_compX (ha : SnE K G W ta ea) (hg : SnG K G ns g eg) (hs : ∀ i ∈ ns, i ∈ vs) (ht : SnT K G WF tt et) (he : SnE K G WF te ee) : SnE K G W (tLc (iAny K ta) g tt te vs) (eCompX ea eg et ee vs) := fun m b h hp σ s ok sl Q p => by
  unfold eCompX at p
  split at p
  · exact .inr (.inl (sn_compR ha hg hs ht he m b h hp σ s ok sl Q p))
  · exact sn_comp (snI_seq ha) hg hs ht he m b h hp σ s ok sl Q p
theorem pi_any {tg e : Expr} {te : TE} (hK : X.K = K) (h : PE X e te) : PI X tg e (iAny K te) := by subst hK; exact PIor (pi_tup h) (PIor (pi_list h) (pi_str h))
variable {tg e elt : Expr} {ev : EE} {sts : List Stmt} {A : ES} {pos : Pos} {scope : Scope} {own : List (Str × Nat)} {ifs : List Expr}
theorem xs_forX (hp : PassesOwn (model X.prog X.w) X.A X.env X.xe) (hc : X.calm = true) (hK : X.K = K) (hi : PX K G W X e ev) (hg : PXG K G X ns tg eg) (hb : PXB K G W X sts A) (hs : ∀ x, foldedSetIterable e X.env x = pure x := by intro _; rfl) : PXS K G W X (.For tg e sts [] pos) (sForX ev eg A) := by
  obtain ⟨g, g1, g2⟩ := hg
  exact pxS (ps_for hp hc (pi_any hK hi) g1 hb hs) (snS_forX sn_of g2 snS_of)
theorem xcompX (hc : X.calm = true) (hN : X.N.Nodup) (hK : X.K = K) (hi : PX K G W X e ea) (ok : BlkOk X.N X.env.scope scope own) (hs0 : ∀ i ∈ ns, i ∈ own.map (·.2))
    (hg : ∃ g, (∀ (s : Shared) (H : Hp) (C : Addr) (cl : List (Str × Addr)) (fp : List Addr), PG (X.blk s H scope (compEnvC scope cl C X.env) fp) tg g) ∧ SnG K G ns g eg)
    (ht : ∀ (s : Shared) (H : Hp) (C : Addr) (cl : List (Str × Addr)) (fp : List Addr), PXTs K G (X.blk s H scope (compEnvC scope cl C X.env) fp) ifs et)
    (he : ∀ (s : Shared) (H : Hp) (C : Addr) (cl : List (Str × Addr)) (fp : List Addr), PX K G WF (X.blk s H scope (compEnvC scope cl C X.env) fp) elt ev) (hs : ∀ x, foldedSetIterable e X.env x = pure x := by intro _; rfl) :
    PX K G W X (.ListComp elt [⟨tg, e, ifs, 0⟩] scope pos) (eCompX ea eg et ev (own.map (·.2))) := by
  obtain ⟨g, g1, g2⟩ := hg
  exact px (pe_lc hc hN (pi_any hK hi) ok g1 ht he hs) (sn_compX sn_of g2 hs0 snT_of sn_of)
/-- a comprehension whose list may change -/
theorem xcompM {ei : EI} (hc : X.calm = true) (hN : X.N.Nodup) (hi : PXI K G W X tg e ei) (ok : BlkOk X.N X.env.scope scope own) (hs0 : ∀ i ∈ ns, i ∈ own.map (·.2))
    (hg : ∃ g, (∀ (s : Shared) (H : Hp) (C : Addr) (cl : List (Str × Addr)) (fp : List Addr), PG (X.blk s H scope (compEnvC scope cl C X.env) fp) tg g) ∧ SnG K G ns g eg)
    (ht : ∀ (s : Shared) (H : Hp) (C : Addr) (cl : List (Str × Addr)) (fp : List Addr), PXTs K G (X.blk s H scope (compEnvC scope cl C X.env) fp) ifs et)
    (he : ∀ (s : Shared) (H : Hp) (C : Addr) (cl : List (Str × Addr)) (fp : List Addr), PX K G WF (X.blk s H scope (compEnvC scope cl C X.env) fp) elt ev) (hs : ∀ x, foldedSetIterable e X.env x = pure x := by intro _; rfl) :
    PX K G W X (.ListComp elt [⟨tg, e, ifs, 0⟩] scope pos) (eCompM ei eg et ev (own.map (·.2))) := by
  obtain ⟨g, g1, g2⟩ := hg
  exact px (pe_lc hc hN hi ok g1 ht he hs) (sn_compM PXI.sn g2 hs0 snT_of sn_of)
end
end EV

/-! before, of ints, texts and rows of ints -/
namespace EV
open PySem L2 DV
def fLtX (hp : List O) (d1 d2 : D) : Option D := match d1, d2 with
  | .int i, .int j => some (.bl (decide (i < j)))
  | .str i, .str j => some (.bl (decide (i.cps.toList < j.cps.toList)))
  | .tup xs, .tup ys => (match intsD xs, intsD ys with
    | some is, some js => some (.bl (HT.lexLt is js))
    | _, _ => none)
  | _, _ => none
section
variable {K : PySem.W.Frag} {G : Gs} {X : Cx}
theorem ok_ltX : OpOk K G (fun x y H Q => rI0 (fun i j => .bl (decide (i < j))) x y H Q ∨ ((∃ i j, x = .str i ∧ y = .str j ∧ Q (.bl (decide (i.cps.toList < j.cps.toList))) H) ∨ rLtT K x y H Q)) fLtX := fun m b h hp x y d1 d2 d ok r1 r2 e Q q => by
  unfold fLtX at e
  split at e
  · cases e; cases r1; cases r2
    exact .inl ⟨_, _, rfl, rfl, q _ b h (Fr.rfl' ok.sub) (.bl _)⟩
  · cases e; cases r1; cases r2
    exact .inr (.inl ⟨_, _, rfl, rfl, q _ b h (Fr.rfl' ok.sub) (.bl _)⟩)
  · split at e
    · rename_i is js e1 e2
      cases e
      cases r1 with
      | tup s1 _ a1 =>
        cases r2 with
        | tup s2 _ a2 =>
          have := rds_ints a1 e1
          subst this
          have := rds_ints a2 e2
          subst this
          exact .inr (.inr ⟨_, _, is, js, rfl, rfl, sqT_mono ok.sub s1, sqT_mono ok.sub s2, q _ b h (Fr.rfl' ok.sub) (.bl _)⟩)
    · cases e
  · cases e
theorem c_ltX (hK : X.K = K) (hu : X.A.units + 64 < cLine) : CpR K G X .Lt fLtX := by subst hK; exact ⟨_, OpR.or op_lt (OpR.or op_lt_str (op_ltT (by omega))), ok_ltX⟩
end
end EV

namespace LW
open PySem L2 DV EV
def mt_Unfit : Nat → Option Bool
  | 0 => some true
  | _ => none
def isT_ValueError : Nat → Option Bool
  | 0 => some true
  | _ => none
def E_is_number : ES :=
  (sRet (eAndT (eBi fIsi (aCons (eVar 0) (aCons (eCon (.ty .int)) aNil))) (eNot (eBi fIsi (aCons (eVar 0) (aCons (eCon (.ty .bool)) aNil))))))
def F_is_number : List D → List O → RE := runB 1 (E_is_number)
def E_is_natural : ES :=
  (sRet (eAndT (eCall F_is_number [] (aCons (eVar 0) aNil)) (eBin (fLt fun i j => decide (j ≤ i)) (eVar 0) (eCon (.int 0)))))
def F_is_natural : List D → List O → RE := runB 1 (E_is_natural)
def E_is_below : ES :=
  (sRet (eAndT (eCall F_is_natural [] (aCons (eVar 0) aNil)) (eBin (fLt fun i j => decide (i < j)) (eVar 0) (eVar 1))))
def F_is_below : List D → List O → RE := runB 2 (E_is_below)
def E_is_row : ES :=
  (sRet (eAndT (eBi fIsi (aCons (eVar 0) (aCons (eCon (.ty .tuple)) aNil))) (eBin (fEq false) (eBi fLen (aCons (eVar 0) aNil)) (eVar 1))))
def F_is_row : List D → List O → RE := runB 2 (E_is_row)
def E_is_row_of (j_is_such : Nat) (F_is_such : List D → List O → RE) : ES :=
  (sRet (eAndT (eBi fIsi (aCons (eVar 1) (aCons (eCon (.ty .tuple)) aNil))) (eBi fAll (aCons (eComp (iSeq (eVar 1)) (gNm 2) (eCon (.bl true)) (eCallV' 0 j_is_such F_is_such (aCons (eVar 2) aNil)) [2]) aNil))))
def F_is_row_of (j_is_such : Nat) (F_is_such : List D → List O → RE) : List D → List O → RE := runB 3 (E_is_row_of j_is_such F_is_such)
def E_is_rising : ES :=
  (sRet (eBi fAll (aCons (eComp (iRange (aCons (eCon (.int 1)) (aCons (eBi fLen (aCons (eVar 0) aNil)) aNil))) (gNm 1) (eCon (.bl true)) (eBin (fLtX) (eBin fIx (eVar 0) (eBin fSub (eVar 1) (eCon (.int 1)))) (eBin fIx (eVar 0) (eVar 1))) [1]) aNil)))
def F_is_rising : List D → List O → RE := runB 2 (E_is_rising)
def E_as_tuples (R_as_tuples : List D → List O → RE) : ES :=
  (sSeq (sIf (eOr (eBin (fEq false) (eVar 1) (eCon (.int 0))) (eNot (eTru (eIsi2 (eVar 0) .list .tuple)))) (sRet (eVar 0)) sNext)
    (sRet (eBi fTuple2 (aCons (eComp (iSeq (eVar 0)) (gNm 2) (eCon (.bl true)) (eCall R_as_tuples [] (aCons (eVar 2) (aCons (eBin fSub (eVar 1) (eCon (.int 1))) aNil))) [2]) aNil))))
def F_as_tuples : Nat → List D → List O → RE
  | 0 => fun _ _ => .bad
  | n + 1 => runB 3 (E_as_tuples (F_as_tuples n))
def E_checked (j_is_such : Nat) (F_is_such : List D → List O → RE) : ES :=
  (sSeq (sAsg (eCall (F_as_tuples 8) [.int 20] (aCons (eVar 1) aNil)) (gNm 2))
    (sSeq (sIf (eNot (eTru (eCallV' 0 j_is_such F_is_such (aCons (eVar 2) aNil)))) (sRaise 0 none aNil) sNext)
    (sRet (eVar 2))))
def F_checked (j_is_such : Nat) (F_is_such : List D → List O → RE) : List D → List O → RE := runB 3 (E_checked j_is_such F_is_such)
def E_is_word : ES :=
  (sSeq (sIf (eOr (eNot (eTru (eBi fIsi (aCons (eVar 0) (aCons (eCon (.ty .str)) aNil))))) (eNot (eChain (fLt fun i j => decide (i ≤ j)) (fLt fun i j => decide (i ≤ j)) (eCon (.int 1)) (eBi fLen (aCons (eVar 0) aNil)) (eCon (.int 12))))) (sRet (eCon (.bl false))) sNext)
    (sRet (eBi fAll (aCons (eComp (iSeq (eVar 0)) (gNm 1) (eCon (.bl true)) (eBin (fIn false) (eVar 1) (eCon (.str "abcdefghijklmnopqrstuvwxyz0123456789"))) [1]) aNil))))
def F_is_word : List D → List O → RE := runB 2 (E_is_word)
def E_is_key : ES :=
  (sRet (eAndT (eBi fIsi (aCons (eVar 0) (aCons (eCon (.ty .str)) aNil))) (eCall F_is_word [] (aCons (eSM fRemP (eVar 0) (aCons (eCon (.str "@")) aNil)) aNil))))
def F_is_key : List D → List O → RE := runB 1 (E_is_key)
def E_is_single : ES :=
  (sSeq (sIf (eTru (eCall F_is_row [] (aCons (eVar 0) (aCons (eCon (.int 3)) aNil)))) (sRet (eAndT (eBin (fEq false) (eBin fIx (eVar 0) (eCon (.int 0))) (eCon (.str "put"))) (eAndT (eCall F_is_key [] (aCons (eBin fIx (eVar 0) (eCon (.int 1))) aNil)) (eCall F_is_word [] (aCons (eBin fIx (eVar 0) (eCon (.int 2))) aNil))))) sNext)
    (sRet (eAndT (eCall F_is_row [] (aCons (eVar 0) (aCons (eCon (.int 2)) aNil))) (eAndT (eBin (fEq false) (eBin fIx (eVar 0) (eCon (.int 0))) (eCon (.str "drop"))) (eCall F_is_key [] (aCons (eBin fIx (eVar 0) (eCon (.int 1))) aNil))))))
def F_is_single : List D → List O → RE := runB 1 (E_is_single)
def E_is_deed : ES :=
  (sSeq (sIf (eAnd (eTru (eCall F_is_row [] (aCons (eVar 0) (aCons (eCon (.int 2)) aNil)))) (eBin (fEq false) (eBin fIx (eVar 0) (eCon (.int 0))) (eCon (.str "lot")))) (sRet (eAndT (eCall (F_is_row_of 10 F_is_single) [] (aCons (eCon (.fn 10)) (aCons (eBin fIx (eVar 0) (eCon (.int 1))) aNil))) (eBin (fLt fun i j => decide (j ≤ i)) (eBi fLen (aCons (eBin fIx (eVar 0) (eCon (.int 1))) aNil)) (eCon (.int 2))))) sNext)
    (sRet (eCall F_is_single [] (aCons (eVar 0) aNil))))
def F_is_deed : List D → List O → RE := runB 1 (E_is_deed)
def E_is_record : ES :=
  (sSeq (sIf (eBin (fEq false) (eVar 0) (eCon (.tup [(.str "blank")]))) (sRet (eCon (.bl true))) sNext)
    (sSeq (sIf (eNot (eTru (eBi fIsi (aCons (eVar 0) (aCons (eCon (.ty .tuple)) aNil))))) (sRet (eCon (.bl false))) sNext)
    (sRet (eAndT (eCall F_is_single [] (aCons (eSl (eVar 0) oNone (oSome (eUn fNeg (eCon (.int 2))))) aNil)) (eAndT (eCall F_is_natural [] (aCons (eBin fIx (eVar 0) (eUn fNeg (eCon (.int 2)))) aNil)) (eCall F_is_natural [] (aCons (eBin fIx (eVar 0) (eUn fNeg (eCon (.int 1)))) aNil)))))))
def F_is_record : List D → List O → RE := runB 1 (E_is_record)
def E_is_table_pair : ES :=
  (sRet (eAndT (eCall F_is_row [] (aCons (eVar 0) (aCons (eCon (.int 2)) aNil))) (eAndT (eCall F_is_key [] (aCons (eBin fIx (eVar 0) (eCon (.int 0))) aNil)) (eCall F_is_word [] (aCons (eBin fIx (eVar 0) (eCon (.int 1))) aNil)))))
def F_is_table_pair : List D → List O → RE := runB 1 (E_is_table_pair)
def E_is_table : ES :=
  (sRet (eAndT (eCall (F_is_row_of 14 F_is_table_pair) [] (aCons (eCon (.fn 14)) (aCons (eVar 0) aNil))) (eCall F_is_rising [] (aCons (eComp (iSeq (eVar 0)) (gTpX 2 (gsCons (gNm 1) (gsCons (gNm 2) gsNil))) (eCon (.bl true)) (eVar 1) [1, 2]) aNil))))
def F_is_table : List D → List O → RE := runB 3 (E_is_table)
def E_is_deeds : ES :=
  (sRet (eCall (F_is_row_of 11 F_is_deed) [] (aCons (eCon (.fn 11)) (aCons (eVar 0) aNil))))
def F_is_deeds : List D → List O → RE := runB 1 (E_is_deeds)
def E_is_records : ES :=
  (sRet (eCall (F_is_row_of 12 F_is_record) [] (aCons (eCon (.fn 12)) (aCons (eVar 0) aNil))))
def F_is_records : List D → List O → RE := runB 1 (E_is_records)
def E_singles_in : ES :=
  (sSeq (sIf (eBin (fEq false) (eBin fIx (eVar 0) (eCon (.int 0))) (eCon (.str "lot"))) (sRet (eBin fIx (eVar 0) (eCon (.int 1)))) sNext)
    (sRet (eTup (aCons (eVar 0) aNil))))
def F_singles_in : List D → List O → RE := runB 1 (E_singles_in)
def E_parts_in : ES :=
  (sSeq (sAsg (eCall F_singles_in [] (aCons (eVar 0) aNil)) (gNm 1))
    (sSeq (sAsg (eBin fSub (eBi fLen (aCons (eVar 1) aNil)) (eCon (.int 1))) (gNm 2))
    (sRet (eBi fTuple2 (aCons (eComp (iEnumE (aCons (eVar 1) aNil)) (gTpX 2 (gsCons (gNm 3) (gsCons (gNm 4) gsNil))) (eCon (.bl true)) (eBin fAdd (eVar 4) (eTup (aCons (eVar 3) (aCons (eBin fSub (eVar 2) (eVar 3)) aNil)))) [3, 4]) aNil)))))
def F_parts_in : List D → List O → RE := runB 5 (E_parts_in)
def E_parts_of : ES :=
  (sRet (eCall F_parts_in [] (aCons (eCall (F_checked 11 F_is_deed) [] (aCons (eCon (.fn 11)) (aCons (eVar 0) aNil))) aNil)))
def F_parts_of : List D → List O → RE := runB 1 (E_parts_of)
def E_row_of : ES :=
  (sSeq (sAsg (eLstM aNil) (gNm 1))
    (sSeq (sFor (iSeq (eCall (F_checked 15 F_is_deeds) [] (aCons (eCon (.fn 15)) (aCons (eVar 0) aNil)))) (gNm 2) (sExpr (eExt2 (eVar 1) (eCall F_parts_in [] (aCons (eVar 2) aNil)))))
    (sRet (eBi fTuple2 (aCons (eVar 1) aNil)))))
def F_row_of : List D → List O → RE := runB 3 (E_row_of)
def E_keys_of : ES :=
  (sSeq (sAsg (eCall F_singles_in [] (aCons (eCall (F_checked 11 F_is_deed) [] (aCons (eCon (.fn 11)) (aCons (eVar 0) aNil))) aNil)) (gNm 1))
    (sRet (eBi fTuple2 (aCons (eSortX (eComp (iSeq (eVar 1)) (gNm 2) (eCon (.bl true)) (eBin fIx (eVar 2) (eCon (.int 1))) [2])) aNil))))
def F_keys_of : List D → List O → RE := runB 3 (E_keys_of)
def E_is_part_ahead : ES :=
  (sSeq (sIf (eOr (eBin (fEq false) (eVar 0) (eCon (.tup [(.str "blank")]))) (eBin (fEq false) (eVar 1) (eCon (.tup [(.str "blank")])))) (sRet (eCon (.bl false))) sNext)
    (sRet (eBin (fEq false) (eSl (eVar 0) (oSome (eUn fNeg (eCon (.int 2)))) oNone) (eTup (aCons (eBin fSub (eBin fIx (eVar 1) (eUn fNeg (eCon (.int 2)))) (eCon (.int 1))) (aCons (eBin fAdd (eBin fIx (eVar 1) (eUn fNeg (eCon (.int 1)))) (eCon (.int 1))) aNil))))))
def F_is_part_ahead : List D → List O → RE := runB 2 (E_is_part_ahead)
def E_first_closed : ES :=
  (sSeq (sIf (eOr (eBin (fEq false) (eBin fIx (eVar 0) (eVar 1)) (eCon (.tup [(.str "blank")]))) (eBin (fEq true) (eBin fIx (eBin fIx (eVar 0) (eVar 1)) (eUn fNeg (eCon (.int 1)))) (eCon (.int 0)))) (sRet (eCon .non)) sNext)
    (sSeq (sAsg (eBin fSub (eVar 1) (eBi fMin (aCons (eBin fIx (eBin fIx (eVar 0) (eVar 1)) (eUn fNeg (eCon (.int 2)))) (aCons (eVar 1) aNil)))) (gNm 2))
    (sSeq (sIf (eTru (eBi fAll (aCons (eComp (iRange (aCons (eVar 2) (aCons (eVar 1) aNil))) (gNm 3) (eCon (.bl true)) (eCall F_is_part_ahead [] (aCons (eBin fIx (eVar 0) (eVar 3)) (aCons (eBin fIx (eVar 0) (eBin fAdd (eVar 3) (eCon (.int 1)))) aNil))) [3]) aNil))) (sRet (eVar 2)) sNext)
    (sRet (eCon .non)))))
def F_first_closed : List D → List O → RE := runB 4 (E_first_closed)
def E_closed_lots : ES :=
  (sSeq (sAsg (eComp (iRange (aCons (eBi fLen (aCons (eVar 0) aNil)) aNil)) (gNm 2) (eCon (.bl true)) (eTup (aCons (eCall F_first_closed [] (aCons (eVar 0) (aCons (eVar 2) aNil))) (aCons (eVar 2) aNil))) [2]) (gNm 1))
    (sRet (eComp (iSeq (eVar 1)) (gNm 3) (eBin (fIs true) (eBin fIx (eVar 3) (eCon (.int 0))) (eCon .non)) (eVar 3) [3])))
def F_closed_lots : List D → List O → RE := runB 4 (E_closed_lots)
def E_closed_in : ES :=
  (sSeq (sAsg (eCall (F_checked 16 F_is_records) [] (aCons (eCon (.fn 16)) (aCons (eVar 0) aNil))) (gNm 1))
    (sRet (eComp (iSeq (eCall F_closed_lots [] (aCons (eVar 1) aNil))) (gTpX 2 (gsCons (gNm 3) (gsCons (gNm 4) gsNil))) (eCon (.bl true)) (eTup (aCons (eVar 4) (aCons (eBi fTuple2 (aCons (eComp (iSeq (eSl (eVar 1) (oSome (eVar 3)) (oSome (eBin fAdd (eVar 4) (eCon (.int 1)))))) (gNm 2) (eCon (.bl true)) (eSl (eVar 2) oNone (oSome (eUn fNeg (eCon (.int 2))))) [2]) aNil)) aNil))) [3, 4])))
def F_closed_in : List D → List O → RE := runB 5 (E_closed_in)
def E_begun_in : ES :=
  (sSeq (sIf (eOr (eBin (fEq false) (eBi fLen (aCons (eVar 0) aNil)) (eCon (.int 0))) (eOr (eBin (fEq false) (eBin fIx (eVar 0) (eUn fNeg (eCon (.int 1)))) (eCon (.tup [(.str "blank")]))) (eBin (fEq false) (eBin fIx (eBin fIx (eVar 0) (eUn fNeg (eCon (.int 1)))) (eUn fNeg (eCon (.int 1)))) (eCon (.int 0))))) (sRet (eCon (.int 0))) sNext)
    (sSeq (sAsg (eBin fSub (eBi fLen (aCons (eVar 0) aNil)) (eCon (.int 1))) (gNm 1))
    (sSeq (sWhile (eAnd (eBin (fLt fun i j => decide (j < i)) (eVar 1) (eCon (.int 0))) (eTru (eCall F_is_part_ahead [] (aCons (eBin fIx (eVar 0) (eBin fSub (eVar 1) (eCon (.int 1)))) (aCons (eBin fIx (eVar 0) (eVar 1)) aNil))))) (sAug 1 fSub (eCon (.int 1))))
    (sRet (eBin fSub (eBi fLen (aCons (eVar 0) aNil)) (eVar 1))))))
def F_begun_in : List D → List O → RE := runB 2 (E_begun_in)
def E_left_begun : ES :=
  (sRet (eCall F_begun_in [] (aCons (eCall (F_checked 16 F_is_records) [] (aCons (eCon (.fn 16)) (aCons (eVar 0) aNil))) aNil)))
def F_left_begun : List D → List O → RE := runB 1 (E_left_begun)
def E_table_with : ES :=
  (sSeq (sAsg (eDict (aCons (eVar 0) aNil)) (gNm 2))
    (sSeq (sForX (eVar 1) (gNm 3) (sIf (eBin (fEq false) (eBin fIx (eVar 3) (eCon (.int 0))) (eCon (.str "put"))) (sDSet (eBin fIx (eVar 3) (eCon (.int 2))) (eVar 2) (eBin fIx (eVar 3) (eCon (.int 1)))) (sExpr (eDPop2 (eVar 2) (eBin fIx (eVar 3) (eCon (.int 1))) (eCon .non)))))
    (sRet (eBi fTuple2 (aCons (eSortIt (eVar 2)) aNil)))))
def F_table_with : List D → List O → RE := runB 4 (E_table_with)
def E_with_single : ES :=
  (sSeq (sAsg (eCall (F_checked 13 F_is_table) [] (aCons (eCon (.fn 13)) (aCons (eVar 0) aNil))) (gNm 0))
    (sRet (eCall F_table_with [] (aCons (eVar 0) (aCons (eTup (aCons (eCall (F_checked 10 F_is_single) [] (aCons (eCon (.fn 10)) (aCons (eVar 1) aNil))) aNil)) aNil)))))
def F_with_single : List D → List O → RE := runB 2 (E_with_single)
def E_with_deeds : ES :=
  (sSeq (sAsg (eCall (F_checked 13 F_is_table) [] (aCons (eCon (.fn 13)) (aCons (eVar 0) aNil))) (gNm 0))
    (sSeq (sAsg (eLstM aNil) (gNm 2))
    (sSeq (sFor (iSeq (eCall (F_checked 15 F_is_deeds) [] (aCons (eCon (.fn 15)) (aCons (eVar 1) aNil)))) (gNm 3) (sExpr (eExt2 (eVar 2) (eCall F_singles_in [] (aCons (eVar 3) aNil)))))
    (sRet (eCall F_table_with [] (aCons (eVar 0) (aCons (eVar 2) aNil)))))))
def F_with_deeds : List D → List O → RE := runB 4 (E_with_deeds)
def E_is_fates_row : ES :=
  (sRet (eAndT (eBi fIsi (aCons (eVar 0) (aCons (eCon (.ty .tuple)) aNil))) (eBi fAll (aCons (eComp (iSeq (eVar 0)) (gNm 1) (eCon (.bl true)) (eBin (fIn false) (eVar 1) (eCon (.tup [(.str "new"), (.str "old"), (.str "torn")]))) [1]) aNil))))
def F_is_fates_row : List D → List O → RE := runB 2 (E_is_fates_row)
def E_is_shape : ES :=
  (sSeq (sIf (eOr (eNot (eTru (eCall F_is_row [] (aCons (eVar 0) (aCons (eCon (.int 3)) aNil))))) (eNot (eTru (eBi fAll (aCons (eComp (iSeq (eVar 0)) (gNm 1) (eCon (.bl true)) (eCall F_is_number [] (aCons (eVar 1) aNil)) [1]) aNil))))) (sRet (eCon (.bl false))) sNext)
    (sSeq (sAsg (eVar 0) (gTpX 3 (gsCons (gNm 2) (gsCons (gNm 3) (gsCons (gNm 4) gsNil)))))
    (sRet (eAndT (eBin (fLt fun i j => decide (j ≤ i)) (eVar 2) (eCon (.int 2))) (eAndT (eChain (fLt fun i j => decide (i ≤ j)) (fLt fun i j => decide (i < j)) (eCon (.int 1)) (eVar 3) (eVar 2)) (eBin (fLt fun i j => decide (j ≤ i)) (eVar 4) (eCon (.int 1))))))))
def F_is_shape : List D → List O → RE := runB 5 (E_is_shape)
def E_is_written_cell : ES :=
  (sRet (eAndT (eCall F_is_row [] (aCons (eVar 0) (aCons (eCon (.int 2)) aNil))) (eAndT (eCall F_is_natural [] (aCons (eBin fIx (eVar 0) (eCon (.int 0))) aNil)) (eCall F_is_record [] (aCons (eBin fIx (eVar 0) (eCon (.int 1))) aNil)))))
def F_is_written_cell : List D → List O → RE := runB 1 (E_is_written_cell)
def E_is_content_in : ES :=
  (sRet (eAndT (eCall F_is_written_cell [] (aCons (eVar 1) aNil)) (eBin (fLt fun i j => decide (i < j)) (eBin fIx (eVar 1) (eCon (.int 0))) (eBin fIx (eVar 0) (eCon (.int 2))))))
def F_is_content_in : List D → List O → RE := runB 2 (E_is_content_in)
def E_is_cell_in : ES :=
  (sRet (eOrT (eBin (fEq false) (eVar 1) (eCon (.tup [(.str "torn")]))) (eCall F_is_content_in [] (aCons (eVar 0) (aCons (eVar 1) aNil)))))
def F_is_cell_in : List D → List O → RE := runB 2 (E_is_cell_in)
def E_is_picture_in : ES :=
  (sRet (eAndT (eCall F_is_row [] (aCons (eVar 1) (aCons (eBin fIx (eVar 0) (eCon (.int 0))) aNil))) (eBi fAll (aCons (eComp (iSeq (eVar 1)) (gNm 2) (eCon (.bl true)) (eCall F_is_cell_in [] (aCons (eVar 0) (aCons (eVar 2) aNil))) [2]) aNil))))
def F_is_picture_in : List D → List O → RE := runB 3 (E_is_picture_in)
def E_is_write_in : ES :=
  (sRet (eAndT (eCall F_is_row [] (aCons (eVar 1) (aCons (eCon (.int 2)) aNil))) (eAndT (eCall F_is_below [] (aCons (eBin fIx (eVar 1) (eCon (.int 0))) (aCons (eBin fIx (eVar 0) (eCon (.int 0))) aNil))) (eCall F_is_content_in [] (aCons (eVar 0) (aCons (eBin fIx (eVar 1) (eCon (.int 1))) aNil))))))
def F_is_write_in : List D → List O → RE := runB 2 (E_is_write_in)
def E_is_device : ES :=
  (sSeq (sIf (eOr (eNot (eTru (eCall F_is_row [] (aCons (eVar 0) (aCons (eCon (.int 3)) aNil))))) (eNot (eTru (eCall F_is_shape [] (aCons (eBin fIx (eVar 0) (eCon (.int 0))) aNil))))) (sRet (eCon (.bl false))) sNext)
    (sSeq (sAsg (eVar 0) (gTpX 3 (gsCons (gNm 1) (gsCons (gNm 2) (gsCons (gNm 3) gsNil)))))
    (sSeq (sIf (eOr (eNot (eTru (eCall F_is_picture_in [] (aCons (eVar 1) (aCons (eVar 2) aNil))))) (eNot (eTru (eBi fIsi (aCons (eVar 3) (aCons (eCon (.ty .tuple)) aNil)))))) (sRet (eCon (.bl false))) sNext)
    (sRet (eAndT (eBin (fLt fun i j => decide (i ≤ j)) (eBi fLen (aCons (eVar 3) aNil)) (eBin fIx (eVar 1) (eCon (.int 1)))) (eBi fAll (aCons (eComp (iSeq (eVar 3)) (gNm 4) (eCon (.bl true)) (eCall F_is_write_in [] (aCons (eVar 1) (aCons (eVar 4) aNil))) [4]) aNil)))))))
def F_is_device : List D → List O → RE := runB 5 (E_is_device)
def E_is_event : ES :=
  (sSeq (sIf (eOr (eBin (fEq false) (eVar 0) (eTup (aCons (eCon (.str "sync")) aNil))) (eBin (fEq false) (eVar 0) (eTup (aCons (eCon (.str "wake")) aNil)))) (sRet (eCon (.bl true))) sNext)
    (sSeq (sIf (eTru (eCall F_is_row [] (aCons (eVar 0) (aCons (eCon (.int 2)) aNil)))) (sRet (eOrT (eAndT (eBin (fEq false) (eBin fIx (eVar 0) (eCon (.int 0))) (eCon (.str "write"))) (eCall F_is_record [] (aCons (eBin fIx (eVar 0) (eCon (.int 1))) aNil))) (eAndT (eBin (fEq false) (eBin fIx (eVar 0) (eCon (.int 0))) (eCon (.str "cut"))) (eCall F_is_fates_row [] (aCons (eBin fIx (eVar 0) (eCon (.int 1))) aNil))))) sNext)
    (sRet (eAndT (eCall F_is_row [] (aCons (eVar 0) (aCons (eCon (.int 3)) aNil))) (eAndT (eBin (fEq false) (eBin fIx (eVar 0) (eCon (.int 0))) (eCon (.str "mend"))) (eAndT (eCall F_is_natural [] (aCons (eBin fIx (eVar 0) (eCon (.int 1))) aNil)) (eCall F_is_fates_row [] (aCons (eBin fIx (eVar 0) (eCon (.int 2))) aNil))))))))
def F_is_event : List D → List O → RE := runB 1 (E_is_event)
def E_word_of : ES :=
  (sRet (eBi fStr (aCons (eVar 0) aNil)))
def F_word_of : List D → List O → RE := runB 1 (E_word_of)
def E_words_in (R_words_in : List D → List O → RE) : ES :=
  (sSeq (sIf (eTru (eBi fIsi (aCons (eVar 0) (aCons (eCon (.ty .str)) aNil)))) (sRet (eLst (aCons (eVar 0) aNil))) sNext)
    (sSeq (sIf (eNot (eTru (eBi fIsi (aCons (eVar 0) (aCons (eCon (.ty .tuple)) aNil))))) (sRet (eLst (aCons (eCall F_word_of [] (aCons (eVar 0) aNil)) aNil))) sNext)
    (sSeq (sAsg (eLstM aNil) (gNm 1))
    (sSeq (sFor (iSeq (eVar 0)) (gNm 2) (sExpr (eExt2 (eVar 1) (eCall R_words_in [] (aCons (eVar 2) aNil)))))
    (sRet (eVar 1))))))
def F_words_in : Nat → List D → List O → RE
  | 0 => fun _ _ => .bad
  | n + 1 => runB 3 (E_words_in (F_words_in n))
def E_text_with : ES :=
  (sRet (eSM fJoin (eCon (.str "")) (aCons (eComp (iSeq (eVar 0)) (gNm 1) (eCon (.bl true)) (eBin fAdd (eSM fJoin (eCon (.str " ")) (aCons (eCall (F_words_in 8) [] (aCons (eVar 1) aNil)) aNil)) (eCon (.str "\n"))) [1]) aNil)))
def F_text_with : List D → List O → RE := runB 2 (E_text_with)
def E_device_text : ES :=
  (sSeq (sAsg (eCall (F_checked 33 F_is_device) [] (aCons (eCon (.fn 33)) (aCons (eVar 0) aNil))) (gTpX 3 (gsCons (gNm 1) (gsCons (gNm 2) (gsCons (gNm 3) gsNil)))))
    (sSeq (sAsg (eBin fAdd (eBin fAdd (eLst (aCons (eTup (aCons (eCon (.str "ring")) (aCons (eVar 1) aNil))) aNil)) (eComp (iSeq (eVar 2)) (gNm 5) (eCon (.bl true)) (eTup (aCons (eCon (.str "cell")) (aCons (eVar 5) aNil))) [5])) (eComp (iSeq (eVar 3)) (gNm 6) (eCon (.bl true)) (eTup (aCons (eCon (.str "flight")) (aCons (eVar 6) aNil))) [6])) (gNm 4))
    (sRet (eCall F_text_with [] (aCons (eVar 4) aNil)))))
def F_device_text : List D → List O → RE := runB 7 (E_device_text)
def E_can_follow : ES :=
  (sRet (eBin (fEq false) (eBin (fIn false) (eBin fIx (eVar 1) (eCon (.int 0))) (eTup (aCons (eCon (.str "mend")) (aCons (eCon (.str "wake")) aNil)))) (eBin (fIn false) (eBin fIx (eVar 0) (eCon (.int 0))) (eTup (aCons (eCon (.str "cut")) (aCons (eCon (.str "mend")) aNil))))))
def F_can_follow : List D → List O → RE := runB 2 (E_can_follow)
def E_is_in_order : ES :=
  (sRet (eBi fAll (aCons (eComp (iZipX (aCons (eBin fAdd (eTup (aCons (eTup (aCons (eCon (.str "sync")) aNil)) aNil)) (eVar 0)) (aCons (eVar 0) aNil))) (gTpX 2 (gsCons (gNm 1) (gsCons (gNm 2) gsNil))) (eCon (.bl true)) (eCall F_can_follow [] (aCons (eVar 1) (aCons (eVar 2) aNil))) [1, 2]) aNil)))
def F_is_in_order : List D → List O → RE := runB 3 (E_is_in_order)
def E_is_life_row : ES :=
  (sRet (eAndT (eCall (F_is_row_of 39 F_is_event) [] (aCons (eCon (.fn 39)) (aCons (eVar 0) aNil))) (eCall F_is_in_order [] (aCons (eVar 0) aNil))))
def F_is_life_row : List D → List O → RE := runB 1 (E_is_life_row)
def E_life_text : ES :=
  (sRet (eCall F_text_with [] (aCons (eCall (F_checked 44 F_is_life_row) [] (aCons (eCon (.fn 44)) (aCons (eVar 0) aNil))) aNil)))
def F_life_text : List D → List O → RE := runB 1 (E_life_text)
def E_is_story_event : ES :=
  (sSeq (sIf (eAnd (eTru (eCall F_is_row [] (aCons (eVar 0) (aCons (eCon (.int 2)) aNil)))) (eBin (fEq false) (eBin fIx (eVar 0) (eCon (.int 0))) (eCon (.str "deed")))) (sRet (eCall F_is_deed [] (aCons (eBin fIx (eVar 0) (eCon (.int 1))) aNil))) sNext)
    (sRet (eAndT (eCall F_is_event [] (aCons (eVar 0) aNil)) (eBin (fEq true) (eBin fIx (eVar 0) (eCon (.int 0))) (eCon (.str "write"))))))
def F_is_story_event : List D → List O → RE := runB 1 (E_is_story_event)
def E_is_story_row : ES :=
  (sRet (eAndT (eCall (F_is_row_of 46 F_is_story_event) [] (aCons (eCon (.fn 46)) (aCons (eVar 0) aNil))) (eCall F_is_in_order [] (aCons (eVar 0) aNil))))
def F_is_story_row : List D → List O → RE := runB 1 (E_is_story_row)
def E_story_text : ES :=
  (sSeq (sAsg (eCall (F_checked 45 F_is_story_row) [] (aCons (eCon (.fn 45)) (aCons (eVar 0) aNil))) (gNm 1))
    (sRet (eCall F_text_with [] (aCons (eComp (iSeq (eVar 1)) (gNm 2) (eCon (.bl true)) (eIf (eBin (fEq false) (eBin fIx (eVar 2) (eCon (.int 0))) (eCon (.str "deed"))) (eBin fIx (eVar 2) (eCon (.int 1))) (eVar 2)) [2]) aNil))))
def F_story_text : List D → List O → RE := runB 3 (E_story_text)
def E__law_same (R__law_same : List D → List O → RE) : ES :=
  (sSeq (sIf (eTru (eIsi2 (eVar 1) .list .tuple)) (sSeq (sIf (eOr (eBin (fEq true) (eBi fIsi (aCons (eVar 0) (aCons (eCon (.ty .list)) aNil))) (eBi fIsi (aCons (eVar 1) (aCons (eCon (.ty .list)) aNil)))) (eBin (fEq true) (eBi fIsi (aCons (eVar 0) (aCons (eCon (.ty .tuple)) aNil))) (eBi fIsi (aCons (eVar 1) (aCons (eCon (.ty .tuple)) aNil))))) (sRet (eCon (.bl false))) sNext)
    (sRet (eAndT (eBin (fEq false) (eBi fLen (aCons (eVar 0) aNil)) (eBi fLen (aCons (eVar 1) aNil))) (eBi fAll (aCons (eComp (iZipX (aCons (eVar 0) (aCons (eVar 1) aNil))) (gTpX 2 (gsCons (gNm 2) (gsCons (gNm 3) gsNil))) (eCon (.bl true)) (eCall R__law_same [] (aCons (eVar 2) (aCons (eVar 3) aNil))) [2, 3]) aNil))))) sNext)
    (sSeq (sIf (eOr (eBin (fIs false) (eVar 1) (eCon .non)) (eTru (eIsi2 (eVar 1) .bool .str))) (sRet (eAndT (eBin (fEq false) (eVar 0) (eVar 1)) (eAndT (eBin (fEq false) (eBi fIsi (aCons (eVar 0) (aCons (eCon (.ty .bool)) aNil))) (eBi fIsi (aCons (eVar 1) (aCons (eCon (.ty .bool)) aNil)))) (eBin (fEq false) (eBin (fIs false) (eVar 0) (eCon .non)) (eBin (fIs false) (eVar 1) (eCon .non)))))) sNext)
    (sRet (eAndT (eBi fIsi (aCons (eVar 0) (aCons (eCon (.ty .int)) aNil))) (eAndT (eNot (eBi fIsi (aCons (eVar 0) (aCons (eCon (.ty .bool)) aNil)))) (eBin (fEq false) (eVar 0) (eVar 1)))))))
def F__law_same : Nat → List D → List O → RE
  | 0 => fun _ _ => .bad
  | n + 1 => runB 4 (E__law_same (F__law_same n))
def tab0__law_heard : Nat → Option (List D → List O → RE)
  | 41 => some F_device_text
  | 42 => some F_life_text
  | 43 => some F_story_text
  | _ => none
def tab1__law_heard : Nat → Option (List D → List O → RE)
  | 28 => some F_with_single
  | 29 => some F_with_deeds
  | _ => none
def tab2__law_heard : Nat → Option (List D → List O → RE)
  | 17 => some F_parts_of
  | 18 => some F_row_of
  | 19 => some F_keys_of
  | 22 => some F_closed_in
  | 26 => some F_left_begun
  | _ => none
def E__law_heard : ES :=
  (sTry (sSeq (sIf (eBin (fLt fun i j => decide (i < j)) (eVar 0) (eCon (.int 5))) (sRet (eCallT tab2__law_heard (eBin fIx (eLst (aCons (eCon (.fn 17)) (aCons (eCon (.fn 18)) (aCons (eCon (.fn 19)) (aCons (eCon (.fn 22)) (aCons (eCon (.fn 26)) aNil)))))) (eVar 0)) (aCons (eVar 1) aNil))) sNext)
    (sSeq (sIf (eBin (fLt fun i j => decide (i < j)) (eVar 0) (eCon (.int 7))) (sRet (eCallT tab1__law_heard (eBin fIx (eLst (aCons (eCon (.fn 28)) (aCons (eCon (.fn 29)) aNil))) (eBin fSub (eVar 0) (eCon (.int 5)))) (aCons (eVar 1) (aCons (eVar 2) aNil)))) sNext)
    (sRet (eCallT tab0__law_heard (eBin fIx (eLst (aCons (eCon (.fn 41)) (aCons (eCon (.fn 42)) (aCons (eCon (.fn 43)) aNil)))) (eBin fSub (eVar 0) (eCon (.int 7)))) (aCons (eVar 1) aNil))))) ((mt_Unfit, 3, fun x => (sRet (eLst (aCons (eCon (.str "unfit")) (aCons (eIsX isT_ValueError x) aNil))))) :: []))
def F__law_heard : List D → List O → RE := runB 4 (E__law_heard)
def E__law_things_right : ES :=
  (sSeq (sAsg (eLst (aCons (eCon (.str "a")) (aCons (eCon (.str "0")) (aCons (eCon (.str "@a")) (aCons (eCon (.str "k123456789ab")) (aCons (eCon (.str "@k123456789ab")) (aCons (eCon (.str "put")) aNil))))))) (gNm 0))
    (sSeq (sAsg (eLst (aCons (eCon (.str "")) (aCons (eCon (.str "@")) (aCons (eCon (.str "@@a")) (aCons (eCon (.str "A")) (aCons (eCon (.str "a b")) (aCons (eCon (.str "k123456789abc")) (aCons (eCon (.str "a@")) (aCons (eCon (.int 3)) (aCons (eCon .non) (aCons (eTup (aCons (eCon (.str "a")) aNil)) (aCons (eLst (aCons (eCon (.str "a")) aNil)) (aCons (eCon (.bl true)) aNil))))))))))))) (gNm 1))
    (sSeq (sAsg (eLstM (aCons (eComp (iSeq (eBin fAdd (eVar 0) (eVar 1))) (gNm 3) (eCon (.bl true)) (eCall F_is_key [] (aCons (eVar 3) aNil)) [3]) (aCons (eComp (iSeq (eBin fAdd (eLst (aCons (eCon (.str "a")) (aCons (eCon (.str "0")) (aCons (eCon (.str "k123456789ab")) (aCons (eCon (.str "@a")) aNil))))) (eVar 1))) (gNm 3) (eCon (.bl true)) (eCall F_is_word [] (aCons (eVar 3) aNil)) [3]) aNil))) (gNm 2))
    (sSeq (sAsg (eLstM (aCons (eBin fAdd (eBin fMulT (eLst (aCons (eCon (.bl true)) aNil)) (eCon (.int 6))) (eBin fMulT (eLst (aCons (eCon (.bl false)) aNil)) (eCon (.int 12)))) (aCons (eBin fAdd (eBin fMulT (eLst (aCons (eCon (.bl true)) aNil)) (eCon (.int 3))) (eBin fMulT (eLst (aCons (eCon (.bl false)) aNil)) (eCon (.int 13)))) aNil))) (gNm 4))
    (sSeq (sAsg (eLst (aCons (eTup (aCons (eCon (.str "blank")) aNil)) (aCons (eTup (aCons (eCon (.str "put")) (aCons (eCon (.str "a")) (aCons (eCon (.str "x")) (aCons (eCon (.int 0)) (aCons (eCon (.int 0)) aNil)))))) (aCons (eTup (aCons (eCon (.str "put")) (aCons (eCon (.str "@a")) (aCons (eCon (.str "x")) (aCons (eCon (.int 7)) (aCons (eCon (.int 3)) aNil)))))) (aCons (eTup (aCons (eCon (.str "drop")) (aCons (eCon (.str "a")) (aCons (eCon (.int 0)) (aCons (eCon (.int 2)) aNil))))) aNil))))) (gNm 5))
    (sSeq (sAsg (eLst (aCons (eTup aNil) (aCons (eTup (aCons (eCon (.str "blank")) (aCons (eCon (.int 0)) aNil))) (aCons (eLst (aCons (eCon (.str "blank")) aNil)) (aCons (eTup (aCons (eCon (.str "put")) (aCons (eCon (.str "a")) (aCons (eCon (.str "x")) aNil)))) (aCons (eTup (aCons (eCon (.str "put")) (aCons (eCon (.str "a")) (aCons (eCon (.str "x")) (aCons (eCon (.int 0)) aNil))))) (aCons (eTup (aCons (eCon (.str "put")) (aCons (eCon (.str "a")) (aCons (eCon (.str "@x")) (aCons (eCon (.int 0)) (aCons (eCon (.int 0)) aNil)))))) (aCons (eTup (aCons (eCon (.str "put")) (aCons (eCon (.str "a")) (aCons (eCon (.str "x")) (aCons (eUn fNeg (eCon (.int 1))) (aCons (eCon (.int 0)) aNil)))))) (aCons (eCon .non) aNil))))))))) (gNm 1))
    (sSeq (sAsg (eBin fAdd (eVar 1) (eLst (aCons (eTup (aCons (eCon (.str "put")) (aCons (eCon (.str "a")) (aCons (eCon (.str "x")) (aCons (eCon (.int 0)) (aCons (eCon (.bl true)) aNil)))))) (aCons (eTup (aCons (eCon (.str "drop")) (aCons (eCon (.str "a")) (aCons (eCon (.str "x")) (aCons (eCon (.int 0)) (aCons (eCon (.int 0)) aNil)))))) (aCons (eTup (aCons (eCon (.str "drop")) (aCons (eCon (.str "a")) aNil))) (aCons (eCon (.str "blank")) (aCons (eTup (aCons (eCon (.str "lot")) (aCons (eTup aNil) (aCons (eCon (.int 0)) (aCons (eCon (.int 0)) aNil))))) (aCons (eTup (aCons (eCon (.int 3)) aNil)) (aCons (eTup (aCons (eCon (.str "drop")) (aCons (eLst (aCons (eCon (.str "a")) aNil)) (aCons (eCon (.int 0)) (aCons (eCon (.int 0)) aNil))))) aNil))))))))) (gNm 1))
    (sSeq (sExpr (eApp (eVar 2) (eComp (iSeq (eBin fAdd (eVar 5) (eVar 1))) (gNm 3) (eCon (.bl true)) (eCall F_is_record [] (aCons (eVar 3) aNil)) [3])))
    (sSeq (sExpr (eApp (eVar 4) (eBin fAdd (eBin fMulT (eLst (aCons (eCon (.bl true)) aNil)) (eCon (.int 4))) (eBin fMulT (eLst (aCons (eCon (.bl false)) aNil)) (eCon (.int 15))))))
    (sSeq (sAsg (eTup (aCons (eTup (aCons (eCon (.str "put")) (aCons (eCon (.str "a")) (aCons (eCon (.str "x")) aNil)))) (aCons (eTup (aCons (eCon (.str "drop")) (aCons (eCon (.str "@a")) aNil))) aNil))) (gTpX 2 (gsCons (gNm 6) (gsCons (gNm 7) gsNil))))
    (sSeq (sAsg (eLst (aCons (eVar 6) (aCons (eVar 7) (aCons (eTup (aCons (eCon (.str "lot")) (aCons (eTup (aCons (eVar 6) (aCons (eVar 7) aNil))) aNil))) (aCons (eTup (aCons (eCon (.str "lot")) (aCons (eTup (aCons (eVar 7) (aCons (eVar 7) (aCons (eVar 7) aNil)))) aNil))) aNil))))) (gNm 8))
    (sSeq (sAsg (eLst (aCons (eTup (aCons (eCon (.str "lot")) (aCons (eTup aNil) aNil))) (aCons (eTup (aCons (eCon (.str "lot")) (aCons (eTup (aCons (eVar 6) aNil)) aNil))) (aCons (eTup (aCons (eCon (.str "lot")) (aCons (eLst (aCons (eVar 6) (aCons (eVar 7) aNil))) aNil))) (aCons (eTup (aCons (eCon (.str "lot")) (aCons (eVar 6) (aCons (eVar 7) aNil)))) (aCons (eLst (aCons (eCon (.str "drop")) (aCons (eCon (.str "a")) aNil))) (aCons (eTup (aCons (eCon (.str "drop")) aNil)) (aCons (eCon .non) (aCons (eCon (.str "a")) aNil))))))))) (gNm 1))
    (sSeq (sAsg (eBin fAdd (eVar 1) (eLst (aCons (eTup (aCons (eCon (.str "lot")) (aCons (eTup (aCons (eVar 6) (aCons (eTup (aCons (eCon (.str "lot")) (aCons (eTup (aCons (eVar 6) (aCons (eVar 7) aNil))) aNil))) aNil))) aNil))) (aCons (eTup (aCons (eCon (.str "blank")) aNil)) (aCons (eTup (aCons (eCon (.str "put")) (aCons (eCon (.str "a")) (aCons (eCon (.str "")) aNil)))) (aCons (eTup (aCons (eCon (.str "put")) (aCons (eCon (.str "a")) (aCons (eCon (.str "x")) (aCons (eCon (.int 0)) (aCons (eCon (.int 0)) aNil)))))) (aCons (eTup (aCons (eLst (aCons (eCon (.str "lot")) aNil)) (aCons (eVar 6) aNil))) aNil))))))) (gNm 1))
    (sSeq (sExpr (eApp (eVar 2) (eComp (iSeq (eBin fAdd (eVar 8) (eVar 1))) (gNm 3) (eCon (.bl true)) (eCall F_is_deed [] (aCons (eVar 3) aNil)) [3])))
    (sSeq (sExpr (eApp (eVar 4) (eBin fAdd (eBin fMulT (eLst (aCons (eCon (.bl true)) aNil)) (eCon (.int 4))) (eBin fMulT (eLst (aCons (eCon (.bl false)) aNil)) (eCon (.int 13))))))
    (sSeq (sAsg (eLst (aCons (eTup aNil) (aCons (eTup (aCons (eTup (aCons (eCon (.str "a")) (aCons (eCon (.str "x")) aNil))) aNil)) (aCons (eTup (aCons (eTup (aCons (eCon (.str "@a")) (aCons (eCon (.str "x")) aNil))) (aCons (eTup (aCons (eCon (.str "a")) (aCons (eCon (.str "x")) aNil))) (aCons (eTup (aCons (eCon (.str "b")) (aCons (eCon (.str "x")) aNil))) aNil)))) aNil)))) (gNm 9))
    (sSeq (sAsg (eLst (aCons (eTup (aCons (eTup (aCons (eCon (.str "b")) (aCons (eCon (.str "x")) aNil))) (aCons (eTup (aCons (eCon (.str "a")) (aCons (eCon (.str "x")) aNil))) aNil))) (aCons (eTup (aCons (eTup (aCons (eCon (.str "a")) (aCons (eCon (.str "x")) aNil))) (aCons (eTup (aCons (eCon (.str "a")) (aCons (eCon (.str "y")) aNil))) aNil))) (aCons (eLst (aCons (eTup (aCons (eCon (.str "a")) (aCons (eCon (.str "x")) aNil))) aNil)) (aCons (eTup (aCons (eLst (aCons (eCon (.str "a")) (aCons (eCon (.str "x")) aNil))) aNil)) (aCons (eTup (aCons (eTup (aCons (eCon (.str "a")) (aCons (eCon (.str "@x")) aNil))) aNil)) (aCons (eTup (aCons (eTup (aCons (eCon (.str "a")) aNil)) aNil)) (aCons (eCon .non) (aCons (eTup (aCons (eCon (.str "a")) (aCons (eCon (.str "x")) aNil))) (aCons eDNew aNil)))))))))) (gNm 1))
    (sSeq (sExpr (eApp (eVar 2) (eComp (iSeq (eBin fAdd (eVar 9) (eSl (eVar 1) oNone (oSome (eUn fNeg (eCon (.int 1))))))) (gNm 3) (eCon (.bl true)) (eCall F_is_table [] (aCons (eVar 3) aNil)) [3])))
    (sRet (eCallZ (F__law_same 9) [] (aCons (eVar 2) (aCons (eBin fAdd (eVar 4) (eLst (aCons (eBin fAdd (eBin fMulT (eLst (aCons (eCon (.bl true)) aNil)) (eCon (.int 3))) (eBin fMulT (eLst (aCons (eCon (.bl false)) aNil)) (eCon (.int 8)))) aNil))) aNil))))))))))))))))))))))
def F__law_things_right : List D → List O → RE := runB 10 (E__law_things_right)
def E__law_long_right : ES :=
  (sSeq (sAsg (eTup (aCons (eCon (.str "lot")) (aCons (eBi fTuple2 (aCons (eComp (iSeq (eCon (.str "abcdef"))) (gNm 1) (eCon (.bl true)) (eTup (aCons (eCon (.str "drop")) (aCons (eVar 1) aNil))) [1]) aNil)) aNil))) (gNm 0))
    (sSeq (sAsg (eBin fAdd (eComp (iSeq (eTup (aCons (eCon (.int 6)) (aCons (eCon (.int 7)) (aCons (eCon (.int 9)) (aCons (eCon (.int 40)) aNil)))))) (gNm 1) (eCon (.bl true)) (eCall F_is_deed [] (aCons (eTup (aCons (eCon (.str "lot")) (aCons (eBin fMulT (eTup (aCons (eTup (aCons (eCon (.str "drop")) (aCons (eCon (.str "a")) aNil))) aNil)) (eVar 1)) aNil))) aNil)) [1]) (eLst (aCons (eBin fIx (eCall F_parts_of [] (aCons (eVar 0) aNil)) (eCon (.int 0))) (aCons (eBin fIx (eCall F_parts_of [] (aCons (eVar 0) aNil)) (eCon (.int 5))) aNil)))) (gNm 2))
    (sSeq (sAsg (eBin fAdd (eVar 2) (eLst (aCons (eCall F_closed_in [] (aCons (eCall F_parts_of [] (aCons (eVar 0) aNil)) aNil)) (aCons (eCall F_left_begun [] (aCons (eSl (eCall F_parts_of [] (aCons (eVar 0) aNil)) oNone (oSome (eCon (.int 5)))) aNil)) (aCons (eCall F_keys_of [] (aCons (eVar 0) aNil)) aNil))))) (gNm 2))
    (sSeq (sAsg (eBin fAdd (eVar 2) (eLst (aCons (eCall F_is_record [] (aCons (eTup (aCons (eCon (.str "drop")) (aCons (eCon (.str "a")) (aCons (eCon (.int 39)) (aCons (eCon (.int 60)) aNil))))) aNil)) (aCons (eCall F_with_deeds [] (aCons (eTup (aCons (eTup (aCons (eCon (.str "a")) (aCons (eCon (.str "x")) aNil))) (aCons (eTup (aCons (eCon (.str "g")) (aCons (eCon (.str "y")) aNil))) aNil))) (aCons (eTup (aCons (eVar 0) aNil)) aNil))) aNil)))) (gNm 2))
    (sSeq (sAsg (eBin fAdd (eBin fMulT (eLst (aCons (eCon (.bl true)) aNil)) (eCon (.int 4))) (eLst (aCons (eTup (aCons (eCon (.str "drop")) (aCons (eCon (.str "a")) (aCons (eCon (.int 0)) (aCons (eCon (.int 5)) aNil))))) (aCons (eTup (aCons (eCon (.str "drop")) (aCons (eCon (.str "f")) (aCons (eCon (.int 5)) (aCons (eCon (.int 0)) aNil))))) (aCons (eLst (aCons (eTup (aCons (eCon (.int 5)) (aCons (eBin fIx (eVar 0) (eCon (.int 1))) aNil))) aNil)) (aCons (eCon (.int 5)) (aCons (eBi fTuple2 (aCons (eCon (.str "abcdef")) aNil)) (aCons (eCon (.bl true)) (aCons (eTup (aCons (eTup (aCons (eCon (.str "g")) (aCons (eCon (.str "y")) aNil))) aNil)) aNil))))))))) (gNm 3))
    (sRet (eCall (F__law_same 9) [] (aCons (eVar 2) (aCons (eVar 3) aNil)))))))))
def F__law_long_right : List D → List O → RE := runB 4 (E__law_long_right)
def E__law_refused_right : ES :=
  (sSeq (sPar 0 1 (aCons (eTup (aCons (eCon (.str "put")) (aCons (eCon (.str "a")) (aCons (eCon (.str "x")) aNil)))) (aCons (eLst (aCons (eCon (.str "unfit")) (aCons (eCon (.bl true)) aNil))) aNil)))
    (sSeq (sAsg (eLst (aCons (eTup (aCons (eCon (.int 0)) (aCons (eTup (aCons (eCon (.str "lot")) (aCons (eTup (aCons (eVar 0) aNil)) aNil))) (aCons (eCon .non) aNil)))) (aCons (eTup (aCons (eCon (.int 0)) (aCons (eCon .non) (aCons (eCon .non) aNil)))) (aCons (eTup (aCons (eCon (.int 1)) (aCons (eTup (aCons (eVar 0) (aCons (eCon (.int 3)) aNil))) (aCons (eCon .non) aNil)))) (aCons (eTup (aCons (eCon (.int 1)) (aCons (eVar 0) (aCons (eCon .non) aNil)))) (aCons (eTup (aCons (eCon (.int 1)) (aCons (eCon .non) (aCons (eCon .non) aNil)))) (aCons (eTup (aCons (eCon (.int 2)) (aCons (eTup (aCons (eCon (.str "blank")) aNil)) (aCons (eCon .non) aNil)))) aNil))))))) (gNm 2))
    (sSeq (sAsg (eBin fAdd (eVar 2) (eLst (aCons (eTup (aCons (eCon (.int 3)) (aCons (eTup (aCons (eTup (aCons (eCon (.str "put")) (aCons (eCon (.str "a")) (aCons (eCon (.str "x")) aNil)))) aNil)) (aCons (eCon .non) aNil)))) (aCons (eTup (aCons (eCon (.int 3)) (aCons (eCon (.str "ab")) (aCons (eCon .non) aNil)))) (aCons (eTup (aCons (eCon (.int 4)) (aCons (eTup (aCons (eTup aNil) aNil)) (aCons (eCon .non) aNil)))) (aCons (eTup (aCons (eCon (.int 4)) (aCons (eCon (.int 7)) (aCons (eCon .non) aNil)))) (aCons (eTup (aCons (eCon (.int 5)) (aCons (eTup (aCons (eTup (aCons (eCon (.str "b")) (aCons (eCon (.str "x")) aNil))) (aCons (eTup (aCons (eCon (.str "a")) (aCons (eCon (.str "x")) aNil))) aNil))) (aCons (eVar 0) aNil)))) aNil))))))) (gNm 2))
    (sSeq (sAsg (eBin fAdd (eVar 2) (eLst (aCons (eTup (aCons (eCon (.int 6)) (aCons (eTup aNil) (aCons (eVar 0) aNil)))) (aCons (eTup (aCons (eCon (.int 6)) (aCons (eTup (aCons (eTup (aCons (eCon (.str "a")) (aCons (eCon (.int 1)) aNil))) aNil)) (aCons (eTup aNil) aNil)))) (aCons (eTup (aCons (eCon (.int 7)) (aCons (eTup (aCons (eTup (aCons (eCon (.int 2)) (aCons (eCon (.int 1)) (aCons (eCon (.int 2)) aNil)))) (aCons (eTup aNil) (aCons (eTup aNil) aNil)))) (aCons (eCon .non) aNil)))) (aCons (eTup (aCons (eCon (.int 7)) (aCons (eCon .non) (aCons (eCon .non) aNil)))) aNil)))))) (gNm 2))
    (sSeq (sAsg (eBin fAdd (eVar 2) (eLst (aCons (eTup (aCons (eCon (.int 8)) (aCons (eTup (aCons (eTup (aCons (eCon (.str "wake")) aNil)) aNil)) (aCons (eCon .non) aNil)))) (aCons (eTup (aCons (eCon (.int 8)) (aCons (eTup (aCons (eTup (aCons (eCon (.str "deed")) (aCons (eVar 0) aNil))) aNil)) (aCons (eCon .non) aNil)))) (aCons (eTup (aCons (eCon (.int 8)) (aCons (eTup (aCons (eTup (aCons (eCon (.str "cut")) (aCons (eTup (aCons (eCon (.str "lost")) aNil)) aNil))) aNil)) (aCons (eCon .non) aNil)))) (aCons (eTup (aCons (eCon (.int 8)) (aCons (eCon .non) (aCons (eCon .non) aNil)))) aNil)))))) (gNm 2))
    (sSeq (sAsg (eBin fAdd (eVar 2) (eLst (aCons (eTup (aCons (eCon (.int 9)) (aCons (eTup (aCons (eTup (aCons (eCon (.str "write")) (aCons (eTup (aCons (eCon (.str "blank")) aNil)) aNil))) aNil)) (aCons (eCon .non) aNil)))) (aCons (eTup (aCons (eCon (.int 9)) (aCons (eTup (aCons (eTup (aCons (eCon (.str "cut")) (aCons (eTup aNil) aNil))) (aCons (eTup (aCons (eCon (.str "sync")) aNil)) aNil))) (aCons (eCon .non) aNil)))) (aCons (eTup (aCons (eCon (.int 9)) (aCons (eTup (aCons (eTup (aCons (eCon (.str "mend")) (aCons (eUn fNeg (eCon (.int 1))) (aCons (eTup aNil) aNil)))) aNil)) (aCons (eCon .non) aNil)))) (aCons (eTup (aCons (eCon (.int 9)) (aCons (eTup (aCons (eTup (aCons (eCon (.str "sync")) (aCons (eCon (.int 0)) aNil))) aNil)) (aCons (eCon .non) aNil)))) aNil)))))) (gNm 2))
    (sSeq (sAsg (eBin fAdd (eVar 2) (eLst (aCons (eTup (aCons (eCon (.int 8)) (aCons (eTup (aCons (eTup (aCons (eCon (.str "cut")) (aCons (eTup aNil) aNil))) (aCons (eTup (aCons (eCon (.str "mend")) (aCons (eCon (.bl true)) (aCons (eTup aNil) aNil)))) aNil))) (aCons (eCon .non) aNil)))) (aCons (eTup (aCons (eCon (.int 9)) (aCons (eTup (aCons (eTup (aCons (eCon (.str "cut")) (aCons (eTup aNil) aNil))) (aCons (eTup (aCons (eCon (.str "cut")) (aCons (eTup aNil) aNil))) aNil))) (aCons (eCon .non) aNil)))) (aCons (eTup (aCons (eCon (.int 9)) (aCons (eCon (.str "sync")) (aCons (eCon .non) aNil)))) aNil))))) (gNm 2))
    (sSeq (sIf (eNot (eTru (eCall (F__law_same 9) [] (aCons (eComp (iSeq (eVar 2)) (gNm 3) (eCon (.bl true)) (eCall F__law_heard [] (aCons (eBin fIx (eVar 3) (eCon (.int 0))) (aCons (eBin fIx (eVar 3) (eCon (.int 1))) (aCons (eBin fIx (eVar 3) (eCon (.int 2))) aNil)))) [3]) (aCons (eBin fMulT (eLst (aCons (eVar 1) aNil)) (eBi fLen (aCons (eVar 2) aNil))) aNil))))) (sRet (eCon (.bl false))) sNext)
    (sSeq (sAsg (eLst (aCons (eCallK F_row_of [0] aNil (aCons (eLst (aCons (eBi fList (aCons (eVar 0) aNil)) aNil)) aNil)) (aCons (eCall F_row_of [] (aCons (eTup aNil) aNil)) (aCons (eCallK F_closed_in [0] aNil (aCons (eLst aNil) aNil)) (aCons (eCallK F_left_begun [0] aNil (aCons (eTup aNil) aNil)) (aCons (eCallK F_with_deeds [1, 0] aNil (aCons (eTup aNil) (aCons (eLst (aCons (eLst (aCons (eCon (.str "a")) (aCons (eCon (.str "x")) aNil))) aNil)) aNil))) aNil)))))) (gNm 4))
    (sSeq (sAsg (eBin fAdd (eVar 4) (eLst (aCons (eCallK F_story_text [0] aNil (aCons (eLst (aCons (eLst (aCons (eCon (.str "cut")) (aCons (eLst aNil) aNil))) (aCons (eLst (aCons (eCon (.str "mend")) (aCons (eCon (.int 12)) (aCons (eLst (aCons (eCon (.str "old")) aNil)) aNil)))) aNil))) aNil)) (aCons (eCallK F_life_text [0] aNil (aCons (eLst (aCons (eLst (aCons (eCon (.str "write")) (aCons (eLst (aCons (eCon (.str "blank")) aNil)) aNil))) aNil)) aNil)) (aCons (eCall F_with_single [] (aCons (eTup aNil) (aCons (eLst (aCons (eCon (.str "drop")) (aCons (eCon (.str "a")) aNil))) aNil))) aNil))))) (gNm 4))
    (sRet (eCall (F__law_same 9) [] (aCons (eVar 4) (aCons (eLst (aCons (eTup (aCons (eTup (aCons (eCon (.str "put")) (aCons (eCon (.str "a")) (aCons (eCon (.str "x")) (aCons (eCon (.int 0)) (aCons (eCon (.int 0)) aNil)))))) aNil)) (aCons (eTup aNil) (aCons (eLst aNil) (aCons (eCon (.int 0)) (aCons (eTup (aCons (eTup (aCons (eCon (.str "a")) (aCons (eCon (.str "x")) aNil))) aNil)) (aCons (eCon (.str "cut\nmend 12 old\n")) (aCons (eCon (.str "write blank\n")) (aCons (eTup aNil) aNil))))))))) aNil))))))))))))))
def F__law_refused_right : List D → List O → RE := runB 5 (E__law_refused_right)
def E_law : ES :=
  (sRet (eAndT (eCall0 F__law_things_right []) (eAndT (eCall0 F__law_long_right []) (eCall0 F__law_refused_right []))))
def F_law : List D → List O → RE := runB 1 (E_law)
end LW

namespace LW
open PySem L2 DV EV
def topS (i : Nat) : Stmt := PySem.Challenge.pw_halfring_k12_records_by_hand_and_refused.main.body.getD i (.Pass ⟨0, 0, 0, 0⟩)
abbrev s_is_number : Stmt := topS 4
theorem sc_is_number : FnScope ["thing"] ["thing"] (defScope s_is_number) := ⟨rfl, rfl, rfl, by decide +kernel, rfl, by decide +kernel, by decide +kernel⟩
abbrev s_is_natural : Stmt := topS 5
theorem sc_is_natural : FnScope ["thing"] ["thing"] (defScope s_is_natural) := ⟨rfl, rfl, rfl, by decide +kernel, rfl, by decide +kernel, by decide +kernel⟩
abbrev s_is_below : Stmt := topS 6
theorem sc_is_below : FnScope ["thing", "bound"] ["thing", "bound"] (defScope s_is_below) := ⟨rfl, rfl, rfl, by decide +kernel, rfl, by decide +kernel, by decide +kernel⟩
abbrev s_is_row : Stmt := topS 7
theorem sc_is_row : FnScope ["thing", "many"] ["thing", "many"] (defScope s_is_row) := ⟨rfl, rfl, rfl, by decide +kernel, rfl, by decide +kernel, by decide +kernel⟩
abbrev s_is_row_of : Stmt := topS 8
theorem sc_is_row_of : FnScope ["is_such", "thing", "part"] ["is_such", "thing"] (defScope s_is_row_of) := ⟨rfl, rfl, rfl, by decide +kernel, rfl, by decide +kernel, by decide +kernel⟩
abbrev s_is_rising : Stmt := topS 9
theorem sc_is_rising : FnScope ["row", "at"] ["row"] (defScope s_is_rising) := ⟨rfl, rfl, rfl, by decide +kernel, rfl, by decide +kernel, by decide +kernel⟩
abbrev s_as_tuples : Stmt := topS 10
theorem sc_as_tuples : FnScope ["thing", "depth", "part"] ["thing", "depth"] (defScope s_as_tuples) := ⟨rfl, rfl, rfl, by decide +kernel, rfl, by decide +kernel, by decide +kernel⟩
abbrev s_checked : Stmt := topS 11
theorem sc_checked : FnScope ["is_such", "thing", "own"] ["is_such", "thing"] (defScope s_checked) := ⟨rfl, rfl, rfl, by decide +kernel, rfl, by decide +kernel, by decide +kernel⟩
abbrev s_is_word : Stmt := topS 16
theorem sc_is_word : FnScope ["thing", "sign"] ["thing"] (defScope s_is_word) := ⟨rfl, rfl, rfl, by decide +kernel, rfl, by decide +kernel, by decide +kernel⟩
abbrev s_is_key : Stmt := topS 17
theorem sc_is_key : FnScope ["thing"] ["thing"] (defScope s_is_key) := ⟨rfl, rfl, rfl, by decide +kernel, rfl, by decide +kernel, by decide +kernel⟩
abbrev s_is_single : Stmt := topS 18
theorem sc_is_single : FnScope ["thing"] ["thing"] (defScope s_is_single) := ⟨rfl, rfl, rfl, by decide +kernel, rfl, by decide +kernel, by decide +kernel⟩
abbrev s_is_deed : Stmt := topS 19
theorem sc_is_deed : FnScope ["thing"] ["thing"] (defScope s_is_deed) := ⟨rfl, rfl, rfl, by decide +kernel, rfl, by decide +kernel, by decide +kernel⟩
abbrev s_is_record : Stmt := topS 20
theorem sc_is_record : FnScope ["thing"] ["thing"] (defScope s_is_record) := ⟨rfl, rfl, rfl, by decide +kernel, rfl, by decide +kernel, by decide +kernel⟩
abbrev s_is_table : Stmt := topS 21
theorem sc_is_table : FnScope ["thing", "key", "_"] ["thing"] (defScope s_is_table) := ⟨rfl, rfl, rfl, by decide +kernel, rfl, by decide +kernel, by decide +kernel⟩
abbrev s_is_table_pair : Stmt := topS 22
theorem sc_is_table_pair : FnScope ["thing"] ["thing"] (defScope s_is_table_pair) := ⟨rfl, rfl, rfl, by decide +kernel, rfl, by decide +kernel, by decide +kernel⟩
abbrev s_is_deeds : Stmt := topS 23
theorem sc_is_deeds : FnScope ["thing"] ["thing"] (defScope s_is_deeds) := ⟨rfl, rfl, rfl, by decide +kernel, rfl, by decide +kernel, by decide +kernel⟩
abbrev s_is_records : Stmt := topS 24
theorem sc_is_records : FnScope ["thing"] ["thing"] (defScope s_is_records) := ⟨rfl, rfl, rfl, by decide +kernel, rfl, by decide +kernel, by decide +kernel⟩
abbrev s_parts_of : Stmt := topS 25
theorem sc_parts_of : FnScope ["deed"] ["deed"] (defScope s_parts_of) := ⟨rfl, rfl, rfl, by decide +kernel, rfl, by decide +kernel, by decide +kernel⟩
abbrev s_row_of : Stmt := topS 26
theorem sc_row_of : FnScope ["deeds", "row", "deed"] ["deeds"] (defScope s_row_of) := ⟨rfl, rfl, rfl, by decide +kernel, rfl, by decide +kernel, by decide +kernel⟩
abbrev s_keys_of : Stmt := topS 27
theorem sc_keys_of : FnScope ["deed", "singles", "single"] ["deed"] (defScope s_keys_of) := ⟨rfl, rfl, rfl, by decide +kernel, rfl, by decide +kernel, by decide +kernel⟩
abbrev s_singles_in : Stmt := topS 28
theorem sc_singles_in : FnScope ["deed"] ["deed"] (defScope s_singles_in) := ⟨rfl, rfl, rfl, by decide +kernel, rfl, by decide +kernel, by decide +kernel⟩
abbrev s_parts_in : Stmt := topS 29
theorem sc_parts_in : FnScope ["deed", "singles", "last", "at", "single"] ["deed"] (defScope s_parts_in) := ⟨rfl, rfl, rfl, by decide +kernel, rfl, by decide +kernel, by decide +kernel⟩
abbrev s_closed_in : Stmt := topS 30
theorem sc_closed_in : FnScope ["records", "row", "part", "first", "at"] ["records"] (defScope s_closed_in) := ⟨rfl, rfl, rfl, by decide +kernel, rfl, by decide +kernel, by decide +kernel⟩
abbrev s_closed_lots : Stmt := topS 31
theorem sc_closed_lots : FnScope ["row", "pairs", "at", "pair"] ["row"] (defScope s_closed_lots) := ⟨rfl, rfl, rfl, by decide +kernel, rfl, by decide +kernel, by decide +kernel⟩
abbrev s_first_closed : Stmt := topS 32
theorem sc_first_closed : FnScope ["row", "at", "first", "i"] ["row", "at"] (defScope s_first_closed) := ⟨rfl, rfl, rfl, by decide +kernel, rfl, by decide +kernel, by decide +kernel⟩
abbrev s_is_part_ahead : Stmt := topS 33
theorem sc_is_part_ahead : FnScope ["part", "later"] ["part", "later"] (defScope s_is_part_ahead) := ⟨rfl, rfl, rfl, by decide +kernel, rfl, by decide +kernel, by decide +kernel⟩
abbrev s_left_begun : Stmt := topS 34
theorem sc_left_begun : FnScope ["records"] ["records"] (defScope s_left_begun) := ⟨rfl, rfl, rfl, by decide +kernel, rfl, by decide +kernel, by decide +kernel⟩
abbrev s_begun_in : Stmt := topS 35
theorem sc_begun_in : FnScope ["row", "first"] ["row"] (defScope s_begun_in) := ⟨rfl, rfl, rfl, by decide +kernel, rfl, by decide +kernel, by decide +kernel⟩
abbrev s_with_single : Stmt := topS 36
theorem sc_with_single : FnScope ["table", "single"] ["table", "single"] (defScope s_with_single) := ⟨rfl, rfl, rfl, by decide +kernel, rfl, by decide +kernel, by decide +kernel⟩
abbrev s_with_deeds : Stmt := topS 37
theorem sc_with_deeds : FnScope ["table", "deeds", "singles", "deed"] ["table", "deeds"] (defScope s_with_deeds) := ⟨rfl, rfl, rfl, by decide +kernel, rfl, by decide +kernel, by decide +kernel⟩
abbrev s_table_with : Stmt := topS 38
theorem sc_table_with : FnScope ["table", "singles", "kept", "single"] ["table", "singles"] (defScope s_table_with) := ⟨rfl, rfl, rfl, by decide +kernel, rfl, by decide +kernel, by decide +kernel⟩
abbrev s_is_fates_row : Stmt := topS 42
theorem sc_is_fates_row : FnScope ["thing", "fate"] ["thing"] (defScope s_is_fates_row) := ⟨rfl, rfl, rfl, by decide +kernel, rfl, by decide +kernel, by decide +kernel⟩
abbrev s_is_shape : Stmt := topS 44
theorem sc_is_shape : FnScope ["thing", "part", "cells", "flight", "marks"] ["thing"] (defScope s_is_shape) := ⟨rfl, rfl, rfl, by decide +kernel, rfl, by decide +kernel, by decide +kernel⟩
abbrev s_is_device : Stmt := topS 46
theorem sc_is_device : FnScope ["thing", "shape", "picture", "flight", "write"] ["thing"] (defScope s_is_device) := ⟨rfl, rfl, rfl, by decide +kernel, rfl, by decide +kernel, by decide +kernel⟩
abbrev s_is_written_cell : Stmt := topS 47
theorem sc_is_written_cell : FnScope ["thing"] ["thing"] (defScope s_is_written_cell) := ⟨rfl, rfl, rfl, by decide +kernel, rfl, by decide +kernel, by decide +kernel⟩
abbrev s_is_content_in : Stmt := topS 48
theorem sc_is_content_in : FnScope ["shape", "thing"] ["shape", "thing"] (defScope s_is_content_in) := ⟨rfl, rfl, rfl, by decide +kernel, rfl, by decide +kernel, by decide +kernel⟩
abbrev s_is_cell_in : Stmt := topS 49
theorem sc_is_cell_in : FnScope ["shape", "thing"] ["shape", "thing"] (defScope s_is_cell_in) := ⟨rfl, rfl, rfl, by decide +kernel, rfl, by decide +kernel, by decide +kernel⟩
abbrev s_is_picture_in : Stmt := topS 50
theorem sc_is_picture_in : FnScope ["shape", "thing", "part"] ["shape", "thing"] (defScope s_is_picture_in) := ⟨rfl, rfl, rfl, by decide +kernel, rfl, by decide +kernel, by decide +kernel⟩
abbrev s_is_write_in : Stmt := topS 51
theorem sc_is_write_in : FnScope ["shape", "thing"] ["shape", "thing"] (defScope s_is_write_in) := ⟨rfl, rfl, rfl, by decide +kernel, rfl, by decide +kernel, by decide +kernel⟩
abbrev s_is_event : Stmt := topS 53
theorem sc_is_event : FnScope ["thing"] ["thing"] (defScope s_is_event) := ⟨rfl, rfl, rfl, by decide +kernel, rfl, by decide +kernel, by decide +kernel⟩
abbrev s_word_of : Stmt := topS 55
theorem sc_word_of : FnScope ["number"] ["number"] (defScope s_word_of) := ⟨rfl, rfl, rfl, by decide +kernel, rfl, by decide +kernel, by decide +kernel⟩
abbrev s_device_text : Stmt := topS 57
theorem sc_device_text : FnScope ["device", "shape", "picture", "flight", "rows", "cell", "write"] ["device"] (defScope s_device_text) := ⟨rfl, rfl, rfl, by decide +kernel, rfl, by decide +kernel, by decide +kernel⟩
abbrev s_life_text : Stmt := topS 58
theorem sc_life_text : FnScope ["life"] ["life"] (defScope s_life_text) := ⟨rfl, rfl, rfl, by decide +kernel, rfl, by decide +kernel, by decide +kernel⟩
abbrev s_story_text : Stmt := topS 59
theorem sc_story_text : FnScope ["story", "events", "event"] ["story"] (defScope s_story_text) := ⟨rfl, rfl, rfl, by decide +kernel, rfl, by decide +kernel, by decide +kernel⟩
abbrev s_is_life_row : Stmt := topS 60
theorem sc_is_life_row : FnScope ["thing"] ["thing"] (defScope s_is_life_row) := ⟨rfl, rfl, rfl, by decide +kernel, rfl, by decide +kernel, by decide +kernel⟩
abbrev s_is_story_row : Stmt := topS 61
theorem sc_is_story_row : FnScope ["thing"] ["thing"] (defScope s_is_story_row) := ⟨rfl, rfl, rfl, by decide +kernel, rfl, by decide +kernel, by decide +kernel⟩
abbrev s_is_story_event : Stmt := topS 62
theorem sc_is_story_event : FnScope ["thing"] ["thing"] (defScope s_is_story_event) := ⟨rfl, rfl, rfl, by decide +kernel, rfl, by decide +kernel, by decide +kernel⟩
abbrev s_is_in_order : Stmt := topS 63
theorem sc_is_in_order : FnScope ["events", "last", "event"] ["events"] (defScope s_is_in_order) := ⟨rfl, rfl, rfl, by decide +kernel, rfl, by decide +kernel, by decide +kernel⟩
abbrev s_can_follow : Stmt := topS 64
theorem sc_can_follow : FnScope ["last", "event"] ["last", "event"] (defScope s_can_follow) := ⟨rfl, rfl, rfl, by decide +kernel, rfl, by decide +kernel, by decide +kernel⟩
abbrev s_text_with : Stmt := topS 65
theorem sc_text_with : FnScope ["rows", "row"] ["rows"] (defScope s_text_with) := ⟨rfl, rfl, rfl, by decide +kernel, rfl, by decide +kernel, by decide +kernel⟩
abbrev s_words_in : Stmt := topS 66
theorem sc_words_in : FnScope ["value", "row", "part"] ["value"] (defScope s_words_in) := ⟨rfl, rfl, rfl, by decide +kernel, rfl, by decide +kernel, by decide +kernel⟩
abbrev s__law_same : Stmt := topS 68
theorem sc__law_same : FnScope ["got", "due", "mine", "its"] ["got", "due"] (defScope s__law_same) := ⟨rfl, rfl, rfl, by decide +kernel, rfl, by decide +kernel, by decide +kernel⟩
abbrev s__law_heard : Stmt := topS 69
theorem sc__law_heard : FnScope ["door_so", "one_so", "two_so", "slip_so"] ["door_so", "one_so", "two_so"] (defScope s__law_heard) := ⟨rfl, rfl, rfl, by decide +kernel, rfl, by decide +kernel, by decide +kernel⟩
abbrev s__law_things_right : Stmt := topS 70
theorem sc__law_things_right : FnScope ["keys_so", "odds_so", "got", "own", "due", "notes_so", "one_so", "two_so", "acts_so", "lores_so"] [] (defScope s__law_things_right) := ⟨rfl, rfl, rfl, by decide +kernel, rfl, by decide +kernel, by decide +kernel⟩
abbrev s__law_long_right : Stmt := topS 71
theorem sc__law_long_right : FnScope ["six_so", "own", "got", "due"] [] (defScope s__law_long_right) := ⟨rfl, rfl, rfl, by decide +kernel, rfl, by decide +kernel, by decide +kernel⟩
abbrev s__law_refused_right : Stmt := topS 72
theorem sc__law_refused_right : FnScope ["one_so", "unfit_so", "asks_so", "own", "got"] [] (defScope s__law_refused_right) := ⟨rfl, rfl, rfl, by decide +kernel, rfl, by decide +kernel, by decide +kernel⟩
abbrev s_law : Stmt := topS 73
theorem sc_law : FnScope ["script"] ["script"] (defScope s_law) := ⟨rfl, rfl, rfl, by decide +kernel, rfl, by decide +kernel, by decide +kernel⟩
def clsInit : Stmt → Stmt
  | .ClassDef _ _ _ b _ _ _ _ _ _ _ => b.headD (.Pass ⟨0, 0, 0, 0⟩)
  | s => s
abbrev s_init_Unfit : Stmt := clsInit (topS 1)
theorem sci_Unfit : FnScope ["self"] ["self"] (defScope s_init_Unfit) := ⟨rfl, rfl, rfl, by decide +kernel, rfl, by decide +kernel, by decide +kernel⟩
def fxs : List Fx := [
  .tup (fun K => He.ga K "BLANK") [.str "blank"],
  .tup (fun K => He.ga K "TORN") [.str "torn"],
  .tup (fun K => He.ga K "FATES") [.str "new", .str "old", .str "torn"],
  .obj,
  .err "Unfit" "ValueError.__new__" bmVE,
  .sub "Unfit" "Unfit" true,
  .subT "Unfit" "ValueError" true]
def fas : List He.Fa := [
  .glo "is_number",
  .glo "is_natural",
  .glo "is_below",
  .glo "is_row",
  .glo "is_row_of",
  .glo "is_rising",
  .glo "as_tuples",
  .glo "checked",
  .glo "is_word",
  .glo "is_key",
  .glo "is_single",
  .glo "is_deed",
  .glo "is_record",
  .glo "is_table",
  .glo "is_table_pair",
  .glo "is_deeds",
  .glo "is_records",
  .glo "parts_of",
  .glo "row_of",
  .glo "keys_of",
  .glo "singles_in",
  .glo "parts_in",
  .glo "closed_in",
  .glo "closed_lots",
  .glo "first_closed",
  .glo "is_part_ahead",
  .glo "left_begun",
  .glo "begun_in",
  .glo "with_single",
  .glo "with_deeds",
  .glo "table_with",
  .glo "is_fates_row",
  .glo "is_shape",
  .glo "is_device",
  .glo "is_written_cell",
  .glo "is_content_in",
  .glo "is_cell_in",
  .glo "is_picture_in",
  .glo "is_write_in",
  .glo "is_event",
  .glo "word_of",
  .glo "device_text",
  .glo "life_text",
  .glo "story_text",
  .glo "is_life_row",
  .glo "is_story_row",
  .glo "is_story_event",
  .glo "is_in_order",
  .glo "can_follow",
  .glo "text_with",
  .glo "words_in",
  .glo "_law_same",
  .glo "_law_heard",
  .glo "_law_things_right",
  .glo "_law_long_right",
  .glo "_law_refused_right",
  .glo "law",
  .str "SIGNS" "abcdefghijklmnopqrstuvwxyz0123456789",
  .int "MOST_SIGNS" 12,
  .glo "BLANK",
  .glo "TORN",
  .glo "FATES",
  .free "ValueError",
  .free "all",
  .free "bool",
  .free "dict",
  .free "enumerate",
  .free "int",
  .free "isinstance",
  .free "len",
  .free "list",
  .free "min",
  .free "range",
  .free "set",
  .free "sorted",
  .free "str",
  .free "tuple",
  .free "zip",
  .glo "Unfit"]
def fns : List He.DefD := [
  dOf "is_number" s_is_number [],
  dOf "is_natural" s_is_natural [],
  dOf "is_below" s_is_below [],
  dOf "is_row" s_is_row [],
  dOf "is_row_of" s_is_row_of [],
  dOf "is_rising" s_is_rising [],
  dOf "as_tuples" s_as_tuples [.int 20],
  dOf "checked" s_checked [],
  dOf "is_word" s_is_word [],
  dOf "is_key" s_is_key [],
  dOf "is_single" s_is_single [],
  dOf "is_deed" s_is_deed [],
  dOf "is_record" s_is_record [],
  dOf "is_table" s_is_table [],
  dOf "is_table_pair" s_is_table_pair [],
  dOf "is_deeds" s_is_deeds [],
  dOf "is_records" s_is_records [],
  dOf "parts_of" s_parts_of [],
  dOf "row_of" s_row_of [],
  dOf "keys_of" s_keys_of [],
  dOf "singles_in" s_singles_in [],
  dOf "parts_in" s_parts_in [],
  dOf "closed_in" s_closed_in [],
  dOf "closed_lots" s_closed_lots [],
  dOf "first_closed" s_first_closed [],
  dOf "is_part_ahead" s_is_part_ahead [],
  dOf "left_begun" s_left_begun [],
  dOf "begun_in" s_begun_in [],
  dOf "with_single" s_with_single [],
  dOf "with_deeds" s_with_deeds [],
  dOf "table_with" s_table_with [],
  dOf "is_fates_row" s_is_fates_row [],
  dOf "is_shape" s_is_shape [],
  dOf "is_device" s_is_device [],
  dOf "is_written_cell" s_is_written_cell [],
  dOf "is_content_in" s_is_content_in [],
  dOf "is_cell_in" s_is_cell_in [],
  dOf "is_picture_in" s_is_picture_in [],
  dOf "is_write_in" s_is_write_in [],
  dOf "is_event" s_is_event [],
  dOf "word_of" s_word_of [],
  dOf "device_text" s_device_text [],
  dOf "life_text" s_life_text [],
  dOf "story_text" s_story_text [],
  dOf "is_life_row" s_is_life_row [],
  dOf "is_story_row" s_is_story_row [],
  dOf "is_story_event" s_is_story_event [],
  dOf "is_in_order" s_is_in_order [],
  dOf "can_follow" s_can_follow [],
  dOf "text_with" s_text_with [],
  dOf "words_in" s_words_in [],
  dOf "_law_same" s__law_same [],
  dOf "_law_heard" s__law_heard [],
  dOf "_law_things_right" s__law_things_right [],
  dOf "_law_long_right" s__law_long_right [],
  dOf "_law_refused_right" s__law_refused_right [],
  dOf "law" s_law [],
  mOf "Unfit" "__init__" "Unfit.__init__" s_init_Unfit]
abbrev Txt (K : PySem.W.Frag) (mg : Str → Option Value) : Prop := Said fxs fas fns K mg
abbrev Txt.f_is_number {K : PySem.W.Frag} {mg : Str → Option Value} (T : Txt K mg) : Addr := He.ga K "is_number"
noncomputable def Txt.d_is_number {K : PySem.W.Frag} {mg : Str → Option Value} (T : Txt K mg) : FuncData := (Said.d T 0 (d := dOf "is_number" s_is_number []) rfl).choose
theorem Txt.F_is_number {K : PySem.W.Frag} {mg : Str → Option Value} (T : Txt K mg) : L2.Fun K "is_number" "is_number" s_is_number T.f_is_number T.d_is_number := fun_of (st := s_is_number) (Said.d T 0 (d := dOf "is_number" s_is_number []) rfl).choose_spec
theorem Txt.b_is_number {K : PySem.W.Frag} {mg : Str → Option Value} (T : Txt K mg) : L2.Binds K T.d_is_number ["thing"] [] := T.F_is_number.binds (ps := ["thing"]) (fun _ _ _ _ _ _ us hl => match us, hl with | [_], _ => rfl)
theorem Txt.m_is_number {K : PySem.W.Frag} {mg : Str → Option Value} (T : Txt K mg) : mg "is_number" = some (.ref T.f_is_number) := Said.glo T 0 rfl
abbrev Txt.f_is_natural {K : PySem.W.Frag} {mg : Str → Option Value} (T : Txt K mg) : Addr := He.ga K "is_natural"
noncomputable def Txt.d_is_natural {K : PySem.W.Frag} {mg : Str → Option Value} (T : Txt K mg) : FuncData := (Said.d T 1 (d := dOf "is_natural" s_is_natural []) rfl).choose
theorem Txt.F_is_natural {K : PySem.W.Frag} {mg : Str → Option Value} (T : Txt K mg) : L2.Fun K "is_natural" "is_natural" s_is_natural T.f_is_natural T.d_is_natural := fun_of (st := s_is_natural) (Said.d T 1 (d := dOf "is_natural" s_is_natural []) rfl).choose_spec
theorem Txt.b_is_natural {K : PySem.W.Frag} {mg : Str → Option Value} (T : Txt K mg) : L2.Binds K T.d_is_natural ["thing"] [] := T.F_is_natural.binds (ps := ["thing"]) (fun _ _ _ _ _ _ us hl => match us, hl with | [_], _ => rfl)
theorem Txt.m_is_natural {K : PySem.W.Frag} {mg : Str → Option Value} (T : Txt K mg) : mg "is_natural" = some (.ref T.f_is_natural) := Said.glo T 1 rfl
abbrev Txt.f_is_below {K : PySem.W.Frag} {mg : Str → Option Value} (T : Txt K mg) : Addr := He.ga K "is_below"
noncomputable def Txt.d_is_below {K : PySem.W.Frag} {mg : Str → Option Value} (T : Txt K mg) : FuncData := (Said.d T 2 (d := dOf "is_below" s_is_below []) rfl).choose
theorem Txt.F_is_below {K : PySem.W.Frag} {mg : Str → Option Value} (T : Txt K mg) : L2.Fun K "is_below" "is_below" s_is_below T.f_is_below T.d_is_below := fun_of (st := s_is_below) (Said.d T 2 (d := dOf "is_below" s_is_below []) rfl).choose_spec
theorem Txt.b_is_below {K : PySem.W.Frag} {mg : Str → Option Value} (T : Txt K mg) : L2.Binds K T.d_is_below ["thing", "bound"] [] := T.F_is_below.binds (ps := ["thing", "bound"]) (fun _ _ _ _ _ _ us hl => match us, hl with | [_, _], _ => rfl)
theorem Txt.m_is_below {K : PySem.W.Frag} {mg : Str → Option Value} (T : Txt K mg) : mg "is_below" = some (.ref T.f_is_below) := Said.glo T 2 rfl
abbrev Txt.f_is_row {K : PySem.W.Frag} {mg : Str → Option Value} (T : Txt K mg) : Addr := He.ga K "is_row"
noncomputable def Txt.d_is_row {K : PySem.W.Frag} {mg : Str → Option Value} (T : Txt K mg) : FuncData := (Said.d T 3 (d := dOf "is_row" s_is_row []) rfl).choose
theorem Txt.F_is_row {K : PySem.W.Frag} {mg : Str → Option Value} (T : Txt K mg) : L2.Fun K "is_row" "is_row" s_is_row T.f_is_row T.d_is_row := fun_of (st := s_is_row) (Said.d T 3 (d := dOf "is_row" s_is_row []) rfl).choose_spec
theorem Txt.b_is_row {K : PySem.W.Frag} {mg : Str → Option Value} (T : Txt K mg) : L2.Binds K T.d_is_row ["thing", "many"] [] := T.F_is_row.binds (ps := ["thing", "many"]) (fun _ _ _ _ _ _ us hl => match us, hl with | [_, _], _ => rfl)
theorem Txt.m_is_row {K : PySem.W.Frag} {mg : Str → Option Value} (T : Txt K mg) : mg "is_row" = some (.ref T.f_is_row) := Said.glo T 3 rfl
abbrev Txt.f_is_row_of {K : PySem.W.Frag} {mg : Str → Option Value} (T : Txt K mg) : Addr := He.ga K "is_row_of"
noncomputable def Txt.d_is_row_of {K : PySem.W.Frag} {mg : Str → Option Value} (T : Txt K mg) : FuncData := (Said.d T 4 (d := dOf "is_row_of" s_is_row_of []) rfl).choose
theorem Txt.F_is_row_of {K : PySem.W.Frag} {mg : Str → Option Value} (T : Txt K mg) : L2.Fun K "is_row_of" "is_row_of" s_is_row_of T.f_is_row_of T.d_is_row_of := fun_of (st := s_is_row_of) (Said.d T 4 (d := dOf "is_row_of" s_is_row_of []) rfl).choose_spec
theorem Txt.b_is_row_of {K : PySem.W.Frag} {mg : Str → Option Value} (T : Txt K mg) : L2.Binds K T.d_is_row_of ["is_such", "thing"] [] := T.F_is_row_of.binds (ps := ["is_such", "thing"]) (fun _ _ _ _ _ _ us hl => match us, hl with | [_, _], _ => rfl)
theorem Txt.m_is_row_of {K : PySem.W.Frag} {mg : Str → Option Value} (T : Txt K mg) : mg "is_row_of" = some (.ref T.f_is_row_of) := Said.glo T 4 rfl
abbrev Txt.f_is_rising {K : PySem.W.Frag} {mg : Str → Option Value} (T : Txt K mg) : Addr := He.ga K "is_rising"
noncomputable def Txt.d_is_rising {K : PySem.W.Frag} {mg : Str → Option Value} (T : Txt K mg) : FuncData := (Said.d T 5 (d := dOf "is_rising" s_is_rising []) rfl).choose
theorem Txt.F_is_rising {K : PySem.W.Frag} {mg : Str → Option Value} (T : Txt K mg) : L2.Fun K "is_rising" "is_rising" s_is_rising T.f_is_rising T.d_is_rising := fun_of (st := s_is_rising) (Said.d T 5 (d := dOf "is_rising" s_is_rising []) rfl).choose_spec
theorem Txt.b_is_rising {K : PySem.W.Frag} {mg : Str → Option Value} (T : Txt K mg) : L2.Binds K T.d_is_rising ["row"] [] := T.F_is_rising.binds (ps := ["row"]) (fun _ _ _ _ _ _ us hl => match us, hl with | [_], _ => rfl)
theorem Txt.m_is_rising {K : PySem.W.Frag} {mg : Str → Option Value} (T : Txt K mg) : mg "is_rising" = some (.ref T.f_is_rising) := Said.glo T 5 rfl
abbrev Txt.f_as_tuples {K : PySem.W.Frag} {mg : Str → Option Value} (T : Txt K mg) : Addr := He.ga K "as_tuples"
noncomputable def Txt.d_as_tuples {K : PySem.W.Frag} {mg : Str → Option Value} (T : Txt K mg) : FuncData := (Said.d T 6 (d := dOf "as_tuples" s_as_tuples [.int 20]) rfl).choose
theorem Txt.F_as_tuples {K : PySem.W.Frag} {mg : Str → Option Value} (T : Txt K mg) : FunD K "as_tuples" "as_tuples" (defArgs s_as_tuples) (defBody s_as_tuples) (defScope s_as_tuples) [.int 20] [] T.f_as_tuples T.d_as_tuples := (Said.d T 6 (d := dOf "as_tuples" s_as_tuples [.int 20]) rfl).choose_spec
theorem Txt.m_as_tuples {K : PySem.W.Frag} {mg : Str → Option Value} (T : Txt K mg) : mg "as_tuples" = some (.ref T.f_as_tuples) := Said.glo T 6 rfl
abbrev Txt.f_checked {K : PySem.W.Frag} {mg : Str → Option Value} (T : Txt K mg) : Addr := He.ga K "checked"
noncomputable def Txt.d_checked {K : PySem.W.Frag} {mg : Str → Option Value} (T : Txt K mg) : FuncData := (Said.d T 7 (d := dOf "checked" s_checked []) rfl).choose
theorem Txt.F_checked {K : PySem.W.Frag} {mg : Str → Option Value} (T : Txt K mg) : L2.Fun K "checked" "checked" s_checked T.f_checked T.d_checked := fun_of (st := s_checked) (Said.d T 7 (d := dOf "checked" s_checked []) rfl).choose_spec
theorem Txt.b_checked {K : PySem.W.Frag} {mg : Str → Option Value} (T : Txt K mg) : L2.Binds K T.d_checked ["is_such", "thing"] [] := T.F_checked.binds (ps := ["is_such", "thing"]) (fun _ _ _ _ _ _ us hl => match us, hl with | [_, _], _ => rfl)
theorem Txt.m_checked {K : PySem.W.Frag} {mg : Str → Option Value} (T : Txt K mg) : mg "checked" = some (.ref T.f_checked) := Said.glo T 7 rfl
abbrev Txt.f_is_word {K : PySem.W.Frag} {mg : Str → Option Value} (T : Txt K mg) : Addr := He.ga K "is_word"
noncomputable def Txt.d_is_word {K : PySem.W.Frag} {mg : Str → Option Value} (T : Txt K mg) : FuncData := (Said.d T 8 (d := dOf "is_word" s_is_word []) rfl).choose
theorem Txt.F_is_word {K : PySem.W.Frag} {mg : Str → Option Value} (T : Txt K mg) : L2.Fun K "is_word" "is_word" s_is_word T.f_is_word T.d_is_word := fun_of (st := s_is_word) (Said.d T 8 (d := dOf "is_word" s_is_word []) rfl).choose_spec
theorem Txt.b_is_word {K : PySem.W.Frag} {mg : Str → Option Value} (T : Txt K mg) : L2.Binds K T.d_is_word ["thing"] [] := T.F_is_word.binds (ps := ["thing"]) (fun _ _ _ _ _ _ us hl => match us, hl with | [_], _ => rfl)
theorem Txt.m_is_word {K : PySem.W.Frag} {mg : Str → Option Value} (T : Txt K mg) : mg "is_word" = some (.ref T.f_is_word) := Said.glo T 8 rfl
abbrev Txt.f_is_key {K : PySem.W.Frag} {mg : Str → Option Value} (T : Txt K mg) : Addr := He.ga K "is_key"
noncomputable def Txt.d_is_key {K : PySem.W.Frag} {mg : Str → Option Value} (T : Txt K mg) : FuncData := (Said.d T 9 (d := dOf "is_key" s_is_key []) rfl).choose
theorem Txt.F_is_key {K : PySem.W.Frag} {mg : Str → Option Value} (T : Txt K mg) : L2.Fun K "is_key" "is_key" s_is_key T.f_is_key T.d_is_key := fun_of (st := s_is_key) (Said.d T 9 (d := dOf "is_key" s_is_key []) rfl).choose_spec
theorem Txt.b_is_key {K : PySem.W.Frag} {mg : Str → Option Value} (T : Txt K mg) : L2.Binds K T.d_is_key ["thing"] [] := T.F_is_key.binds (ps := ["thing"]) (fun _ _ _ _ _ _ us hl => match us, hl with | [_], _ => rfl)
theorem Txt.m_is_key {K : PySem.W.Frag} {mg : Str → Option Value} (T : Txt K mg) : mg "is_key" = some (.ref T.f_is_key) := Said.glo T 9 rfl
abbrev Txt.f_is_single {K : PySem.W.Frag} {mg : Str → Option Value} (T : Txt K mg) : Addr := He.ga K "is_single"
noncomputable def Txt.d_is_single {K : PySem.W.Frag} {mg : Str → Option Value} (T : Txt K mg) : FuncData := (Said.d T 10 (d := dOf "is_single" s_is_single []) rfl).choose
theorem Txt.F_is_single {K : PySem.W.Frag} {mg : Str → Option Value} (T : Txt K mg) : L2.Fun K "is_single" "is_single" s_is_single T.f_is_single T.d_is_single := fun_of (st := s_is_single) (Said.d T 10 (d := dOf "is_single" s_is_single []) rfl).choose_spec
theorem Txt.b_is_single {K : PySem.W.Frag} {mg : Str → Option Value} (T : Txt K mg) : L2.Binds K T.d_is_single ["thing"] [] := T.F_is_single.binds (ps := ["thing"]) (fun _ _ _ _ _ _ us hl => match us, hl with | [_], _ => rfl)
theorem Txt.m_is_single {K : PySem.W.Frag} {mg : Str → Option Value} (T : Txt K mg) : mg "is_single" = some (.ref T.f_is_single) := Said.glo T 10 rfl
abbrev Txt.f_is_deed {K : PySem.W.Frag} {mg : Str → Option Value} (T : Txt K mg) : Addr := He.ga K "is_deed"
noncomputable def Txt.d_is_deed {K : PySem.W.Frag} {mg : Str → Option Value} (T : Txt K mg) : FuncData := (Said.d T 11 (d := dOf "is_deed" s_is_deed []) rfl).choose
theorem Txt.F_is_deed {K : PySem.W.Frag} {mg : Str → Option Value} (T : Txt K mg) : L2.Fun K "is_deed" "is_deed" s_is_deed T.f_is_deed T.d_is_deed := fun_of (st := s_is_deed) (Said.d T 11 (d := dOf "is_deed" s_is_deed []) rfl).choose_spec
theorem Txt.b_is_deed {K : PySem.W.Frag} {mg : Str → Option Value} (T : Txt K mg) : L2.Binds K T.d_is_deed ["thing"] [] := T.F_is_deed.binds (ps := ["thing"]) (fun _ _ _ _ _ _ us hl => match us, hl with | [_], _ => rfl)
theorem Txt.m_is_deed {K : PySem.W.Frag} {mg : Str → Option Value} (T : Txt K mg) : mg "is_deed" = some (.ref T.f_is_deed) := Said.glo T 11 rfl
abbrev Txt.f_is_record {K : PySem.W.Frag} {mg : Str → Option Value} (T : Txt K mg) : Addr := He.ga K "is_record"
noncomputable def Txt.d_is_record {K : PySem.W.Frag} {mg : Str → Option Value} (T : Txt K mg) : FuncData := (Said.d T 12 (d := dOf "is_record" s_is_record []) rfl).choose
theorem Txt.F_is_record {K : PySem.W.Frag} {mg : Str → Option Value} (T : Txt K mg) : L2.Fun K "is_record" "is_record" s_is_record T.f_is_record T.d_is_record := fun_of (st := s_is_record) (Said.d T 12 (d := dOf "is_record" s_is_record []) rfl).choose_spec
theorem Txt.b_is_record {K : PySem.W.Frag} {mg : Str → Option Value} (T : Txt K mg) : L2.Binds K T.d_is_record ["thing"] [] := T.F_is_record.binds (ps := ["thing"]) (fun _ _ _ _ _ _ us hl => match us, hl with | [_], _ => rfl)
theorem Txt.m_is_record {K : PySem.W.Frag} {mg : Str → Option Value} (T : Txt K mg) : mg "is_record" = some (.ref T.f_is_record) := Said.glo T 12 rfl
abbrev Txt.f_is_table {K : PySem.W.Frag} {mg : Str → Option Value} (T : Txt K mg) : Addr := He.ga K "is_table"
noncomputable def Txt.d_is_table {K : PySem.W.Frag} {mg : Str → Option Value} (T : Txt K mg) : FuncData := (Said.d T 13 (d := dOf "is_table" s_is_table []) rfl).choose
theorem Txt.F_is_table {K : PySem.W.Frag} {mg : Str → Option Value} (T : Txt K mg) : L2.Fun K "is_table" "is_table" s_is_table T.f_is_table T.d_is_table := fun_of (st := s_is_table) (Said.d T 13 (d := dOf "is_table" s_is_table []) rfl).choose_spec
theorem Txt.b_is_table {K : PySem.W.Frag} {mg : Str → Option Value} (T : Txt K mg) : L2.Binds K T.d_is_table ["thing"] [] := T.F_is_table.binds (ps := ["thing"]) (fun _ _ _ _ _ _ us hl => match us, hl with | [_], _ => rfl)
theorem Txt.m_is_table {K : PySem.W.Frag} {mg : Str → Option Value} (T : Txt K mg) : mg "is_table" = some (.ref T.f_is_table) := Said.glo T 13 rfl
abbrev Txt.f_is_table_pair {K : PySem.W.Frag} {mg : Str → Option Value} (T : Txt K mg) : Addr := He.ga K "is_table_pair"
noncomputable def Txt.d_is_table_pair {K : PySem.W.Frag} {mg : Str → Option Value} (T : Txt K mg) : FuncData := (Said.d T 14 (d := dOf "is_table_pair" s_is_table_pair []) rfl).choose
theorem Txt.F_is_table_pair {K : PySem.W.Frag} {mg : Str → Option Value} (T : Txt K mg) : L2.Fun K "is_table_pair" "is_table_pair" s_is_table_pair T.f_is_table_pair T.d_is_table_pair := fun_of (st := s_is_table_pair) (Said.d T 14 (d := dOf "is_table_pair" s_is_table_pair []) rfl).choose_spec
theorem Txt.b_is_table_pair {K : PySem.W.Frag} {mg : Str → Option Value} (T : Txt K mg) : L2.Binds K T.d_is_table_pair ["thing"] [] := T.F_is_table_pair.binds (ps := ["thing"]) (fun _ _ _ _ _ _ us hl => match us, hl with | [_], _ => rfl)
theorem Txt.m_is_table_pair {K : PySem.W.Frag} {mg : Str → Option Value} (T : Txt K mg) : mg "is_table_pair" = some (.ref T.f_is_table_pair) := Said.glo T 14 rfl
abbrev Txt.f_is_deeds {K : PySem.W.Frag} {mg : Str → Option Value} (T : Txt K mg) : Addr := He.ga K "is_deeds"
noncomputable def Txt.d_is_deeds {K : PySem.W.Frag} {mg : Str → Option Value} (T : Txt K mg) : FuncData := (Said.d T 15 (d := dOf "is_deeds" s_is_deeds []) rfl).choose
theorem Txt.F_is_deeds {K : PySem.W.Frag} {mg : Str → Option Value} (T : Txt K mg) : L2.Fun K "is_deeds" "is_deeds" s_is_deeds T.f_is_deeds T.d_is_deeds := fun_of (st := s_is_deeds) (Said.d T 15 (d := dOf "is_deeds" s_is_deeds []) rfl).choose_spec
theorem Txt.b_is_deeds {K : PySem.W.Frag} {mg : Str → Option Value} (T : Txt K mg) : L2.Binds K T.d_is_deeds ["thing"] [] := T.F_is_deeds.binds (ps := ["thing"]) (fun _ _ _ _ _ _ us hl => match us, hl with | [_], _ => rfl)
theorem Txt.m_is_deeds {K : PySem.W.Frag} {mg : Str → Option Value} (T : Txt K mg) : mg "is_deeds" = some (.ref T.f_is_deeds) := Said.glo T 15 rfl
abbrev Txt.f_is_records {K : PySem.W.Frag} {mg : Str → Option Value} (T : Txt K mg) : Addr := He.ga K "is_records"
noncomputable def Txt.d_is_records {K : PySem.W.Frag} {mg : Str → Option Value} (T : Txt K mg) : FuncData := (Said.d T 16 (d := dOf "is_records" s_is_records []) rfl).choose
theorem Txt.F_is_records {K : PySem.W.Frag} {mg : Str → Option Value} (T : Txt K mg) : L2.Fun K "is_records" "is_records" s_is_records T.f_is_records T.d_is_records := fun_of (st := s_is_records) (Said.d T 16 (d := dOf "is_records" s_is_records []) rfl).choose_spec
theorem Txt.b_is_records {K : PySem.W.Frag} {mg : Str → Option Value} (T : Txt K mg) : L2.Binds K T.d_is_records ["thing"] [] := T.F_is_records.binds (ps := ["thing"]) (fun _ _ _ _ _ _ us hl => match us, hl with | [_], _ => rfl)
theorem Txt.m_is_records {K : PySem.W.Frag} {mg : Str → Option Value} (T : Txt K mg) : mg "is_records" = some (.ref T.f_is_records) := Said.glo T 16 rfl
abbrev Txt.f_parts_of {K : PySem.W.Frag} {mg : Str → Option Value} (T : Txt K mg) : Addr := He.ga K "parts_of"
noncomputable def Txt.d_parts_of {K : PySem.W.Frag} {mg : Str → Option Value} (T : Txt K mg) : FuncData := (Said.d T 17 (d := dOf "parts_of" s_parts_of []) rfl).choose
theorem Txt.F_parts_of {K : PySem.W.Frag} {mg : Str → Option Value} (T : Txt K mg) : L2.Fun K "parts_of" "parts_of" s_parts_of T.f_parts_of T.d_parts_of := fun_of (st := s_parts_of) (Said.d T 17 (d := dOf "parts_of" s_parts_of []) rfl).choose_spec
theorem Txt.b_parts_of {K : PySem.W.Frag} {mg : Str → Option Value} (T : Txt K mg) : L2.Binds K T.d_parts_of ["deed"] [] := T.F_parts_of.binds (ps := ["deed"]) (fun _ _ _ _ _ _ us hl => match us, hl with | [_], _ => rfl)
theorem Txt.m_parts_of {K : PySem.W.Frag} {mg : Str → Option Value} (T : Txt K mg) : mg "parts_of" = some (.ref T.f_parts_of) := Said.glo T 17 rfl
abbrev Txt.f_row_of {K : PySem.W.Frag} {mg : Str → Option Value} (T : Txt K mg) : Addr := He.ga K "row_of"
noncomputable def Txt.d_row_of {K : PySem.W.Frag} {mg : Str → Option Value} (T : Txt K mg) : FuncData := (Said.d T 18 (d := dOf "row_of" s_row_of []) rfl).choose
theorem Txt.F_row_of {K : PySem.W.Frag} {mg : Str → Option Value} (T : Txt K mg) : L2.Fun K "row_of" "row_of" s_row_of T.f_row_of T.d_row_of := fun_of (st := s_row_of) (Said.d T 18 (d := dOf "row_of" s_row_of []) rfl).choose_spec
theorem Txt.b_row_of {K : PySem.W.Frag} {mg : Str → Option Value} (T : Txt K mg) : L2.Binds K T.d_row_of ["deeds"] [] := T.F_row_of.binds (ps := ["deeds"]) (fun _ _ _ _ _ _ us hl => match us, hl with | [_], _ => rfl)
theorem Txt.m_row_of {K : PySem.W.Frag} {mg : Str → Option Value} (T : Txt K mg) : mg "row_of" = some (.ref T.f_row_of) := Said.glo T 18 rfl
abbrev Txt.f_keys_of {K : PySem.W.Frag} {mg : Str → Option Value} (T : Txt K mg) : Addr := He.ga K "keys_of"
noncomputable def Txt.d_keys_of {K : PySem.W.Frag} {mg : Str → Option Value} (T : Txt K mg) : FuncData := (Said.d T 19 (d := dOf "keys_of" s_keys_of []) rfl).choose
theorem Txt.F_keys_of {K : PySem.W.Frag} {mg : Str → Option Value} (T : Txt K mg) : L2.Fun K "keys_of" "keys_of" s_keys_of T.f_keys_of T.d_keys_of := fun_of (st := s_keys_of) (Said.d T 19 (d := dOf "keys_of" s_keys_of []) rfl).choose_spec
theorem Txt.b_keys_of {K : PySem.W.Frag} {mg : Str → Option Value} (T : Txt K mg) : L2.Binds K T.d_keys_of ["deed"] [] := T.F_keys_of.binds (ps := ["deed"]) (fun _ _ _ _ _ _ us hl => match us, hl with | [_], _ => rfl)
theorem Txt.m_keys_of {K : PySem.W.Frag} {mg : Str → Option Value} (T : Txt K mg) : mg "keys_of" = some (.ref T.f_keys_of) := Said.glo T 19 rfl
abbrev Txt.f_singles_in {K : PySem.W.Frag} {mg : Str → Option Value} (T : Txt K mg) : Addr := He.ga K "singles_in"
noncomputable def Txt.d_singles_in {K : PySem.W.Frag} {mg : Str → Option Value} (T : Txt K mg) : FuncData := (Said.d T 20 (d := dOf "singles_in" s_singles_in []) rfl).choose
theorem Txt.F_singles_in {K : PySem.W.Frag} {mg : Str → Option Value} (T : Txt K mg) : L2.Fun K "singles_in" "singles_in" s_singles_in T.f_singles_in T.d_singles_in := fun_of (st := s_singles_in) (Said.d T 20 (d := dOf "singles_in" s_singles_in []) rfl).choose_spec
theorem Txt.b_singles_in {K : PySem.W.Frag} {mg : Str → Option Value} (T : Txt K mg) : L2.Binds K T.d_singles_in ["deed"] [] := T.F_singles_in.binds (ps := ["deed"]) (fun _ _ _ _ _ _ us hl => match us, hl with | [_], _ => rfl)
theorem Txt.m_singles_in {K : PySem.W.Frag} {mg : Str → Option Value} (T : Txt K mg) : mg "singles_in" = some (.ref T.f_singles_in) := Said.glo T 20 rfl
abbrev Txt.f_parts_in {K : PySem.W.Frag} {mg : Str → Option Value} (T : Txt K mg) : Addr := He.ga K "parts_in"
noncomputable def Txt.d_parts_in {K : PySem.W.Frag} {mg : Str → Option Value} (T : Txt K mg) : FuncData := (Said.d T 21 (d := dOf "parts_in" s_parts_in []) rfl).choose
theorem Txt.F_parts_in {K : PySem.W.Frag} {mg : Str → Option Value} (T : Txt K mg) : L2.Fun K "parts_in" "parts_in" s_parts_in T.f_parts_in T.d_parts_in := fun_of (st := s_parts_in) (Said.d T 21 (d := dOf "parts_in" s_parts_in []) rfl).choose_spec
theorem Txt.b_parts_in {K : PySem.W.Frag} {mg : Str → Option Value} (T : Txt K mg) : L2.Binds K T.d_parts_in ["deed"] [] := T.F_parts_in.binds (ps := ["deed"]) (fun _ _ _ _ _ _ us hl => match us, hl with | [_], _ => rfl)
theorem Txt.m_parts_in {K : PySem.W.Frag} {mg : Str → Option Value} (T : Txt K mg) : mg "parts_in" = some (.ref T.f_parts_in) := Said.glo T 21 rfl
abbrev Txt.f_closed_in {K : PySem.W.Frag} {mg : Str → Option Value} (T : Txt K mg) : Addr := He.ga K "closed_in"
noncomputable def Txt.d_closed_in {K : PySem.W.Frag} {mg : Str → Option Value} (T : Txt K mg) : FuncData := (Said.d T 22 (d := dOf "closed_in" s_closed_in []) rfl).choose
theorem Txt.F_closed_in {K : PySem.W.Frag} {mg : Str → Option Value} (T : Txt K mg) : L2.Fun K "closed_in" "closed_in" s_closed_in T.f_closed_in T.d_closed_in := fun_of (st := s_closed_in) (Said.d T 22 (d := dOf "closed_in" s_closed_in []) rfl).choose_spec
theorem Txt.b_closed_in {K : PySem.W.Frag} {mg : Str → Option Value} (T : Txt K mg) : L2.Binds K T.d_closed_in ["records"] [] := T.F_closed_in.binds (ps := ["records"]) (fun _ _ _ _ _ _ us hl => match us, hl with | [_], _ => rfl)
theorem Txt.m_closed_in {K : PySem.W.Frag} {mg : Str → Option Value} (T : Txt K mg) : mg "closed_in" = some (.ref T.f_closed_in) := Said.glo T 22 rfl
abbrev Txt.f_closed_lots {K : PySem.W.Frag} {mg : Str → Option Value} (T : Txt K mg) : Addr := He.ga K "closed_lots"
noncomputable def Txt.d_closed_lots {K : PySem.W.Frag} {mg : Str → Option Value} (T : Txt K mg) : FuncData := (Said.d T 23 (d := dOf "closed_lots" s_closed_lots []) rfl).choose
theorem Txt.F_closed_lots {K : PySem.W.Frag} {mg : Str → Option Value} (T : Txt K mg) : L2.Fun K "closed_lots" "closed_lots" s_closed_lots T.f_closed_lots T.d_closed_lots := fun_of (st := s_closed_lots) (Said.d T 23 (d := dOf "closed_lots" s_closed_lots []) rfl).choose_spec
theorem Txt.b_closed_lots {K : PySem.W.Frag} {mg : Str → Option Value} (T : Txt K mg) : L2.Binds K T.d_closed_lots ["row"] [] := T.F_closed_lots.binds (ps := ["row"]) (fun _ _ _ _ _ _ us hl => match us, hl with | [_], _ => rfl)
theorem Txt.m_closed_lots {K : PySem.W.Frag} {mg : Str → Option Value} (T : Txt K mg) : mg "closed_lots" = some (.ref T.f_closed_lots) := Said.glo T 23 rfl
abbrev Txt.f_first_closed {K : PySem.W.Frag} {mg : Str → Option Value} (T : Txt K mg) : Addr := He.ga K "first_closed"
noncomputable def Txt.d_first_closed {K : PySem.W.Frag} {mg : Str → Option Value} (T : Txt K mg) : FuncData := (Said.d T 24 (d := dOf "first_closed" s_first_closed []) rfl).choose
theorem Txt.F_first_closed {K : PySem.W.Frag} {mg : Str → Option Value} (T : Txt K mg) : L2.Fun K "first_closed" "first_closed" s_first_closed T.f_first_closed T.d_first_closed := fun_of (st := s_first_closed) (Said.d T 24 (d := dOf "first_closed" s_first_closed []) rfl).choose_spec
theorem Txt.b_first_closed {K : PySem.W.Frag} {mg : Str → Option Value} (T : Txt K mg) : L2.Binds K T.d_first_closed ["row", "at"] [] := T.F_first_closed.binds (ps := ["row", "at"]) (fun _ _ _ _ _ _ us hl => match us, hl with | [_, _], _ => rfl)
theorem Txt.m_first_closed {K : PySem.W.Frag} {mg : Str → Option Value} (T : Txt K mg) : mg "first_closed" = some (.ref T.f_first_closed) := Said.glo T 24 rfl
abbrev Txt.f_is_part_ahead {K : PySem.W.Frag} {mg : Str → Option Value} (T : Txt K mg) : Addr := He.ga K "is_part_ahead"
noncomputable def Txt.d_is_part_ahead {K : PySem.W.Frag} {mg : Str → Option Value} (T : Txt K mg) : FuncData := (Said.d T 25 (d := dOf "is_part_ahead" s_is_part_ahead []) rfl).choose
theorem Txt.F_is_part_ahead {K : PySem.W.Frag} {mg : Str → Option Value} (T : Txt K mg) : L2.Fun K "is_part_ahead" "is_part_ahead" s_is_part_ahead T.f_is_part_ahead T.d_is_part_ahead := fun_of (st := s_is_part_ahead) (Said.d T 25 (d := dOf "is_part_ahead" s_is_part_ahead []) rfl).choose_spec
theorem Txt.b_is_part_ahead {K : PySem.W.Frag} {mg : Str → Option Value} (T : Txt K mg) : L2.Binds K T.d_is_part_ahead ["part", "later"] [] := T.F_is_part_ahead.binds (ps := ["part", "later"]) (fun _ _ _ _ _ _ us hl => match us, hl with | [_, _], _ => rfl)
theorem Txt.m_is_part_ahead {K : PySem.W.Frag} {mg : Str → Option Value} (T : Txt K mg) : mg "is_part_ahead" = some (.ref T.f_is_part_ahead) := Said.glo T 25 rfl
abbrev Txt.f_left_begun {K : PySem.W.Frag} {mg : Str → Option Value} (T : Txt K mg) : Addr := He.ga K "left_begun"
noncomputable def Txt.d_left_begun {K : PySem.W.Frag} {mg : Str → Option Value} (T : Txt K mg) : FuncData := (Said.d T 26 (d := dOf "left_begun" s_left_begun []) rfl).choose
theorem Txt.F_left_begun {K : PySem.W.Frag} {mg : Str → Option Value} (T : Txt K mg) : L2.Fun K "left_begun" "left_begun" s_left_begun T.f_left_begun T.d_left_begun := fun_of (st := s_left_begun) (Said.d T 26 (d := dOf "left_begun" s_left_begun []) rfl).choose_spec
theorem Txt.b_left_begun {K : PySem.W.Frag} {mg : Str → Option Value} (T : Txt K mg) : L2.Binds K T.d_left_begun ["records"] [] := T.F_left_begun.binds (ps := ["records"]) (fun _ _ _ _ _ _ us hl => match us, hl with | [_], _ => rfl)
theorem Txt.m_left_begun {K : PySem.W.Frag} {mg : Str → Option Value} (T : Txt K mg) : mg "left_begun" = some (.ref T.f_left_begun) := Said.glo T 26 rfl
abbrev Txt.f_begun_in {K : PySem.W.Frag} {mg : Str → Option Value} (T : Txt K mg) : Addr := He.ga K "begun_in"
noncomputable def Txt.d_begun_in {K : PySem.W.Frag} {mg : Str → Option Value} (T : Txt K mg) : FuncData := (Said.d T 27 (d := dOf "begun_in" s_begun_in []) rfl).choose
theorem Txt.F_begun_in {K : PySem.W.Frag} {mg : Str → Option Value} (T : Txt K mg) : L2.Fun K "begun_in" "begun_in" s_begun_in T.f_begun_in T.d_begun_in := fun_of (st := s_begun_in) (Said.d T 27 (d := dOf "begun_in" s_begun_in []) rfl).choose_spec
theorem Txt.b_begun_in {K : PySem.W.Frag} {mg : Str → Option Value} (T : Txt K mg) : L2.Binds K T.d_begun_in ["row"] [] := T.F_begun_in.binds (ps := ["row"]) (fun _ _ _ _ _ _ us hl => match us, hl with | [_], _ => rfl)
theorem Txt.m_begun_in {K : PySem.W.Frag} {mg : Str → Option Value} (T : Txt K mg) : mg "begun_in" = some (.ref T.f_begun_in) := Said.glo T 27 rfl
abbrev Txt.f_with_single {K : PySem.W.Frag} {mg : Str → Option Value} (T : Txt K mg) : Addr := He.ga K "with_single"
noncomputable def Txt.d_with_single {K : PySem.W.Frag} {mg : Str → Option Value} (T : Txt K mg) : FuncData := (Said.d T 28 (d := dOf "with_single" s_with_single []) rfl).choose
theorem Txt.F_with_single {K : PySem.W.Frag} {mg : Str → Option Value} (T : Txt K mg) : L2.Fun K "with_single" "with_single" s_with_single T.f_with_single T.d_with_single := fun_of (st := s_with_single) (Said.d T 28 (d := dOf "with_single" s_with_single []) rfl).choose_spec
theorem Txt.b_with_single {K : PySem.W.Frag} {mg : Str → Option Value} (T : Txt K mg) : L2.Binds K T.d_with_single ["table", "single"] [] := T.F_with_single.binds (ps := ["table", "single"]) (fun _ _ _ _ _ _ us hl => match us, hl with | [_, _], _ => rfl)
theorem Txt.m_with_single {K : PySem.W.Frag} {mg : Str → Option Value} (T : Txt K mg) : mg "with_single" = some (.ref T.f_with_single) := Said.glo T 28 rfl
abbrev Txt.f_with_deeds {K : PySem.W.Frag} {mg : Str → Option Value} (T : Txt K mg) : Addr := He.ga K "with_deeds"
noncomputable def Txt.d_with_deeds {K : PySem.W.Frag} {mg : Str → Option Value} (T : Txt K mg) : FuncData := (Said.d T 29 (d := dOf "with_deeds" s_with_deeds []) rfl).choose
theorem Txt.F_with_deeds {K : PySem.W.Frag} {mg : Str → Option Value} (T : Txt K mg) : L2.Fun K "with_deeds" "with_deeds" s_with_deeds T.f_with_deeds T.d_with_deeds := fun_of (st := s_with_deeds) (Said.d T 29 (d := dOf "with_deeds" s_with_deeds []) rfl).choose_spec
theorem Txt.b_with_deeds {K : PySem.W.Frag} {mg : Str → Option Value} (T : Txt K mg) : L2.Binds K T.d_with_deeds ["table", "deeds"] [] := T.F_with_deeds.binds (ps := ["table", "deeds"]) (fun _ _ _ _ _ _ us hl => match us, hl with | [_, _], _ => rfl)
theorem Txt.m_with_deeds {K : PySem.W.Frag} {mg : Str → Option Value} (T : Txt K mg) : mg "with_deeds" = some (.ref T.f_with_deeds) := Said.glo T 29 rfl
abbrev Txt.f_table_with {K : PySem.W.Frag} {mg : Str → Option Value} (T : Txt K mg) : Addr := He.ga K "table_with"
noncomputable def Txt.d_table_with {K : PySem.W.Frag} {mg : Str → Option Value} (T : Txt K mg) : FuncData := (Said.d T 30 (d := dOf "table_with" s_table_with []) rfl).choose
theorem Txt.F_table_with {K : PySem.W.Frag} {mg : Str → Option Value} (T : Txt K mg) : L2.Fun K "table_with" "table_with" s_table_with T.f_table_with T.d_table_with := fun_of (st := s_table_with) (Said.d T 30 (d := dOf "table_with" s_table_with []) rfl).choose_spec
theorem Txt.b_table_with {K : PySem.W.Frag} {mg : Str → Option Value} (T : Txt K mg) : L2.Binds K T.d_table_with ["table", "singles"] [] := T.F_table_with.binds (ps := ["table", "singles"]) (fun _ _ _ _ _ _ us hl => match us, hl with | [_, _], _ => rfl)
theorem Txt.m_table_with {K : PySem.W.Frag} {mg : Str → Option Value} (T : Txt K mg) : mg "table_with" = some (.ref T.f_table_with) := Said.glo T 30 rfl
abbrev Txt.f_is_fates_row {K : PySem.W.Frag} {mg : Str → Option Value} (T : Txt K mg) : Addr := He.ga K "is_fates_row"
noncomputable def Txt.d_is_fates_row {K : PySem.W.Frag} {mg : Str → Option Value} (T : Txt K mg) : FuncData := (Said.d T 31 (d := dOf "is_fates_row" s_is_fates_row []) rfl).choose
theorem Txt.F_is_fates_row {K : PySem.W.Frag} {mg : Str → Option Value} (T : Txt K mg) : L2.Fun K "is_fates_row" "is_fates_row" s_is_fates_row T.f_is_fates_row T.d_is_fates_row := fun_of (st := s_is_fates_row) (Said.d T 31 (d := dOf "is_fates_row" s_is_fates_row []) rfl).choose_spec
theorem Txt.b_is_fates_row {K : PySem.W.Frag} {mg : Str → Option Value} (T : Txt K mg) : L2.Binds K T.d_is_fates_row ["thing"] [] := T.F_is_fates_row.binds (ps := ["thing"]) (fun _ _ _ _ _ _ us hl => match us, hl with | [_], _ => rfl)
theorem Txt.m_is_fates_row {K : PySem.W.Frag} {mg : Str → Option Value} (T : Txt K mg) : mg "is_fates_row" = some (.ref T.f_is_fates_row) := Said.glo T 31 rfl
abbrev Txt.f_is_shape {K : PySem.W.Frag} {mg : Str → Option Value} (T : Txt K mg) : Addr := He.ga K "is_shape"
noncomputable def Txt.d_is_shape {K : PySem.W.Frag} {mg : Str → Option Value} (T : Txt K mg) : FuncData := (Said.d T 32 (d := dOf "is_shape" s_is_shape []) rfl).choose
theorem Txt.F_is_shape {K : PySem.W.Frag} {mg : Str → Option Value} (T : Txt K mg) : L2.Fun K "is_shape" "is_shape" s_is_shape T.f_is_shape T.d_is_shape := fun_of (st := s_is_shape) (Said.d T 32 (d := dOf "is_shape" s_is_shape []) rfl).choose_spec
theorem Txt.b_is_shape {K : PySem.W.Frag} {mg : Str → Option Value} (T : Txt K mg) : L2.Binds K T.d_is_shape ["thing"] [] := T.F_is_shape.binds (ps := ["thing"]) (fun _ _ _ _ _ _ us hl => match us, hl with | [_], _ => rfl)
theorem Txt.m_is_shape {K : PySem.W.Frag} {mg : Str → Option Value} (T : Txt K mg) : mg "is_shape" = some (.ref T.f_is_shape) := Said.glo T 32 rfl
abbrev Txt.f_is_device {K : PySem.W.Frag} {mg : Str → Option Value} (T : Txt K mg) : Addr := He.ga K "is_device"
noncomputable def Txt.d_is_device {K : PySem.W.Frag} {mg : Str → Option Value} (T : Txt K mg) : FuncData := (Said.d T 33 (d := dOf "is_device" s_is_device []) rfl).choose
theorem Txt.F_is_device {K : PySem.W.Frag} {mg : Str → Option Value} (T : Txt K mg) : L2.Fun K "is_device" "is_device" s_is_device T.f_is_device T.d_is_device := fun_of (st := s_is_device) (Said.d T 33 (d := dOf "is_device" s_is_device []) rfl).choose_spec
theorem Txt.b_is_device {K : PySem.W.Frag} {mg : Str → Option Value} (T : Txt K mg) : L2.Binds K T.d_is_device ["thing"] [] := T.F_is_device.binds (ps := ["thing"]) (fun _ _ _ _ _ _ us hl => match us, hl with | [_], _ => rfl)
theorem Txt.m_is_device {K : PySem.W.Frag} {mg : Str → Option Value} (T : Txt K mg) : mg "is_device" = some (.ref T.f_is_device) := Said.glo T 33 rfl
abbrev Txt.f_is_written_cell {K : PySem.W.Frag} {mg : Str → Option Value} (T : Txt K mg) : Addr := He.ga K "is_written_cell"
noncomputable def Txt.d_is_written_cell {K : PySem.W.Frag} {mg : Str → Option Value} (T : Txt K mg) : FuncData := (Said.d T 34 (d := dOf "is_written_cell" s_is_written_cell []) rfl).choose
theorem Txt.F_is_written_cell {K : PySem.W.Frag} {mg : Str → Option Value} (T : Txt K mg) : L2.Fun K "is_written_cell" "is_written_cell" s_is_written_cell T.f_is_written_cell T.d_is_written_cell := fun_of (st := s_is_written_cell) (Said.d T 34 (d := dOf "is_written_cell" s_is_written_cell []) rfl).choose_spec
theorem Txt.b_is_written_cell {K : PySem.W.Frag} {mg : Str → Option Value} (T : Txt K mg) : L2.Binds K T.d_is_written_cell ["thing"] [] := T.F_is_written_cell.binds (ps := ["thing"]) (fun _ _ _ _ _ _ us hl => match us, hl with | [_], _ => rfl)
theorem Txt.m_is_written_cell {K : PySem.W.Frag} {mg : Str → Option Value} (T : Txt K mg) : mg "is_written_cell" = some (.ref T.f_is_written_cell) := Said.glo T 34 rfl
abbrev Txt.f_is_content_in {K : PySem.W.Frag} {mg : Str → Option Value} (T : Txt K mg) : Addr := He.ga K "is_content_in"
noncomputable def Txt.d_is_content_in {K : PySem.W.Frag} {mg : Str → Option Value} (T : Txt K mg) : FuncData := (Said.d T 35 (d := dOf "is_content_in" s_is_content_in []) rfl).choose
theorem Txt.F_is_content_in {K : PySem.W.Frag} {mg : Str → Option Value} (T : Txt K mg) : L2.Fun K "is_content_in" "is_content_in" s_is_content_in T.f_is_content_in T.d_is_content_in := fun_of (st := s_is_content_in) (Said.d T 35 (d := dOf "is_content_in" s_is_content_in []) rfl).choose_spec
theorem Txt.b_is_content_in {K : PySem.W.Frag} {mg : Str → Option Value} (T : Txt K mg) : L2.Binds K T.d_is_content_in ["shape", "thing"] [] := T.F_is_content_in.binds (ps := ["shape", "thing"]) (fun _ _ _ _ _ _ us hl => match us, hl with | [_, _], _ => rfl)
theorem Txt.m_is_content_in {K : PySem.W.Frag} {mg : Str → Option Value} (T : Txt K mg) : mg "is_content_in" = some (.ref T.f_is_content_in) := Said.glo T 35 rfl
abbrev Txt.f_is_cell_in {K : PySem.W.Frag} {mg : Str → Option Value} (T : Txt K mg) : Addr := He.ga K "is_cell_in"
noncomputable def Txt.d_is_cell_in {K : PySem.W.Frag} {mg : Str → Option Value} (T : Txt K mg) : FuncData := (Said.d T 36 (d := dOf "is_cell_in" s_is_cell_in []) rfl).choose
theorem Txt.F_is_cell_in {K : PySem.W.Frag} {mg : Str → Option Value} (T : Txt K mg) : L2.Fun K "is_cell_in" "is_cell_in" s_is_cell_in T.f_is_cell_in T.d_is_cell_in := fun_of (st := s_is_cell_in) (Said.d T 36 (d := dOf "is_cell_in" s_is_cell_in []) rfl).choose_spec
theorem Txt.b_is_cell_in {K : PySem.W.Frag} {mg : Str → Option Value} (T : Txt K mg) : L2.Binds K T.d_is_cell_in ["shape", "thing"] [] := T.F_is_cell_in.binds (ps := ["shape", "thing"]) (fun _ _ _ _ _ _ us hl => match us, hl with | [_, _], _ => rfl)
theorem Txt.m_is_cell_in {K : PySem.W.Frag} {mg : Str → Option Value} (T : Txt K mg) : mg "is_cell_in" = some (.ref T.f_is_cell_in) := Said.glo T 36 rfl
abbrev Txt.f_is_picture_in {K : PySem.W.Frag} {mg : Str → Option Value} (T : Txt K mg) : Addr := He.ga K "is_picture_in"
noncomputable def Txt.d_is_picture_in {K : PySem.W.Frag} {mg : Str → Option Value} (T : Txt K mg) : FuncData := (Said.d T 37 (d := dOf "is_picture_in" s_is_picture_in []) rfl).choose
theorem Txt.F_is_picture_in {K : PySem.W.Frag} {mg : Str → Option Value} (T : Txt K mg) : L2.Fun K "is_picture_in" "is_picture_in" s_is_picture_in T.f_is_picture_in T.d_is_picture_in := fun_of (st := s_is_picture_in) (Said.d T 37 (d := dOf "is_picture_in" s_is_picture_in []) rfl).choose_spec
theorem Txt.b_is_picture_in {K : PySem.W.Frag} {mg : Str → Option Value} (T : Txt K mg) : L2.Binds K T.d_is_picture_in ["shape", "thing"] [] := T.F_is_picture_in.binds (ps := ["shape", "thing"]) (fun _ _ _ _ _ _ us hl => match us, hl with | [_, _], _ => rfl)
theorem Txt.m_is_picture_in {K : PySem.W.Frag} {mg : Str → Option Value} (T : Txt K mg) : mg "is_picture_in" = some (.ref T.f_is_picture_in) := Said.glo T 37 rfl
abbrev Txt.f_is_write_in {K : PySem.W.Frag} {mg : Str → Option Value} (T : Txt K mg) : Addr := He.ga K "is_write_in"
noncomputable def Txt.d_is_write_in {K : PySem.W.Frag} {mg : Str → Option Value} (T : Txt K mg) : FuncData := (Said.d T 38 (d := dOf "is_write_in" s_is_write_in []) rfl).choose
theorem Txt.F_is_write_in {K : PySem.W.Frag} {mg : Str → Option Value} (T : Txt K mg) : L2.Fun K "is_write_in" "is_write_in" s_is_write_in T.f_is_write_in T.d_is_write_in := fun_of (st := s_is_write_in) (Said.d T 38 (d := dOf "is_write_in" s_is_write_in []) rfl).choose_spec
theorem Txt.b_is_write_in {K : PySem.W.Frag} {mg : Str → Option Value} (T : Txt K mg) : L2.Binds K T.d_is_write_in ["shape", "thing"] [] := T.F_is_write_in.binds (ps := ["shape", "thing"]) (fun _ _ _ _ _ _ us hl => match us, hl with | [_, _], _ => rfl)
theorem Txt.m_is_write_in {K : PySem.W.Frag} {mg : Str → Option Value} (T : Txt K mg) : mg "is_write_in" = some (.ref T.f_is_write_in) := Said.glo T 38 rfl
abbrev Txt.f_is_event {K : PySem.W.Frag} {mg : Str → Option Value} (T : Txt K mg) : Addr := He.ga K "is_event"
noncomputable def Txt.d_is_event {K : PySem.W.Frag} {mg : Str → Option Value} (T : Txt K mg) : FuncData := (Said.d T 39 (d := dOf "is_event" s_is_event []) rfl).choose
theorem Txt.F_is_event {K : PySem.W.Frag} {mg : Str → Option Value} (T : Txt K mg) : L2.Fun K "is_event" "is_event" s_is_event T.f_is_event T.d_is_event := fun_of (st := s_is_event) (Said.d T 39 (d := dOf "is_event" s_is_event []) rfl).choose_spec
theorem Txt.b_is_event {K : PySem.W.Frag} {mg : Str → Option Value} (T : Txt K mg) : L2.Binds K T.d_is_event ["thing"] [] := T.F_is_event.binds (ps := ["thing"]) (fun _ _ _ _ _ _ us hl => match us, hl with | [_], _ => rfl)
theorem Txt.m_is_event {K : PySem.W.Frag} {mg : Str → Option Value} (T : Txt K mg) : mg "is_event" = some (.ref T.f_is_event) := Said.glo T 39 rfl
abbrev Txt.f_word_of {K : PySem.W.Frag} {mg : Str → Option Value} (T : Txt K mg) : Addr := He.ga K "word_of"
noncomputable def Txt.d_word_of {K : PySem.W.Frag} {mg : Str → Option Value} (T : Txt K mg) : FuncData := (Said.d T 40 (d := dOf "word_of" s_word_of []) rfl).choose
theorem Txt.F_word_of {K : PySem.W.Frag} {mg : Str → Option Value} (T : Txt K mg) : L2.Fun K "word_of" "word_of" s_word_of T.f_word_of T.d_word_of := fun_of (st := s_word_of) (Said.d T 40 (d := dOf "word_of" s_word_of []) rfl).choose_spec
theorem Txt.b_word_of {K : PySem.W.Frag} {mg : Str → Option Value} (T : Txt K mg) : L2.Binds K T.d_word_of ["number"] [] := T.F_word_of.binds (ps := ["number"]) (fun _ _ _ _ _ _ us hl => match us, hl with | [_], _ => rfl)
theorem Txt.m_word_of {K : PySem.W.Frag} {mg : Str → Option Value} (T : Txt K mg) : mg "word_of" = some (.ref T.f_word_of) := Said.glo T 40 rfl
abbrev Txt.f_device_text {K : PySem.W.Frag} {mg : Str → Option Value} (T : Txt K mg) : Addr := He.ga K "device_text"
noncomputable def Txt.d_device_text {K : PySem.W.Frag} {mg : Str → Option Value} (T : Txt K mg) : FuncData := (Said.d T 41 (d := dOf "device_text" s_device_text []) rfl).choose
theorem Txt.F_device_text {K : PySem.W.Frag} {mg : Str → Option Value} (T : Txt K mg) : L2.Fun K "device_text" "device_text" s_device_text T.f_device_text T.d_device_text := fun_of (st := s_device_text) (Said.d T 41 (d := dOf "device_text" s_device_text []) rfl).choose_spec
theorem Txt.b_device_text {K : PySem.W.Frag} {mg : Str → Option Value} (T : Txt K mg) : L2.Binds K T.d_device_text ["device"] [] := T.F_device_text.binds (ps := ["device"]) (fun _ _ _ _ _ _ us hl => match us, hl with | [_], _ => rfl)
theorem Txt.m_device_text {K : PySem.W.Frag} {mg : Str → Option Value} (T : Txt K mg) : mg "device_text" = some (.ref T.f_device_text) := Said.glo T 41 rfl
abbrev Txt.f_life_text {K : PySem.W.Frag} {mg : Str → Option Value} (T : Txt K mg) : Addr := He.ga K "life_text"
noncomputable def Txt.d_life_text {K : PySem.W.Frag} {mg : Str → Option Value} (T : Txt K mg) : FuncData := (Said.d T 42 (d := dOf "life_text" s_life_text []) rfl).choose
theorem Txt.F_life_text {K : PySem.W.Frag} {mg : Str → Option Value} (T : Txt K mg) : L2.Fun K "life_text" "life_text" s_life_text T.f_life_text T.d_life_text := fun_of (st := s_life_text) (Said.d T 42 (d := dOf "life_text" s_life_text []) rfl).choose_spec
theorem Txt.b_life_text {K : PySem.W.Frag} {mg : Str → Option Value} (T : Txt K mg) : L2.Binds K T.d_life_text ["life"] [] := T.F_life_text.binds (ps := ["life"]) (fun _ _ _ _ _ _ us hl => match us, hl with | [_], _ => rfl)
theorem Txt.m_life_text {K : PySem.W.Frag} {mg : Str → Option Value} (T : Txt K mg) : mg "life_text" = some (.ref T.f_life_text) := Said.glo T 42 rfl
abbrev Txt.f_story_text {K : PySem.W.Frag} {mg : Str → Option Value} (T : Txt K mg) : Addr := He.ga K "story_text"
noncomputable def Txt.d_story_text {K : PySem.W.Frag} {mg : Str → Option Value} (T : Txt K mg) : FuncData := (Said.d T 43 (d := dOf "story_text" s_story_text []) rfl).choose
theorem Txt.F_story_text {K : PySem.W.Frag} {mg : Str → Option Value} (T : Txt K mg) : L2.Fun K "story_text" "story_text" s_story_text T.f_story_text T.d_story_text := fun_of (st := s_story_text) (Said.d T 43 (d := dOf "story_text" s_story_text []) rfl).choose_spec
theorem Txt.b_story_text {K : PySem.W.Frag} {mg : Str → Option Value} (T : Txt K mg) : L2.Binds K T.d_story_text ["story"] [] := T.F_story_text.binds (ps := ["story"]) (fun _ _ _ _ _ _ us hl => match us, hl with | [_], _ => rfl)
theorem Txt.m_story_text {K : PySem.W.Frag} {mg : Str → Option Value} (T : Txt K mg) : mg "story_text" = some (.ref T.f_story_text) := Said.glo T 43 rfl
abbrev Txt.f_is_life_row {K : PySem.W.Frag} {mg : Str → Option Value} (T : Txt K mg) : Addr := He.ga K "is_life_row"
noncomputable def Txt.d_is_life_row {K : PySem.W.Frag} {mg : Str → Option Value} (T : Txt K mg) : FuncData := (Said.d T 44 (d := dOf "is_life_row" s_is_life_row []) rfl).choose
theorem Txt.F_is_life_row {K : PySem.W.Frag} {mg : Str → Option Value} (T : Txt K mg) : L2.Fun K "is_life_row" "is_life_row" s_is_life_row T.f_is_life_row T.d_is_life_row := fun_of (st := s_is_life_row) (Said.d T 44 (d := dOf "is_life_row" s_is_life_row []) rfl).choose_spec
theorem Txt.b_is_life_row {K : PySem.W.Frag} {mg : Str → Option Value} (T : Txt K mg) : L2.Binds K T.d_is_life_row ["thing"] [] := T.F_is_life_row.binds (ps := ["thing"]) (fun _ _ _ _ _ _ us hl => match us, hl with | [_], _ => rfl)
theorem Txt.m_is_life_row {K : PySem.W.Frag} {mg : Str → Option Value} (T : Txt K mg) : mg "is_life_row" = some (.ref T.f_is_life_row) := Said.glo T 44 rfl
abbrev Txt.f_is_story_row {K : PySem.W.Frag} {mg : Str → Option Value} (T : Txt K mg) : Addr := He.ga K "is_story_row"
noncomputable def Txt.d_is_story_row {K : PySem.W.Frag} {mg : Str → Option Value} (T : Txt K mg) : FuncData := (Said.d T 45 (d := dOf "is_story_row" s_is_story_row []) rfl).choose
theorem Txt.F_is_story_row {K : PySem.W.Frag} {mg : Str → Option Value} (T : Txt K mg) : L2.Fun K "is_story_row" "is_story_row" s_is_story_row T.f_is_story_row T.d_is_story_row := fun_of (st := s_is_story_row) (Said.d T 45 (d := dOf "is_story_row" s_is_story_row []) rfl).choose_spec
theorem Txt.b_is_story_row {K : PySem.W.Frag} {mg : Str → Option Value} (T : Txt K mg) : L2.Binds K T.d_is_story_row ["thing"] [] := T.F_is_story_row.binds (ps := ["thing"]) (fun _ _ _ _ _ _ us hl => match us, hl with | [_], _ => rfl)
theorem Txt.m_is_story_row {K : PySem.W.Frag} {mg : Str → Option Value} (T : Txt K mg) : mg "is_story_row" = some (.ref T.f_is_story_row) := Said.glo T 45 rfl
abbrev Txt.f_is_story_event {K : PySem.W.Frag} {mg : Str → Option Value} (T : Txt K mg) : Addr := He.ga K "is_story_event"
noncomputable def Txt.d_is_story_event {K : PySem.W.Frag} {mg : Str → Option Value} (T : Txt K mg) : FuncData := (Said.d T 46 (d := dOf "is_story_event" s_is_story_event []) rfl).choose
theorem Txt.F_is_story_event {K : PySem.W.Frag} {mg : Str → Option Value} (T : Txt K mg) : L2.Fun K "is_story_event" "is_story_event" s_is_story_event T.f_is_story_event T.d_is_story_event := fun_of (st := s_is_story_event) (Said.d T 46 (d := dOf "is_story_event" s_is_story_event []) rfl).choose_spec
theorem Txt.b_is_story_event {K : PySem.W.Frag} {mg : Str → Option Value} (T : Txt K mg) : L2.Binds K T.d_is_story_event ["thing"] [] := T.F_is_story_event.binds (ps := ["thing"]) (fun _ _ _ _ _ _ us hl => match us, hl with | [_], _ => rfl)
theorem Txt.m_is_story_event {K : PySem.W.Frag} {mg : Str → Option Value} (T : Txt K mg) : mg "is_story_event" = some (.ref T.f_is_story_event) := Said.glo T 46 rfl
abbrev Txt.f_is_in_order {K : PySem.W.Frag} {mg : Str → Option Value} (T : Txt K mg) : Addr := He.ga K "is_in_order"
noncomputable def Txt.d_is_in_order {K : PySem.W.Frag} {mg : Str → Option Value} (T : Txt K mg) : FuncData := (Said.d T 47 (d := dOf "is_in_order" s_is_in_order []) rfl).choose
theorem Txt.F_is_in_order {K : PySem.W.Frag} {mg : Str → Option Value} (T : Txt K mg) : L2.Fun K "is_in_order" "is_in_order" s_is_in_order T.f_is_in_order T.d_is_in_order := fun_of (st := s_is_in_order) (Said.d T 47 (d := dOf "is_in_order" s_is_in_order []) rfl).choose_spec
theorem Txt.b_is_in_order {K : PySem.W.Frag} {mg : Str → Option Value} (T : Txt K mg) : L2.Binds K T.d_is_in_order ["events"] [] := T.F_is_in_order.binds (ps := ["events"]) (fun _ _ _ _ _ _ us hl => match us, hl with | [_], _ => rfl)
theorem Txt.m_is_in_order {K : PySem.W.Frag} {mg : Str → Option Value} (T : Txt K mg) : mg "is_in_order" = some (.ref T.f_is_in_order) := Said.glo T 47 rfl
abbrev Txt.f_can_follow {K : PySem.W.Frag} {mg : Str → Option Value} (T : Txt K mg) : Addr := He.ga K "can_follow"
noncomputable def Txt.d_can_follow {K : PySem.W.Frag} {mg : Str → Option Value} (T : Txt K mg) : FuncData := (Said.d T 48 (d := dOf "can_follow" s_can_follow []) rfl).choose
theorem Txt.F_can_follow {K : PySem.W.Frag} {mg : Str → Option Value} (T : Txt K mg) : L2.Fun K "can_follow" "can_follow" s_can_follow T.f_can_follow T.d_can_follow := fun_of (st := s_can_follow) (Said.d T 48 (d := dOf "can_follow" s_can_follow []) rfl).choose_spec
theorem Txt.b_can_follow {K : PySem.W.Frag} {mg : Str → Option Value} (T : Txt K mg) : L2.Binds K T.d_can_follow ["last", "event"] [] := T.F_can_follow.binds (ps := ["last", "event"]) (fun _ _ _ _ _ _ us hl => match us, hl with | [_, _], _ => rfl)
theorem Txt.m_can_follow {K : PySem.W.Frag} {mg : Str → Option Value} (T : Txt K mg) : mg "can_follow" = some (.ref T.f_can_follow) := Said.glo T 48 rfl
abbrev Txt.f_text_with {K : PySem.W.Frag} {mg : Str → Option Value} (T : Txt K mg) : Addr := He.ga K "text_with"
noncomputable def Txt.d_text_with {K : PySem.W.Frag} {mg : Str → Option Value} (T : Txt K mg) : FuncData := (Said.d T 49 (d := dOf "text_with" s_text_with []) rfl).choose
theorem Txt.F_text_with {K : PySem.W.Frag} {mg : Str → Option Value} (T : Txt K mg) : L2.Fun K "text_with" "text_with" s_text_with T.f_text_with T.d_text_with := fun_of (st := s_text_with) (Said.d T 49 (d := dOf "text_with" s_text_with []) rfl).choose_spec
theorem Txt.b_text_with {K : PySem.W.Frag} {mg : Str → Option Value} (T : Txt K mg) : L2.Binds K T.d_text_with ["rows"] [] := T.F_text_with.binds (ps := ["rows"]) (fun _ _ _ _ _ _ us hl => match us, hl with | [_], _ => rfl)
theorem Txt.m_text_with {K : PySem.W.Frag} {mg : Str → Option Value} (T : Txt K mg) : mg "text_with" = some (.ref T.f_text_with) := Said.glo T 49 rfl
abbrev Txt.f_words_in {K : PySem.W.Frag} {mg : Str → Option Value} (T : Txt K mg) : Addr := He.ga K "words_in"
noncomputable def Txt.d_words_in {K : PySem.W.Frag} {mg : Str → Option Value} (T : Txt K mg) : FuncData := (Said.d T 50 (d := dOf "words_in" s_words_in []) rfl).choose
theorem Txt.F_words_in {K : PySem.W.Frag} {mg : Str → Option Value} (T : Txt K mg) : L2.Fun K "words_in" "words_in" s_words_in T.f_words_in T.d_words_in := fun_of (st := s_words_in) (Said.d T 50 (d := dOf "words_in" s_words_in []) rfl).choose_spec
theorem Txt.b_words_in {K : PySem.W.Frag} {mg : Str → Option Value} (T : Txt K mg) : L2.Binds K T.d_words_in ["value"] [] := T.F_words_in.binds (ps := ["value"]) (fun _ _ _ _ _ _ us hl => match us, hl with | [_], _ => rfl)
theorem Txt.m_words_in {K : PySem.W.Frag} {mg : Str → Option Value} (T : Txt K mg) : mg "words_in" = some (.ref T.f_words_in) := Said.glo T 50 rfl
abbrev Txt.f__law_same {K : PySem.W.Frag} {mg : Str → Option Value} (T : Txt K mg) : Addr := He.ga K "_law_same"
noncomputable def Txt.d__law_same {K : PySem.W.Frag} {mg : Str → Option Value} (T : Txt K mg) : FuncData := (Said.d T 51 (d := dOf "_law_same" s__law_same []) rfl).choose
theorem Txt.F__law_same {K : PySem.W.Frag} {mg : Str → Option Value} (T : Txt K mg) : L2.Fun K "_law_same" "_law_same" s__law_same T.f__law_same T.d__law_same := fun_of (st := s__law_same) (Said.d T 51 (d := dOf "_law_same" s__law_same []) rfl).choose_spec
theorem Txt.b__law_same {K : PySem.W.Frag} {mg : Str → Option Value} (T : Txt K mg) : L2.Binds K T.d__law_same ["got", "due"] [] := T.F__law_same.binds (ps := ["got", "due"]) (fun _ _ _ _ _ _ us hl => match us, hl with | [_, _], _ => rfl)
theorem Txt.m__law_same {K : PySem.W.Frag} {mg : Str → Option Value} (T : Txt K mg) : mg "_law_same" = some (.ref T.f__law_same) := Said.glo T 51 rfl
abbrev Txt.f__law_heard {K : PySem.W.Frag} {mg : Str → Option Value} (T : Txt K mg) : Addr := He.ga K "_law_heard"
noncomputable def Txt.d__law_heard {K : PySem.W.Frag} {mg : Str → Option Value} (T : Txt K mg) : FuncData := (Said.d T 52 (d := dOf "_law_heard" s__law_heard []) rfl).choose
theorem Txt.F__law_heard {K : PySem.W.Frag} {mg : Str → Option Value} (T : Txt K mg) : L2.Fun K "_law_heard" "_law_heard" s__law_heard T.f__law_heard T.d__law_heard := fun_of (st := s__law_heard) (Said.d T 52 (d := dOf "_law_heard" s__law_heard []) rfl).choose_spec
theorem Txt.b__law_heard {K : PySem.W.Frag} {mg : Str → Option Value} (T : Txt K mg) : L2.Binds K T.d__law_heard ["door_so", "one_so", "two_so"] [] := T.F__law_heard.binds (ps := ["door_so", "one_so", "two_so"]) (fun _ _ _ _ _ _ us hl => match us, hl with | [_, _, _], _ => rfl)
theorem Txt.m__law_heard {K : PySem.W.Frag} {mg : Str → Option Value} (T : Txt K mg) : mg "_law_heard" = some (.ref T.f__law_heard) := Said.glo T 52 rfl
abbrev Txt.f__law_things_right {K : PySem.W.Frag} {mg : Str → Option Value} (T : Txt K mg) : Addr := He.ga K "_law_things_right"
noncomputable def Txt.d__law_things_right {K : PySem.W.Frag} {mg : Str → Option Value} (T : Txt K mg) : FuncData := (Said.d T 53 (d := dOf "_law_things_right" s__law_things_right []) rfl).choose
theorem Txt.F__law_things_right {K : PySem.W.Frag} {mg : Str → Option Value} (T : Txt K mg) : L2.Fun K "_law_things_right" "_law_things_right" s__law_things_right T.f__law_things_right T.d__law_things_right := fun_of (st := s__law_things_right) (Said.d T 53 (d := dOf "_law_things_right" s__law_things_right []) rfl).choose_spec
theorem Txt.b__law_things_right {K : PySem.W.Frag} {mg : Str → Option Value} (T : Txt K mg) : L2.Binds K T.d__law_things_right [] [] := T.F__law_things_right.binds (ps := []) (fun _ _ _ _ _ _ us hl => match us, hl with | [], _ => rfl)
theorem Txt.m__law_things_right {K : PySem.W.Frag} {mg : Str → Option Value} (T : Txt K mg) : mg "_law_things_right" = some (.ref T.f__law_things_right) := Said.glo T 53 rfl
abbrev Txt.f__law_long_right {K : PySem.W.Frag} {mg : Str → Option Value} (T : Txt K mg) : Addr := He.ga K "_law_long_right"
noncomputable def Txt.d__law_long_right {K : PySem.W.Frag} {mg : Str → Option Value} (T : Txt K mg) : FuncData := (Said.d T 54 (d := dOf "_law_long_right" s__law_long_right []) rfl).choose
theorem Txt.F__law_long_right {K : PySem.W.Frag} {mg : Str → Option Value} (T : Txt K mg) : L2.Fun K "_law_long_right" "_law_long_right" s__law_long_right T.f__law_long_right T.d__law_long_right := fun_of (st := s__law_long_right) (Said.d T 54 (d := dOf "_law_long_right" s__law_long_right []) rfl).choose_spec
theorem Txt.b__law_long_right {K : PySem.W.Frag} {mg : Str → Option Value} (T : Txt K mg) : L2.Binds K T.d__law_long_right [] [] := T.F__law_long_right.binds (ps := []) (fun _ _ _ _ _ _ us hl => match us, hl with | [], _ => rfl)
theorem Txt.m__law_long_right {K : PySem.W.Frag} {mg : Str → Option Value} (T : Txt K mg) : mg "_law_long_right" = some (.ref T.f__law_long_right) := Said.glo T 54 rfl
abbrev Txt.f__law_refused_right {K : PySem.W.Frag} {mg : Str → Option Value} (T : Txt K mg) : Addr := He.ga K "_law_refused_right"
noncomputable def Txt.d__law_refused_right {K : PySem.W.Frag} {mg : Str → Option Value} (T : Txt K mg) : FuncData := (Said.d T 55 (d := dOf "_law_refused_right" s__law_refused_right []) rfl).choose
theorem Txt.F__law_refused_right {K : PySem.W.Frag} {mg : Str → Option Value} (T : Txt K mg) : L2.Fun K "_law_refused_right" "_law_refused_right" s__law_refused_right T.f__law_refused_right T.d__law_refused_right := fun_of (st := s__law_refused_right) (Said.d T 55 (d := dOf "_law_refused_right" s__law_refused_right []) rfl).choose_spec
theorem Txt.b__law_refused_right {K : PySem.W.Frag} {mg : Str → Option Value} (T : Txt K mg) : L2.Binds K T.d__law_refused_right [] [] := T.F__law_refused_right.binds (ps := []) (fun _ _ _ _ _ _ us hl => match us, hl with | [], _ => rfl)
theorem Txt.m__law_refused_right {K : PySem.W.Frag} {mg : Str → Option Value} (T : Txt K mg) : mg "_law_refused_right" = some (.ref T.f__law_refused_right) := Said.glo T 55 rfl
abbrev Txt.f_law {K : PySem.W.Frag} {mg : Str → Option Value} (T : Txt K mg) : Addr := He.ga K "law"
noncomputable def Txt.d_law {K : PySem.W.Frag} {mg : Str → Option Value} (T : Txt K mg) : FuncData := (Said.d T 56 (d := dOf "law" s_law []) rfl).choose
theorem Txt.F_law {K : PySem.W.Frag} {mg : Str → Option Value} (T : Txt K mg) : L2.Fun K "law" "law" s_law T.f_law T.d_law := fun_of (st := s_law) (Said.d T 56 (d := dOf "law" s_law []) rfl).choose_spec
theorem Txt.b_law {K : PySem.W.Frag} {mg : Str → Option Value} (T : Txt K mg) : L2.Binds K T.d_law ["script"] [] := T.F_law.binds (ps := ["script"]) (fun _ _ _ _ _ _ us hl => match us, hl with | [_], _ => rfl)
theorem Txt.m_law {K : PySem.W.Frag} {mg : Str → Option Value} (T : Txt K mg) : mg "law" = some (.ref T.f_law) := Said.glo T 56 rfl
theorem Txt.m_SIGNS {K : PySem.W.Frag} {mg : Str → Option Value} (T : Txt K mg) : ∃ u, mg "SIGNS" = some u ∧ RelV (.str "abcdefghijklmnopqrstuvwxyz0123456789") u := Said.str T 57 rfl
theorem Txt.m_MOST_SIGNS {K : PySem.W.Frag} {mg : Str → Option Value} (T : Txt K mg) : ∃ u, mg "MOST_SIGNS" = some u ∧ RelV (.int 12) u := Said.int T 58 rfl
abbrev Txt.f_BLANK {K : PySem.W.Frag} {mg : Str → Option Value} (T : Txt K mg) : Addr := (fun K => He.ga K "BLANK") K
theorem Txt.t_BLANK {K : PySem.W.Frag} {mg : Str → Option Value} (T : Txt K mg) : ∀ H, SqT K H T.f_BLANK [.str "blank"] := tupC_ok (Said.x T 0 rfl)
theorem Txt.m_BLANK {K : PySem.W.Frag} {mg : Str → Option Value} (T : Txt K mg) : mg "BLANK" = some (.ref T.f_BLANK) := Said.glo T 59 rfl
abbrev Txt.f_TORN {K : PySem.W.Frag} {mg : Str → Option Value} (T : Txt K mg) : Addr := (fun K => He.ga K "TORN") K
theorem Txt.t_TORN {K : PySem.W.Frag} {mg : Str → Option Value} (T : Txt K mg) : ∀ H, SqT K H T.f_TORN [.str "torn"] := tupC_ok (Said.x T 1 rfl)
theorem Txt.m_TORN {K : PySem.W.Frag} {mg : Str → Option Value} (T : Txt K mg) : mg "TORN" = some (.ref T.f_TORN) := Said.glo T 60 rfl
abbrev Txt.f_FATES {K : PySem.W.Frag} {mg : Str → Option Value} (T : Txt K mg) : Addr := (fun K => He.ga K "FATES") K
theorem Txt.t_FATES {K : PySem.W.Frag} {mg : Str → Option Value} (T : Txt K mg) : ∀ H, SqT K H T.f_FATES [.str "new", .str "old", .str "torn"] := tupC_ok (Said.x T 2 rfl)
theorem Txt.m_FATES {K : PySem.W.Frag} {mg : Str → Option Value} (T : Txt K mg) : mg "FATES" = some (.ref T.f_FATES) := Said.glo T 61 rfl
theorem Txt.z_ValueError {K : PySem.W.Frag} {mg : Str → Option Value} (T : Txt K mg) : mg "ValueError" = none := Said.free T 62 rfl
theorem Txt.z_all {K : PySem.W.Frag} {mg : Str → Option Value} (T : Txt K mg) : mg "all" = none := Said.free T 63 rfl
theorem Txt.z_bool {K : PySem.W.Frag} {mg : Str → Option Value} (T : Txt K mg) : mg "bool" = none := Said.free T 64 rfl
theorem Txt.z_dict {K : PySem.W.Frag} {mg : Str → Option Value} (T : Txt K mg) : mg "dict" = none := Said.free T 65 rfl
theorem Txt.z_enumerate {K : PySem.W.Frag} {mg : Str → Option Value} (T : Txt K mg) : mg "enumerate" = none := Said.free T 66 rfl
theorem Txt.z_int {K : PySem.W.Frag} {mg : Str → Option Value} (T : Txt K mg) : mg "int" = none := Said.free T 67 rfl
theorem Txt.z_isinstance {K : PySem.W.Frag} {mg : Str → Option Value} (T : Txt K mg) : mg "isinstance" = none := Said.free T 68 rfl
theorem Txt.z_len {K : PySem.W.Frag} {mg : Str → Option Value} (T : Txt K mg) : mg "len" = none := Said.free T 69 rfl
theorem Txt.z_list {K : PySem.W.Frag} {mg : Str → Option Value} (T : Txt K mg) : mg "list" = none := Said.free T 70 rfl
theorem Txt.z_min {K : PySem.W.Frag} {mg : Str → Option Value} (T : Txt K mg) : mg "min" = none := Said.free T 71 rfl
theorem Txt.z_range {K : PySem.W.Frag} {mg : Str → Option Value} (T : Txt K mg) : mg "range" = none := Said.free T 72 rfl
theorem Txt.z_set {K : PySem.W.Frag} {mg : Str → Option Value} (T : Txt K mg) : mg "set" = none := Said.free T 73 rfl
theorem Txt.z_sorted {K : PySem.W.Frag} {mg : Str → Option Value} (T : Txt K mg) : mg "sorted" = none := Said.free T 74 rfl
theorem Txt.z_str {K : PySem.W.Frag} {mg : Str → Option Value} (T : Txt K mg) : mg "str" = none := Said.free T 75 rfl
theorem Txt.z_tuple {K : PySem.W.Frag} {mg : Str → Option Value} (T : Txt K mg) : mg "tuple" = none := Said.free T 76 rfl
theorem Txt.z_zip {K : PySem.W.Frag} {mg : Str → Option Value} (T : Txt K mg) : mg "zip" = none := Said.free T 77 rfl
theorem Txt.obC {K : PySem.W.Frag} {mg : Str → Option Value} (T : Txt K mg) : ObjC K := Fx.obj_ok (Said.x T 3 rfl)
abbrev Txt.c_Unfit {K : PySem.W.Frag} {mg : Str → Option Value} (T : Txt K mg) : Addr := He.ga K "Unfit"
abbrev Txt.fi_Unfit {K : PySem.W.Frag} {mg : Str → Option Value} (T : Txt K mg) : Addr := He.ma K (He.ga K "Unfit") "__init__"
theorem Txt.E_Unfit {K : PySem.W.Frag} {mg : Str → Option Value} (T : Txt K mg) : ErrC K T.c_Unfit "ValueError.__new__" bmVE := (Fx.err_ok (Said.x T 4 rfl)).1
theorem Txt.iC_Unfit {K : PySem.W.Frag} {mg : Str → Option Value} (T : Txt K mg) : PySem.W.findIn K (.ref T.c_Unfit) "__init__" = some (some (.ref T.fi_Unfit)) := (Fx.err_ok (newId := "ValueError.__new__") (bm := bmVE) (Said.x T 4 rfl)).2.1
theorem Txt.tI_Unfit {K : PySem.W.Frag} {mg : Str → Option Value} (T : Txt K mg) : PySem.W.typeIn K (.ref T.fi_Unfit) = some (.type "function") := (Fx.err_ok (newId := "ValueError.__new__") (bm := bmVE) (Said.x T 4 rfl)).2.2
theorem Txt.mC_Unfit {K : PySem.W.Frag} {mg : Str → Option Value} (T : Txt K mg) : mg "Unfit" = some (.ref T.c_Unfit) := Said.glo T 78 rfl
noncomputable def Txt.di_Unfit {K : PySem.W.Frag} {mg : Str → Option Value} (T : Txt K mg) : FuncData := (Said.d T 57 (d := mOf "Unfit" "__init__" "Unfit.__init__" s_init_Unfit) rfl).choose
theorem Txt.Fi_Unfit {K : PySem.W.Frag} {mg : Str → Option Value} (T : Txt K mg) : L2.Fun K "__init__" "Unfit.__init__" s_init_Unfit T.fi_Unfit T.di_Unfit := fun_of (st := s_init_Unfit) (Said.d T 57 (d := mOf "Unfit" "__init__" "Unfit.__init__" s_init_Unfit) rfl).choose_spec
theorem Txt.bi_Unfit {K : PySem.W.Frag} {mg : Str → Option Value} (T : Txt K mg) : L2.Binds K T.di_Unfit ["self"] [] := T.Fi_Unfit.binds (ps := ["self"]) (fun _ _ _ _ _ _ us hl => match us, hl with | [_], _ => rfl)
theorem Txt.sb_Unfit_Unfit {K : PySem.W.Frag} {mg : Str → Option Value} (T : Txt K mg) : PySem.W.subIn K (.ref T.c_Unfit) (.ref T.c_Unfit) = some true := of_decide_eq_true (Said.x T 5 rfl)
theorem Txt.st_Unfit_ValueError {K : PySem.W.Frag} {mg : Str → Option Value} (T : Txt K mg) : PySem.W.subIn K (.ref T.c_Unfit) (.type "ValueError") = some true := of_decide_eq_true (Said.x T 6 rfl)
def gs {K : PySem.W.Frag} {mg : Str → Option Value} (T : Txt K mg) : Gs := ⟨fun i => [T.f_is_number, T.f_is_natural, T.f_is_below, T.f_is_row, T.f_is_row_of, T.f_is_rising, T.f_as_tuples, T.f_checked, T.f_is_word, T.f_is_key, T.f_is_single, T.f_is_deed, T.f_is_record, T.f_is_table, T.f_is_table_pair, T.f_is_deeds, T.f_is_records, T.f_parts_of, T.f_row_of, T.f_keys_of, T.f_singles_in, T.f_parts_in, T.f_closed_in, T.f_closed_lots, T.f_first_closed, T.f_is_part_ahead, T.f_left_begun, T.f_begun_in, T.f_with_single, T.f_with_deeds, T.f_table_with, T.f_is_fates_row, T.f_is_shape, T.f_is_device, T.f_is_written_cell, T.f_is_content_in, T.f_is_cell_in, T.f_is_picture_in, T.f_is_write_in, T.f_is_event, T.f_word_of, T.f_device_text, T.f_life_text, T.f_story_text, T.f_is_life_row, T.f_is_story_row, T.f_is_story_event, T.f_is_in_order, T.f_can_follow, T.f_text_with, T.f_words_in, T.f__law_same, T.f__law_heard, T.f__law_things_right, T.f__law_long_right, T.f__law_refused_right, T.f_law].getD i 0, fun i => [T.c_Unfit].getD i 0⟩
section
variable {P : Program} {w : World} {K : PySem.W.Frag} {mg : Str → Option Value} {base : Heap}
theorem rdt_BLANK (T : Txt K mg) {m : List Addr} {b : Hp} : RD K (gs T) m b (.ref T.f_BLANK) (.tup [(.str "blank")]) := (.tup (T.t_BLANK b) (fun z => by cases z) (.cons (.str _) .nil))
theorem rdt_TORN (T : Txt K mg) {m : List Addr} {b : Hp} : RD K (gs T) m b (.ref T.f_TORN) (.tup [(.str "torn")]) := (.tup (T.t_TORN b) (fun z => by cases z) (.cons (.str _) .nil))
theorem rdt_FATES (T : Txt K mg) {m : List Addr} {b : Hp} : RD K (gs T) m b (.ref T.f_FATES) (.tup [(.str "new"), (.str "old"), (.str "torn")]) := (.tup (T.t_FATES b) (fun z => by cases z) (.cons (.str _) (.cons (.str _) (.cons (.str _) .nil))))
theorem bd1_as_tuples (T : Txt K mg) : ∃ ds, Vals [V.int 20] ds ∧ Binds K T.d_as_tuples ["thing", "depth"] ds :=
  FunD.binds1 (ps := ["thing", "depth"]) T.F_as_tuples 1 0 (by simp) rfl fun Tt kV doc pm an cdv ct us its h1 h2 => by
    match us, its, h1, h2 with
    | [u0], [d], _, _ => exact ⟨_, rfl, rfl⟩
theorem bd2_as_tuples (T : Txt K mg) : Binds K T.d_as_tuples ["thing", "depth"] [] := by
  obtain ⟨ds, v, b⟩ := FunD.binds1 (ps := ["thing", "depth"]) T.F_as_tuples 2 1 (by simp) rfl fun Tt kV doc pm an cdv ct us its h1 h2 => by
    match us, its, h1, h2 with
    | [u0, z], [d], _, _ => exact ⟨_, rfl, rfl⟩
  cases v
  exact b
theorem kb_life_text_0_life (T : Txt K mg) : KBd K T.d_life_text ["life"] 0 ["life"] [0] := by
  obtain ⟨oc, od, kV, doc, pm, an, cdv, ct, osl, e, _⟩ := T.F_life_text.ex
  rw [e]
  exact ⟨fun s us ws _ h1 h2 => by match us, ws, h1, h2 with | [], [w0], _, _ => exact .of_eq rfl⟩
theorem kb_story_text_0_story (T : Txt K mg) : KBd K T.d_story_text ["story"] 0 ["story"] [0] := by
  obtain ⟨oc, od, kV, doc, pm, an, cdv, ct, osl, e, _⟩ := T.F_story_text.ex
  rw [e]
  exact ⟨fun s us ws _ h1 h2 => by match us, ws, h1, h2 with | [], [w0], _, _ => exact .of_eq rfl⟩
theorem kb_with_deeds_0_deeds_table (T : Txt K mg) : KBd K T.d_with_deeds ["table", "deeds"] 0 ["deeds", "table"] [1, 0] := by
  obtain ⟨oc, od, kV, doc, pm, an, cdv, ct, osl, e, _⟩ := T.F_with_deeds.ex
  rw [e]
  exact ⟨fun s us ws _ h1 h2 => by match us, ws, h1, h2 with | [], [w0, w1], _, _ => exact .of_eq rfl⟩
theorem kb_left_begun_0_records (T : Txt K mg) : KBd K T.d_left_begun ["records"] 0 ["records"] [0] := by
  obtain ⟨oc, od, kV, doc, pm, an, cdv, ct, osl, e, _⟩ := T.F_left_begun.ex
  rw [e]
  exact ⟨fun s us ws _ h1 h2 => by match us, ws, h1, h2 with | [], [w0], _, _ => exact .of_eq rfl⟩
theorem kb_closed_in_0_records (T : Txt K mg) : KBd K T.d_closed_in ["records"] 0 ["records"] [0] := by
  obtain ⟨oc, od, kV, doc, pm, an, cdv, ct, osl, e, _⟩ := T.F_closed_in.ex
  rw [e]
  exact ⟨fun s us ws _ h1 h2 => by match us, ws, h1, h2 with | [], [w0], _, _ => exact .of_eq rfl⟩
theorem kb_row_of_0_deeds (T : Txt K mg) : KBd K T.d_row_of ["deeds"] 0 ["deeds"] [0] := by
  obtain ⟨oc, od, kV, doc, pm, an, cdv, ct, osl, e, _⟩ := T.F_row_of.ex
  rw [e]
  exact ⟨fun s us ws _ h1 h2 => by match us, ws, h1, h2 with | [], [w0], _, _ => exact .of_eq rfl⟩
theorem exm_Unfit (T : Txt K mg) : ∀ c b, mt_Unfit c = some b → PySem.W.exmOne K (.ref ((gs T).ca c)) (.ref T.c_Unfit) = some b
  | 0, _, e => by cases e; exact T.E_Unfit.exm T.sb_Unfit_Unfit
  | _ + 1, _, e => by cases e
theorem okT_ValueError (T : Txt K mg) : ∀ c b, isT_ValueError c = some b → ExcC K ((gs T).ca c) ∧ PySem.W.kitOne K (.ref ((gs T).ca c)) (.type "ValueError") = some b
  | 0, _, e => by cases e; exact ⟨T.E_Unfit.excC T.obC, kit_of T.st_Unfit_ValueError (by decide +kernel)⟩
  | _ + 1, _, e => by cases e
theorem oki_Unfit (T : Txt K mg) : FnOk P w K mg base (L2.CX P w) 1 T.fi_Unfit T.di_Unfit ["self"] (spI K "ValueError.__new__" bmVE none) :=
  ini0 (m := "not such a value") T.Fi_Unfit sci_Unfit (fun cdv A outer s H E => pss_one (ps_expr (NwS.pe_tyat (call_ini baseVE) at_VE (by rfl) T.z_ValueError bt_VE (pa_cons (pe_var (i := 0) rfl (by first | exact Or.inl rfl | exact Or.inr (Or.inl rfl) | exact Or.inr (Or.inr rfl))) (pa_cons pe_str pa_nil)))))
end
end LW

namespace LW
open PySem L2 DV EV
section
variable {P : Program} {w : World} {K : PySem.W.Frag} {mg : Str → Option Value} {base : Heap}
theorem ok_is_number (T : Txt K mg) : FnOk P w K mg base (L2.CX P w) (0 + 1) T.f_is_number T.d_is_number ["thing"] (spEv K (gs T) (F_is_number) 1) := by
  exact fn_ev (N := ["thing"]) (ev := E_is_number) T.F_is_number sc_is_number (fun cdv A outer s H E hr tk hpo => (xs_one (xs_ret (xandT rfl (xbi (isi_ok' rfl) ok_isi (by rfl) T.z_isinstance (by decide +kernel) (xa_cons (xv 0) (xa_cons (xty .int (by rfl) T.z_int (by decide +kernel) rfl) xa_nil))) (xone (xnot (xbi (isi_ok' rfl) ok_isi (by rfl) T.z_isinstance (by decide +kernel) (xa_cons (xv 0) (xa_cons (xty .bool (by rfl) T.z_bool (by decide +kernel) rfl) xa_nil)))))))))
theorem ok_is_natural (T : Txt K mg) : FnOk P w K mg base (L2.CX P w) (1 + 1) T.f_is_natural T.d_is_natural ["thing"] (spEv K (gs T) (F_is_natural) 1) := by
  exact fn_ev (N := ["thing"]) (ev := E_is_natural) T.F_is_natural sc_is_natural (fun cdv A outer s H E hr tk hpo => (xs_one (xs_ret (xandT rfl (xcall (ok_is_number T) (hr.mono (by omega)) (by rfl) T.m_is_number T.F_is_number.kp T.b_is_number .nil (fun _ _ => .nil) tk (xa_cons (xv 0) xa_nil) rfl) (xone (xcmp c_ge (xv 0) xint (nomark _)))))))
theorem ok_is_below (T : Txt K mg) : FnOk P w K mg base (L2.CX P w) (2 + 1) T.f_is_below T.d_is_below ["thing", "bound"] (spEv K (gs T) (F_is_below) 2) := by
  exact fn_ev (N := ["thing", "bound"]) (ev := E_is_below) T.F_is_below sc_is_below (fun cdv A outer s H E hr tk hpo => (xs_one (xs_ret (xandT rfl (xcall (ok_is_natural T) (hr.mono (by omega)) (by rfl) T.m_is_natural T.F_is_natural.kp T.b_is_natural .nil (fun _ _ => .nil) tk (xa_cons (xv 0) xa_nil) rfl) (xone (xcmp c_lt (xv 0) (xv 1) (nomark _)))))))
theorem ok_is_row (T : Txt K mg) : FnOk P w K mg base (L2.CX P w) (0 + 1) T.f_is_row T.d_is_row ["thing", "many"] (spEv K (gs T) (F_is_row) 2) := by
  exact fn_ev (N := ["thing", "many"]) (ev := E_is_row) T.F_is_row sc_is_row (fun cdv A outer s H E hr tk hpo => (xs_one (xs_ret (xandT rfl (xbi (isi_ok' rfl) ok_isi (by rfl) T.z_isinstance (by decide +kernel) (xa_cons (xv 0) (xa_cons (xty .tuple (by rfl) T.z_tuple (by decide +kernel) rfl) xa_nil))) (xone (xcmp (c_eq rfl hr.units) (xbi (len_ok rfl) ok_len (by rfl) T.z_len (by decide +kernel) (xa_cons (xv 0) xa_nil)) (xv 1) (nomark _)))))))
theorem ok_is_row_of (T : Txt K mg) {k_is_such : Nat} {f_is_such : Addr} {fd_is_such : FuncData} {ps_is_such : List Str} {F_is_such : List D → List O → RE} {j_is_such : Nat} (HF_is_such : FnOk P w K mg base (L2.CX P w) k_is_such f_is_such fd_is_such ps_is_such (spEv K (gs T) F_is_such 1)) (HA_is_such : (gs T).fa j_is_such = f_is_such) (KP_is_such : PySem.W.keepIn K (.ref f_is_such) = true) (BD_is_such : Binds K fd_is_such ps_is_such []) : FnOk P w K mg base (L2.CX P w) (0 + k_is_such + 1) T.f_is_row_of T.d_is_row_of ["is_such", "thing"] (spEv K (gs T) (F_is_row_of j_is_such F_is_such) 2) := by
  exact fn_ev (N := ["is_such", "thing", "part"]) (ev := E_is_row_of j_is_such F_is_such) T.F_is_row_of sc_is_row_of (fun cdv A outer s H E hr tk hpo => (xs_one (xs_ret (xandT rfl (xbi (isi_ok' rfl) ok_isi (by rfl) T.z_isinstance (by decide +kernel) (xa_cons (xv 1) (xa_cons (xty .tuple (by rfl) T.z_tuple (by decide +kernel) rfl) xa_nil))) (xone (xbi (all_ok' rfl rfl) ok_all (by rfl) T.z_all (by decide +kernel) (xa_cons (xcomp (own := [("part", 2)]) rfl sc_is_row_of.nd (xi_seq rfl (xv 1)) (blkOk_by (N := ["is_such", "thing", "part"]) (sc := defScope s_is_row_of) (by decide +kernel)) (by decide) ⟨_, fun _ _ _ _ _ => (pg_name (i := 2) sc_is_row_of.nd rfl (by first | exact Or.inl rfl | exact Or.inr rfl)), (snG_name 2)⟩ (fun _ _ _ _ _ => ts_nil) (fun _ _ _ _ _ => (xcallV (i := 0) (j := j_is_such) HF_is_such HA_is_such (hr.mono (by omega)) rfl (by first | exact Or.inl rfl | exact Or.inr (Or.inl rfl) | exact Or.inr (Or.inr rfl)) KP_is_such BD_is_such (xa_cons (xv 2) xa_nil)))) xa_nil)))))))
theorem ok_is_rising (T : Txt K mg) : FnOk P w K mg base (L2.CX P w) (0 + 1) T.f_is_rising T.d_is_rising ["row"] (spEv K (gs T) (F_is_rising) 1) := by
  exact fn_ev (N := ["row", "at"]) (ev := E_is_rising) T.F_is_rising sc_is_rising (fun cdv A outer s H E hr tk hpo => (xs_one (xs_ret (xbi (all_ok' rfl rfl) ok_all (by rfl) T.z_all (by decide +kernel) (xa_cons (xcomp (own := [("at", 1)]) rfl sc_is_rising.nd (xi_range2 (by rfl) T.z_range (xa_cons xint (xa_cons (xbi (len_ok rfl) ok_len (by rfl) T.z_len (by decide +kernel) (xa_cons (xv 0) xa_nil)) xa_nil))) (blkOk_by (N := ["row", "at"]) (sc := defScope s_is_rising) (by decide +kernel)) (by decide) ⟨_, fun _ _ _ _ _ => (pg_name (i := 1) sc_is_rising.nd rfl (by first | exact Or.inl rfl | exact Or.inr rfl)), (snG_name 1)⟩ (fun _ _ _ _ _ => ts_nil) (fun _ _ _ _ _ => (xcmp (c_ltX rfl hr.units) (xix rfl (xv 0) (xsub (xv 1) xint) (fun _ _ => rfl)) (xix rfl (xv 0) (xv 1) (fun _ _ => rfl)) (nomark _)))) xa_nil)))))
theorem ok_as_tuples (T : Txt K mg) : ∀ n : Nat, FnOk P w K mg base (L2.CX P w) (0 + n + 1) T.f_as_tuples T.d_as_tuples ["thing", "depth"] (spEv K (gs T) (F_as_tuples n) 2)
  | 0 => fnOk_bad
  | n + 1 => by
    have ih := ok_as_tuples T n
    exact fnD_ev (N := ["thing", "depth", "part"]) (ev := E_as_tuples (F_as_tuples n)) T.F_as_tuples sc_as_tuples (fun cdv A outer s H E hr tk hpo => (xs_cons (xs_if (PXT.pw (wor (tcmp (c_eq rfl hr.units) (xv 1) xint (nomark _)) (wor1 (tnot (tvalT rfl (xisi2 (t := .list) (u := .tuple) rfl (by rfl) T.z_isinstance (by decide +kernel) (xv 0) (by rfl) T.z_list (by decide +kernel) rfl (by rfl) T.z_tuple (by decide +kernel) rfl)))))) (xs_one (xs_ret (xv 0))) xs_next)
    (xs_one (xs_ret (xbt (tuple2_ok rfl rfl) ok_tuple2 (by rfl) T.z_tuple (by decide +kernel) (xa_cons (xcomp (own := [("part", 2)]) rfl sc_as_tuples.nd (xi_seq rfl (xv 0)) (blkOk_by (N := ["thing", "depth", "part"]) (sc := defScope s_as_tuples) (by decide +kernel)) (by decide) ⟨_, fun _ _ _ _ _ => (pg_name (i := 2) sc_as_tuples.nd rfl (by first | exact Or.inl rfl | exact Or.inr rfl)), (snG_name 2)⟩ (fun _ _ _ _ _ => ts_nil) (fun _ _ _ _ _ => (xcall ih (hr.mono (by omega)) (by rfl) T.m_as_tuples T.F_as_tuples.kp (bd2_as_tuples T) .nil (fun _ _ => .nil) takes0 (xa_cons (xv 2) (xa_cons (xsub (xv 1) xint) xa_nil)) rfl))) xa_nil))))))
theorem ok_checked (T : Txt K mg) {k_is_such : Nat} {f_is_such : Addr} {fd_is_such : FuncData} {ps_is_such : List Str} {F_is_such : List D → List O → RE} {j_is_such : Nat} (HF_is_such : FnOk P w K mg base (L2.CX P w) k_is_such f_is_such fd_is_such ps_is_such (spEv K (gs T) F_is_such 1)) (HA_is_such : (gs T).fa j_is_such = f_is_such) (KP_is_such : PySem.W.keepIn K (.ref f_is_such) = true) (BD_is_such : Binds K fd_is_such ps_is_such []) : FnOk P w K mg base (L2.CX P w) (9 + k_is_such + 1) T.f_checked T.d_checked ["is_such", "thing"] (spEv K (gs T) (F_checked j_is_such F_is_such) 2) := by
  obtain ⟨_, VD_as_tuples, BD_as_tuples⟩ := bd1_as_tuples T
  exact fn_ev (N := ["is_such", "thing", "own"]) (ev := E_checked j_is_such F_is_such) T.F_checked sc_checked (fun cdv A outer s H E hr tk hpo => (xs_cons (xs_set (i := 2) sc_checked.nd rfl (by first | exact Or.inl rfl | exact Or.inr rfl) (xcall (ok_as_tuples T 8) (hr.mono (by omega)) (by rfl) T.m_as_tuples T.F_as_tuples.kp BD_as_tuples VD_as_tuples (fun _ _ => (.cons (.int _) .nil)) tk (xa_cons (xv 1) xa_nil) rfl))
    (xs_cons (xs_if (tnot (tvalT rfl (xcallV (i := 0) (j := j_is_such) HF_is_such HA_is_such (hr.mono (by omega)) rfl (by first | exact Or.inl rfl | exact Or.inr (Or.inl rfl) | exact Or.inr (Or.inr rfl)) KP_is_such BD_is_such (xa_cons (xv 2) xa_nil)))) (xs_one (xs_raise0 (c := 0) baseVE rfl rfl tk (by rfl) T.E_Unfit.toOxC T.iC_Unfit T.tI_Unfit (oki_Unfit T) (hr.mono (by omega)) T.bi_Unfit (passes_call tk fun _ _ _ _ z => z.elim) (by rfl) T.mC_Unfit)) xs_next)
    (xs_one (xs_ret (xv 2))))))
theorem ok_is_word (T : Txt K mg) : FnOk P w K mg base (L2.CX P w) (0 + 1) T.f_is_word T.d_is_word ["thing"] (spEv K (gs T) (F_is_word) 1) := by
  exact fn_ev (N := ["thing", "sign"]) (ev := E_is_word) T.F_is_word sc_is_word (fun cdv A outer s H E hr tk hpo => (xs_cons (xs_if (PXT.pw (wor (tnot (tvalT rfl (xbi (isi_ok' rfl) ok_isi (by rfl) T.z_isinstance (by decide +kernel) (xa_cons (xv 0) (xa_cons (xty .str (by rfl) T.z_str (by decide +kernel) rfl) xa_nil))))) (wor1 (tnot (tchain c_le c_le xint (xbi (len_ok rfl) ok_len (by rfl) T.z_len (by decide +kernel) (xa_cons (xv 0) xa_nil)) (xglobX (by rfl) T.m_MOST_SIGNS (fun _ _ => RD.int _))))))) (xs_one (xs_ret xbl)) xs_next)
    (xs_one (xs_ret (xbi (all_ok' rfl rfl) ok_all (by rfl) T.z_all (by decide +kernel) (xa_cons (xcomp (own := [("sign", 1)]) rfl sc_is_word.nd (xi_seq rfl (xv 0)) (blkOk_by (N := ["thing", "sign"]) (sc := defScope s_is_word) (by decide +kernel)) (by decide) ⟨_, fun _ _ _ _ _ => (pg_name (i := 1) sc_is_word.nd rfl (by first | exact Or.inl rfl | exact Or.inr rfl)), (snG_name 1)⟩ (fun _ _ _ _ _ => ts_nil) (fun _ _ _ _ _ => (xcmp (c_in rfl hr.units) (xv 1) (xglobX (by rfl) T.m_SIGNS (fun _ _ => RD.str _)) rfl))) xa_nil))))))
theorem ok_is_key (T : Txt K mg) : FnOk P w K mg base (L2.CX P w) (1 + 1) T.f_is_key T.d_is_key ["thing"] (spEv K (gs T) (F_is_key) 1) := by
  exact fn_ev (N := ["thing"]) (ev := E_is_key) T.F_is_key sc_is_key (fun cdv A outer s H E hr tk hpo => (xs_one (xs_ret (xandT rfl (xbi (isi_ok' rfl) ok_isi (by rfl) T.z_isinstance (by decide +kernel) (xa_cons (xv 0) (xa_cons (xty .str (by rfl) T.z_str (by decide +kernel) rfl) xa_nil))) (xone (xcall (ok_is_word T) (hr.mono (by omega)) (by rfl) T.m_is_word T.F_is_word.kp T.b_is_word .nil (fun _ _ => .nil) tk (xa_cons (xsm rfl PySem.F.slot_str_removeprefix PySem.F.type_str_removeprefix mt_removeprefix sm_remp (xv 0) (xa_cons xstr xa_nil)) xa_nil) rfl))))))
theorem ok_is_single (T : Txt K mg) : FnOk P w K mg base (L2.CX P w) (2 + 1) T.f_is_single T.d_is_single ["thing"] (spEv K (gs T) (F_is_single) 1) := by
  exact fn_ev (N := ["thing"]) (ev := E_is_single) T.F_is_single sc_is_single (fun cdv A outer s H E hr tk hpo => (xs_cons (xs_if (tvalT rfl (xcall (ok_is_row T) (hr.mono (by omega)) (by rfl) T.m_is_row T.F_is_row.kp T.b_is_row .nil (fun _ _ => .nil) tk (xa_cons (xv 0) (xa_cons xint xa_nil)) rfl)) (xs_one (xs_ret (xandT rfl (xcmp (c_eq rfl hr.units) (xix rfl (xv 0) xint (fun _ _ => rfl)) xstr (nomark _)) (xandT rfl (xcall (ok_is_key T) (hr.mono (by omega)) (by rfl) T.m_is_key T.F_is_key.kp T.b_is_key .nil (fun _ _ => .nil) tk (xa_cons (xix rfl (xv 0) xint (fun _ _ => rfl)) xa_nil) rfl) (xone (xcall (ok_is_word T) (hr.mono (by omega)) (by rfl) T.m_is_word T.F_is_word.kp T.b_is_word .nil (fun _ _ => .nil) tk (xa_cons (xix rfl (xv 0) xint (fun _ _ => rfl)) xa_nil) rfl)))))) xs_next)
    (xs_one (xs_ret (xandT rfl (xcall (ok_is_row T) (hr.mono (by omega)) (by rfl) T.m_is_row T.F_is_row.kp T.b_is_row .nil (fun _ _ => .nil) tk (xa_cons (xv 0) (xa_cons xint xa_nil)) rfl) (xandT rfl (xcmp (c_eq rfl hr.units) (xix rfl (xv 0) xint (fun _ _ => rfl)) xstr (nomark _)) (xone (xcall (ok_is_key T) (hr.mono (by omega)) (by rfl) T.m_is_key T.F_is_key.kp T.b_is_key .nil (fun _ _ => .nil) tk (xa_cons (xix rfl (xv 0) xint (fun _ _ => rfl)) xa_nil) rfl))))))))
theorem ok_is_deed (T : Txt K mg) : FnOk P w K mg base (L2.CX P w) (4 + 1) T.f_is_deed T.d_is_deed ["thing"] (spEv K (gs T) (F_is_deed) 1) := by
  exact fn_ev (N := ["thing"]) (ev := E_is_deed) T.F_is_deed sc_is_deed (fun cdv A outer s H E hr tk hpo => (xs_cons (xs_if (PXT.pw (wand (tvalT rfl (xcall (ok_is_row T) (hr.mono (by omega)) (by rfl) T.m_is_row T.F_is_row.kp T.b_is_row .nil (fun _ _ => .nil) tk (xa_cons (xv 0) (xa_cons xint xa_nil)) rfl)) (wand1 (tcmp (c_eq rfl hr.units) (xix rfl (xv 0) xint (fun _ _ => rfl)) xstr (nomark _))))) (xs_one (xs_ret (xandT rfl (xcall (ok_is_row_of T (ok_is_single T) rfl T.F_is_single.kp T.b_is_single) (hr.mono (by omega)) (by rfl) T.m_is_row_of T.F_is_row_of.kp T.b_is_row_of .nil (fun _ _ => .nil) tk (xa_cons (xglob (v := .ref T.f_is_single) (by rfl) T.m_is_single rfl (fun _ _ => rd_fn rfl)) (xa_cons (xix rfl (xv 0) xint (fun _ _ => rfl)) xa_nil)) rfl) (xone (xcmp c_ge (xbi (len_ok rfl) ok_len (by rfl) T.z_len (by decide +kernel) (xa_cons (xix rfl (xv 0) xint (fun _ _ => rfl)) xa_nil)) xint (nomark _)))))) xs_next)
    (xs_one (xs_ret (xcall (ok_is_single T) (hr.mono (by omega)) (by rfl) T.m_is_single T.F_is_single.kp T.b_is_single .nil (fun _ _ => .nil) tk (xa_cons (xv 0) xa_nil) rfl)))))
theorem ok_is_record (T : Txt K mg) : FnOk P w K mg base (L2.CX P w) (3 + 1) T.f_is_record T.d_is_record ["thing"] (spEv K (gs T) (F_is_record) 1) := by
  exact fn_ev (N := ["thing"]) (ev := E_is_record) T.F_is_record sc_is_record (fun cdv A outer s H E hr tk hpo => (xs_cons (xs_if (tcmp (c_eq rfl hr.units) (xv 0) (xglob (v := .ref T.f_BLANK) (by rfl) T.m_BLANK rfl (fun _ b => rdt_BLANK T)) (nomark _)) (xs_one (xs_ret xbl)) xs_next)
    (xs_cons (xs_if (tnot (tvalT rfl (xbi (isi_ok' rfl) ok_isi (by rfl) T.z_isinstance (by decide +kernel) (xa_cons (xv 0) (xa_cons (xty .tuple (by rfl) T.z_tuple (by decide +kernel) rfl) xa_nil))))) (xs_one (xs_ret xbl)) xs_next)
    (xs_one (xs_ret (xandT rfl (xcall (ok_is_single T) (hr.mono (by omega)) (by rfl) T.m_is_single T.F_is_single.kp T.b_is_single .nil (fun _ _ => .nil) tk (xa_cons (xsl rfl (xv 0) xo_none (xo_some (xneg xint))) xa_nil) rfl) (xandT rfl (xcall (ok_is_natural T) (hr.mono (by omega)) (by rfl) T.m_is_natural T.F_is_natural.kp T.b_is_natural .nil (fun _ _ => .nil) tk (xa_cons (xix rfl (xv 0) (xneg xint) (fun _ _ => rfl)) xa_nil) rfl) (xone (xcall (ok_is_natural T) (hr.mono (by omega)) (by rfl) T.m_is_natural T.F_is_natural.kp T.b_is_natural .nil (fun _ _ => .nil) tk (xa_cons (xix rfl (xv 0) (xneg xint) (fun _ _ => rfl)) xa_nil) rfl)))))))))
theorem ok_is_table_pair (T : Txt K mg) : FnOk P w K mg base (L2.CX P w) (2 + 1) T.f_is_table_pair T.d_is_table_pair ["thing"] (spEv K (gs T) (F_is_table_pair) 1) := by
  exact fn_ev (N := ["thing"]) (ev := E_is_table_pair) T.F_is_table_pair sc_is_table_pair (fun cdv A outer s H E hr tk hpo => (xs_one (xs_ret (xandT rfl (xcall (ok_is_row T) (hr.mono (by omega)) (by rfl) T.m_is_row T.F_is_row.kp T.b_is_row .nil (fun _ _ => .nil) tk (xa_cons (xv 0) (xa_cons xint xa_nil)) rfl) (xandT rfl (xcall (ok_is_key T) (hr.mono (by omega)) (by rfl) T.m_is_key T.F_is_key.kp T.b_is_key .nil (fun _ _ => .nil) tk (xa_cons (xix rfl (xv 0) xint (fun _ _ => rfl)) xa_nil) rfl) (xone (xcall (ok_is_word T) (hr.mono (by omega)) (by rfl) T.m_is_word T.F_is_word.kp T.b_is_word .nil (fun _ _ => .nil) tk (xa_cons (xix rfl (xv 0) xint (fun _ _ => rfl)) xa_nil) rfl)))))))
theorem ok_is_table (T : Txt K mg) : FnOk P w K mg base (L2.CX P w) (4 + 1) T.f_is_table T.d_is_table ["thing"] (spEv K (gs T) (F_is_table) 1) := by
  exact fn_ev (N := ["thing", "key", "_"]) (ev := E_is_table) T.F_is_table sc_is_table (fun cdv A outer s H E hr tk hpo => (xs_one (xs_ret (xandT rfl (xcall (ok_is_row_of T (ok_is_table_pair T) rfl T.F_is_table_pair.kp T.b_is_table_pair) (hr.mono (by omega)) (by rfl) T.m_is_row_of T.F_is_row_of.kp T.b_is_row_of .nil (fun _ _ => .nil) tk (xa_cons (xglob (v := .ref T.f_is_table_pair) (by rfl) T.m_is_table_pair rfl (fun _ _ => rd_fn rfl)) (xa_cons (xv 0) xa_nil)) rfl) (xone (xcall (ok_is_rising T) (hr.mono (by omega)) (by rfl) T.m_is_rising T.F_is_rising.kp T.b_is_rising .nil (fun _ _ => .nil) tk (xa_cons (xcomp (own := [("key", 1), ("_", 2)]) rfl sc_is_table.nd (xi_seq rfl (xv 0)) (blkOk_by (N := ["thing", "key", "_"]) (sc := defScope s_is_table) (by decide +kernel)) (by decide) ⟨_, fun _ _ _ _ _ => (pg_tupX (n := 2) rfl (pgs_cons (pg_name (i := 1) sc_is_table.nd rfl (by first | exact Or.inl rfl | exact Or.inr rfl)) (pgs_cons (pg_name (i := 2) sc_is_table.nd rfl (by first | exact Or.inl rfl | exact Or.inr rfl)) pgs_nil))), (snG_tupX (n := 2) (snGs_cons (snG_name 1) (snGs_cons (snG_name 2) snGs_nil)))⟩ (fun _ _ _ _ _ => ts_nil) (fun _ _ _ _ _ => (xv 1))) xa_nil) rfl))))))
theorem ok_is_deeds (T : Txt K mg) : FnOk P w K mg base (L2.CX P w) (6 + 1) T.f_is_deeds T.d_is_deeds ["thing"] (spEv K (gs T) (F_is_deeds) 1) := by
  exact fn_ev (N := ["thing"]) (ev := E_is_deeds) T.F_is_deeds sc_is_deeds (fun cdv A outer s H E hr tk hpo => (xs_one (xs_ret (xcall (ok_is_row_of T (ok_is_deed T) rfl T.F_is_deed.kp T.b_is_deed) (hr.mono (by omega)) (by rfl) T.m_is_row_of T.F_is_row_of.kp T.b_is_row_of .nil (fun _ _ => .nil) tk (xa_cons (xglob (v := .ref T.f_is_deed) (by rfl) T.m_is_deed rfl (fun _ _ => rd_fn rfl)) (xa_cons (xv 0) xa_nil)) rfl))))
theorem ok_is_records (T : Txt K mg) : FnOk P w K mg base (L2.CX P w) (5 + 1) T.f_is_records T.d_is_records ["thing"] (spEv K (gs T) (F_is_records) 1) := by
  exact fn_ev (N := ["thing"]) (ev := E_is_records) T.F_is_records sc_is_records (fun cdv A outer s H E hr tk hpo => (xs_one (xs_ret (xcall (ok_is_row_of T (ok_is_record T) rfl T.F_is_record.kp T.b_is_record) (hr.mono (by omega)) (by rfl) T.m_is_row_of T.F_is_row_of.kp T.b_is_row_of .nil (fun _ _ => .nil) tk (xa_cons (xglob (v := .ref T.f_is_record) (by rfl) T.m_is_record rfl (fun _ _ => rd_fn rfl)) (xa_cons (xv 0) xa_nil)) rfl))))
theorem ok_singles_in (T : Txt K mg) : FnOk P w K mg base (L2.CX P w) (0 + 1) T.f_singles_in T.d_singles_in ["deed"] (spEv K (gs T) (F_singles_in) 1) := by
  exact fn_ev (N := ["deed"]) (ev := E_singles_in) T.F_singles_in sc_singles_in (fun cdv A outer s H E hr tk hpo => (xs_cons (xs_if (tcmp (c_eq rfl hr.units) (xix rfl (xv 0) xint (fun _ _ => rfl)) xstr (nomark _)) (xs_one (xs_ret (xix rfl (xv 0) xint (fun _ _ => rfl)))) xs_next)
    (xs_one (xs_ret (xtup (xa_cons (xv 0) xa_nil))))))
theorem ok_parts_in (T : Txt K mg) : FnOk P w K mg base (L2.CX P w) (1 + 1) T.f_parts_in T.d_parts_in ["deed"] (spEv K (gs T) (F_parts_in) 1) := by
  exact fn_ev (N := ["deed", "singles", "last", "at", "single"]) (ev := E_parts_in) T.F_parts_in sc_parts_in (fun cdv A outer s H E hr tk hpo => (xs_cons (xs_set (i := 1) sc_parts_in.nd rfl (by first | exact Or.inl rfl | exact Or.inr rfl) (xcall (ok_singles_in T) (hr.mono (by omega)) (by rfl) T.m_singles_in T.F_singles_in.kp T.b_singles_in .nil (fun _ _ => .nil) tk (xa_cons (xv 0) xa_nil) rfl))
    (xs_cons (xs_set (i := 2) sc_parts_in.nd rfl (by first | exact Or.inl rfl | exact Or.inr rfl) (xsub (xbi (len_ok rfl) ok_len (by rfl) T.z_len (by decide +kernel) (xa_cons (xv 1) xa_nil)) xint))
    (xs_one (xs_ret (xbt (tuple2_ok rfl rfl) ok_tuple2 (by rfl) T.z_tuple (by decide +kernel) (xa_cons (xcomp (own := [("at", 3), ("single", 4)]) rfl sc_parts_in.nd (xi_enum rfl (by rfl) T.z_enumerate (xa_cons (xv 1) xa_nil)) (blkOk_by (N := ["deed", "singles", "last", "at", "single"]) (sc := defScope s_parts_in) (by decide +kernel)) (by decide) ⟨_, fun _ _ _ _ _ => (pg_tupX (n := 2) rfl (pgs_cons (pg_name (i := 3) sc_parts_in.nd rfl (by first | exact Or.inl rfl | exact Or.inr rfl)) (pgs_cons (pg_name (i := 4) sc_parts_in.nd rfl (by first | exact Or.inl rfl | exact Or.inr rfl)) pgs_nil))), (snG_tupX (n := 2) (snGs_cons (snG_name 3) (snGs_cons (snG_name 4) snGs_nil)))⟩ (fun _ _ _ _ _ => ts_nil) (fun _ _ _ _ _ => (xadd rfl (xv 4) (xtup (xa_cons (xv 3) (xa_cons (xsub (xv 2) (xv 3)) xa_nil)))))) xa_nil)))))))
theorem ok_parts_of (T : Txt K mg) : FnOk P w K mg base (L2.CX P w) (15 + 1) T.f_parts_of T.d_parts_of ["deed"] (spEv K (gs T) (F_parts_of) 1) := by
  exact fn_ev (N := ["deed"]) (ev := E_parts_of) T.F_parts_of sc_parts_of (fun cdv A outer s H E hr tk hpo => (xs_one (xs_ret (xcall (ok_parts_in T) (hr.mono (by omega)) (by rfl) T.m_parts_in T.F_parts_in.kp T.b_parts_in .nil (fun _ _ => .nil) tk (xa_cons (xcall (ok_checked T (ok_is_deed T) rfl T.F_is_deed.kp T.b_is_deed) (hr.mono (by omega)) (by rfl) T.m_checked T.F_checked.kp T.b_checked .nil (fun _ _ => .nil) tk (xa_cons (xglob (v := .ref T.f_is_deed) (by rfl) T.m_is_deed rfl (fun _ _ => rd_fn rfl)) (xa_cons (xv 0) xa_nil)) rfl) xa_nil) rfl))))
theorem ok_row_of (T : Txt K mg) : FnOk P w K mg base (L2.CX P w) (17 + 1) T.f_row_of T.d_row_of ["deeds"] (spEv K (gs T) (F_row_of) 1) := by
  exact fn_ev (N := ["deeds", "row", "deed"]) (ev := E_row_of) T.F_row_of sc_row_of (fun cdv A outer s H E hr tk hpo => (xs_cons (xs_set (i := 1) sc_row_of.nd rfl (by first | exact Or.inl rfl | exact Or.inr rfl) (xlstM xa_nil))
    (xs_cons (xs_for hpo rfl (xi_seq rfl (xcall (ok_checked T (ok_is_deeds T) rfl T.F_is_deeds.kp T.b_is_deeds) (hr.mono (by omega)) (by rfl) T.m_checked T.F_checked.kp T.b_checked .nil (fun _ _ => .nil) tk (xa_cons (xglob (v := .ref T.f_is_deeds) (by rfl) T.m_is_deeds rfl (fun _ _ => rd_fn rfl)) (xa_cons (xv 0) xa_nil)) rfl)) ⟨_, (pg_name (i := 2) sc_row_of.nd rfl (by first | exact Or.inl rfl | exact Or.inr rfl)), (snG_name 2)⟩ (xs_one (xs_expr (xext2 rfl (xv 1) (xcall (ok_parts_in T) (hr.mono (by omega)) (by rfl) T.m_parts_in T.F_parts_in.kp T.b_parts_in .nil (fun _ _ => .nil) tk (xa_cons (xv 2) xa_nil) rfl)))))
    (xs_one (xs_ret (xbt (tuple2_ok rfl rfl) ok_tuple2 (by rfl) T.z_tuple (by decide +kernel) (xa_cons (xv 1) xa_nil)))))))
theorem ok_keys_of (T : Txt K mg) : FnOk P w K mg base (L2.CX P w) (15 + 1) T.f_keys_of T.d_keys_of ["deed"] (spEv K (gs T) (F_keys_of) 1) := by
  exact fn_ev (N := ["deed", "singles", "single"]) (ev := E_keys_of) T.F_keys_of sc_keys_of (fun cdv A outer s H E hr tk hpo => (xs_cons (xs_set (i := 1) sc_keys_of.nd rfl (by first | exact Or.inl rfl | exact Or.inr rfl) (xcall (ok_singles_in T) (hr.mono (by omega)) (by rfl) T.m_singles_in T.F_singles_in.kp T.b_singles_in .nil (fun _ _ => .nil) tk (xa_cons (xcall (ok_checked T (ok_is_deed T) rfl T.F_is_deed.kp T.b_is_deed) (hr.mono (by omega)) (by rfl) T.m_checked T.F_checked.kp T.b_checked .nil (fun _ _ => .nil) tk (xa_cons (xglob (v := .ref T.f_is_deed) (by rfl) T.m_is_deed rfl (fun _ _ => rd_fn rfl)) (xa_cons (xv 0) xa_nil)) rfl) xa_nil) rfl))
    (xs_one (xs_ret (xbt (tuple2_ok rfl rfl) ok_tuple2 (by rfl) T.z_tuple (by decide +kernel) (xa_cons (xsortX rfl rfl (by rfl) T.z_sorted (by rfl) T.z_set (xcomp (own := [("single", 2)]) rfl sc_keys_of.nd (xi_seq rfl (xv 1)) (blkOk_by (N := ["deed", "singles", "single"]) (sc := defScope s_keys_of) (by decide +kernel)) (by decide) ⟨_, fun _ _ _ _ _ => (pg_name (i := 2) sc_keys_of.nd rfl (by first | exact Or.inl rfl | exact Or.inr rfl)), (snG_name 2)⟩ (fun _ _ _ _ _ => ts_nil) (fun _ _ _ _ _ => (xix rfl (xv 2) xint (fun _ _ => rfl))))) xa_nil))))))
theorem ok_is_part_ahead (T : Txt K mg) : FnOk P w K mg base (L2.CX P w) (0 + 1) T.f_is_part_ahead T.d_is_part_ahead ["part", "later"] (spEv K (gs T) (F_is_part_ahead) 2) := by
  exact fn_ev (N := ["part", "later"]) (ev := E_is_part_ahead) T.F_is_part_ahead sc_is_part_ahead (fun cdv A outer s H E hr tk hpo => (xs_cons (xs_if (PXT.pw (wor (tcmp (c_eq rfl hr.units) (xv 0) (xglob (v := .ref T.f_BLANK) (by rfl) T.m_BLANK rfl (fun _ b => rdt_BLANK T)) (nomark _)) (wor1 (tcmp (c_eq rfl hr.units) (xv 1) (xglob (v := .ref T.f_BLANK) (by rfl) T.m_BLANK rfl (fun _ b => rdt_BLANK T)) (nomark _))))) (xs_one (xs_ret xbl)) xs_next)
    (xs_one (xs_ret (xcmp (c_eq rfl hr.units) (xsl rfl (xv 0) (xo_some (xneg xint)) xo_none) (xtup (xa_cons (xsub (xix rfl (xv 1) (xneg xint) (fun _ _ => rfl)) xint) (xa_cons (xadd rfl (xix rfl (xv 1) (xneg xint) (fun _ _ => rfl)) xint) xa_nil))) (nomark _))))))
theorem ok_first_closed (T : Txt K mg) : FnOk P w K mg base (L2.CX P w) (1 + 1) T.f_first_closed T.d_first_closed ["row", "at"] (spEv K (gs T) (F_first_closed) 2) := by
  exact fn_ev (N := ["row", "at", "first", "i"]) (ev := E_first_closed) T.F_first_closed sc_first_closed (fun cdv A outer s H E hr tk hpo => (xs_cons (xs_if (PXT.pw (wor (tcmp (c_eq rfl hr.units) (xix rfl (xv 0) (xv 1) (fun _ _ => rfl)) (xglob (v := .ref T.f_BLANK) (by rfl) T.m_BLANK rfl (fun _ b => rdt_BLANK T)) (nomark _)) (wor1 (tcmp (c_ne rfl hr.units) (xix rfl (xix rfl (xv 0) (xv 1) (fun _ _ => rfl)) (xneg xint) (fun _ _ => rfl)) xint (nomark _))))) (xs_one (xs_ret xnon)) xs_next)
    (xs_cons (xs_set (i := 2) sc_first_closed.nd rfl (by first | exact Or.inl rfl | exact Or.inr rfl) (xsub (xv 1) (xbi (call_min2 rfl) ok_min (by rfl) T.z_min (by decide +kernel) (xa_cons (xix rfl (xix rfl (xv 0) (xv 1) (fun _ _ => rfl)) (xneg xint) (fun _ _ => rfl)) (xa_cons (xv 1) xa_nil)))))
    (xs_cons (xs_if (tvalT rfl (xbi (all_ok' rfl rfl) ok_all (by rfl) T.z_all (by decide +kernel) (xa_cons (xcomp (own := [("i", 3)]) rfl sc_first_closed.nd (xi_range2 (by rfl) T.z_range (xa_cons (xv 2) (xa_cons (xv 1) xa_nil))) (blkOk_by (N := ["row", "at", "first", "i"]) (sc := defScope s_first_closed) (by decide +kernel)) (by decide) ⟨_, fun _ _ _ _ _ => (pg_name (i := 3) sc_first_closed.nd rfl (by first | exact Or.inl rfl | exact Or.inr rfl)), (snG_name 3)⟩ (fun _ _ _ _ _ => ts_nil) (fun _ _ _ _ _ => (xcall (ok_is_part_ahead T) (hr.mono (by omega)) (by rfl) T.m_is_part_ahead T.F_is_part_ahead.kp T.b_is_part_ahead .nil (fun _ _ => .nil) takes0 (xa_cons (xix rfl (xv 0) (xv 3) (fun _ _ => rfl)) (xa_cons (xix rfl (xv 0) (xadd rfl (xv 3) xint) (fun _ _ => rfl)) xa_nil)) rfl))) xa_nil))) (xs_one (xs_ret (xv 2))) xs_next)
    (xs_one (xs_ret xnon))))))
theorem ok_closed_lots (T : Txt K mg) : FnOk P w K mg base (L2.CX P w) (2 + 1) T.f_closed_lots T.d_closed_lots ["row"] (spEv K (gs T) (F_closed_lots) 1) := by
  exact fn_ev (N := ["row", "pairs", "at", "pair"]) (ev := E_closed_lots) T.F_closed_lots sc_closed_lots (fun cdv A outer s H E hr tk hpo => (xs_cons (xsetlc (i := 1) (own := [("at", 2)]) false rfl sc_closed_lots.nd rfl rfl (sw_true rfl rfl rfl (by decide +kernel)) (xi_range1 (by rfl) T.z_range (xa_cons (xbi (len_ok rfl) ok_len (by rfl) T.z_len (by decide +kernel) (xa_cons (xv 0) xa_nil)) xa_nil)) (blkOk_by (N := ["row", "pairs", "at", "pair"]) (sc := defScope s_closed_lots) (by decide +kernel)) (by decide) ⟨_, fun _ _ _ _ _ => (pg_name (i := 2) sc_closed_lots.nd rfl (by first | exact Or.inl rfl | exact Or.inr rfl)), (snG_name 2)⟩ (fun _ _ _ _ _ => ts_nil) (fun _ _ _ _ _ => (xtup (xa_cons (xcall (ok_first_closed T) (hr.mono (by omega)) (by rfl) T.m_first_closed T.F_first_closed.kp T.b_first_closed .nil (fun _ _ => .nil) takes0 (xa_cons (xv 0) (xa_cons (xv 2) xa_nil)) rfl) (xa_cons (xv 2) xa_nil)))))
    (xs_one (xs_ret (xcomp (own := [("pair", 3)]) rfl sc_closed_lots.nd (xi_seq rfl (xv 1)) (blkOk_by (N := ["row", "pairs", "at", "pair"]) (sc := defScope s_closed_lots) (by decide +kernel)) (by decide) ⟨_, fun _ _ _ _ _ => (pg_name (i := 3) sc_closed_lots.nd rfl (by first | exact Or.inl rfl | exact Or.inr rfl)), (snG_name 3)⟩ (fun _ _ _ _ _ => (ts_one (tcmp c_isNot (xix rfl (xv 3) xint (fun _ _ => rfl)) xnon (nomark _)))) (fun _ _ _ _ _ => (xv 3)))))))
theorem ok_closed_in (T : Txt K mg) : FnOk P w K mg base (L2.CX P w) (16 + 1) T.f_closed_in T.d_closed_in ["records"] (spEv K (gs T) (F_closed_in) 1) := by
  exact fn_ev (N := ["records", "row", "part", "first", "at"]) (ev := E_closed_in) T.F_closed_in sc_closed_in (fun cdv A outer s H E hr tk hpo => (xs_cons (xs_set (i := 1) sc_closed_in.nd rfl (by first | exact Or.inl rfl | exact Or.inr rfl) (xcall (ok_checked T (ok_is_records T) rfl T.F_is_records.kp T.b_is_records) (hr.mono (by omega)) (by rfl) T.m_checked T.F_checked.kp T.b_checked .nil (fun _ _ => .nil) tk (xa_cons (xglob (v := .ref T.f_is_records) (by rfl) T.m_is_records rfl (fun _ _ => rd_fn rfl)) (xa_cons (xv 0) xa_nil)) rfl))
    (xs_one (xs_ret (xcomp (own := [("first", 3), ("at", 4)]) rfl sc_closed_in.nd (xi_seq rfl (xcall (ok_closed_lots T) (hr.mono (by omega)) (by rfl) T.m_closed_lots T.F_closed_lots.kp T.b_closed_lots .nil (fun _ _ => .nil) tk (xa_cons (xv 1) xa_nil) rfl)) (blkOk_by (N := ["records", "row", "part", "first", "at"]) (sc := defScope s_closed_in) (by decide +kernel)) (by decide) ⟨_, fun _ _ _ _ _ => (pg_tupX (n := 2) rfl (pgs_cons (pg_name (i := 3) sc_closed_in.nd rfl (by first | exact Or.inl rfl | exact Or.inr rfl)) (pgs_cons (pg_name (i := 4) sc_closed_in.nd rfl (by first | exact Or.inl rfl | exact Or.inr rfl)) pgs_nil))), (snG_tupX (n := 2) (snGs_cons (snG_name 3) (snGs_cons (snG_name 4) snGs_nil)))⟩ (fun _ _ _ _ _ => ts_nil) (fun _ _ _ _ _ => (xtup (xa_cons (xv 4) (xa_cons (xbt (tuple2_ok rfl rfl) ok_tuple2 (by rfl) T.z_tuple (by decide +kernel) (xa_cons (xcomp (own := [("part", 2)]) rfl sc_closed_in.nd (xi_seq rfl (xsl rfl (xv 1) (xo_some (xv 3)) (xo_some (xadd rfl (xv 4) xint)))) (blkOk_by (N := ["records", "row", "part", "first", "at"]) (sc := _) (by first | rfl | kernel_rfl)) (by decide) ⟨_, fun _ _ _ _ _ => (pg_name (i := 2) sc_closed_in.nd rfl (by first | exact Or.inl rfl | exact Or.inr rfl)), (snG_name 2)⟩ (fun _ _ _ _ _ => ts_nil) (fun _ _ _ _ _ => (xsl rfl (xv 2) xo_none (xo_some (xneg xint))))) xa_nil)) xa_nil)))))))))
theorem ok_begun_in (T : Txt K mg) : FnOk P w K mg base (L2.CX P w) (1 + 1) T.f_begun_in T.d_begun_in ["row"] (spEv K (gs T) (F_begun_in) 1) := by
  exact fn_ev (N := ["row", "first"]) (ev := E_begun_in) T.F_begun_in sc_begun_in (fun cdv A outer s H E hr tk hpo => (xs_cons (xs_if (PXT.pw (wor (tcmp (c_eq rfl hr.units) (xbi (len_ok rfl) ok_len (by rfl) T.z_len (by decide +kernel) (xa_cons (xv 0) xa_nil)) xint (nomark _)) (wor (tcmp (c_eq rfl hr.units) (xix rfl (xv 0) (xneg xint) (fun _ _ => rfl)) (xglob (v := .ref T.f_BLANK) (by rfl) T.m_BLANK rfl (fun _ b => rdt_BLANK T)) (nomark _)) (wor1 (tcmp (c_eq rfl hr.units) (xix rfl (xix rfl (xv 0) (xneg xint) (fun _ _ => rfl)) (xneg xint) (fun _ _ => rfl)) xint (nomark _)))))) (xs_one (xs_ret xint)) xs_next)
    (xs_cons (xs_set (i := 1) sc_begun_in.nd rfl (by first | exact Or.inl rfl | exact Or.inr rfl) (xsub (xbi (len_ok rfl) ok_len (by rfl) T.z_len (by decide +kernel) (xa_cons (xv 0) xa_nil)) xint))
    (xs_cons (xs_while hpo (PXT.pw (wand (tcmp c_gt (xv 1) xint (nomark _)) (wand1 (tvalT rfl (xcall (ok_is_part_ahead T) (hr.mono (by omega)) (by rfl) T.m_is_part_ahead T.F_is_part_ahead.kp T.b_is_part_ahead .nil (fun _ _ => .nil) tk (xa_cons (xix rfl (xv 0) (xsub (xv 1) xint) (fun _ _ => rfl)) (xa_cons (xix rfl (xv 0) (xv 1) (fun _ _ => rfl)) xa_nil)) rfl))))) (xs_one (xs_aug (i := 1) sc_begun_in.nd rfl (by first | exact Or.inl rfl | exact Or.inr rfl) xint ip_sub ok_augSub)))
    (xs_one (xs_ret (xsub (xbi (len_ok rfl) ok_len (by rfl) T.z_len (by decide +kernel) (xa_cons (xv 0) xa_nil)) (xv 1))))))))
theorem ok_left_begun (T : Txt K mg) : FnOk P w K mg base (L2.CX P w) (16 + 1) T.f_left_begun T.d_left_begun ["records"] (spEv K (gs T) (F_left_begun) 1) := by
  exact fn_ev (N := ["records"]) (ev := E_left_begun) T.F_left_begun sc_left_begun (fun cdv A outer s H E hr tk hpo => (xs_one (xs_ret (xcall (ok_begun_in T) (hr.mono (by omega)) (by rfl) T.m_begun_in T.F_begun_in.kp T.b_begun_in .nil (fun _ _ => .nil) tk (xa_cons (xcall (ok_checked T (ok_is_records T) rfl T.F_is_records.kp T.b_is_records) (hr.mono (by omega)) (by rfl) T.m_checked T.F_checked.kp T.b_checked .nil (fun _ _ => .nil) tk (xa_cons (xglob (v := .ref T.f_is_records) (by rfl) T.m_is_records rfl (fun _ _ => rd_fn rfl)) (xa_cons (xv 0) xa_nil)) rfl) xa_nil) rfl))))
theorem ok_table_with (T : Txt K mg) : FnOk P w K mg base (L2.CX P w) (0 + 1) T.f_table_with T.d_table_with ["table", "singles"] (spEv K (gs T) (F_table_with) 2) := by
  exact fn_ev (N := ["table", "singles", "kept", "single"]) (ev := E_table_with) T.F_table_with sc_table_with (fun cdv A outer s H E hr tk hpo => (xs_cons (xs_set (i := 2) sc_table_with.nd rfl (by first | exact Or.inl rfl | exact Or.inr rfl) (xdict rfl rfl (by rfl) T.z_dict (by decide +kernel) (xa_cons (xv 0) xa_nil)))
    (xs_cons (xs_forX hpo rfl rfl (xv 1) ⟨_, (pg_name (i := 3) sc_table_with.nd rfl (by first | exact Or.inl rfl | exact Or.inr rfl)), (snG_name 3)⟩ (xs_one (xs_if (tcmp (c_eq rfl hr.units) (xix rfl (xv 3) xint (fun _ _ => rfl)) xstr (nomark _)) (xs_one (xs_dset hr.units (xix rfl (xv 3) xint (fun _ _ => rfl)) (xv 2) (xix rfl (xv 3) xint (fun _ _ => rfl)))) (xs_one (xs_expr (xdpop2 (xv 2) (xix rfl (xv 3) xint (fun _ _ => rfl)) xnon))))))
    (xs_one (xs_ret (xbt (tuple2_ok rfl rfl) ok_tuple2 (by rfl) T.z_tuple (by decide +kernel) (xa_cons (xsortIt rfl rfl (by rfl) T.z_sorted (xv 2)) xa_nil)))))))
theorem ok_with_single (T : Txt K mg) : FnOk P w K mg base (L2.CX P w) (15 + 1) T.f_with_single T.d_with_single ["table", "single"] (spEv K (gs T) (F_with_single) 2) := by
  exact fn_ev (N := ["table", "single"]) (ev := E_with_single) T.F_with_single sc_with_single (fun cdv A outer s H E hr tk hpo => (xs_cons (xs_set (i := 0) sc_with_single.nd rfl (by first | exact Or.inl rfl | exact Or.inr rfl) (xcall (ok_checked T (ok_is_table T) rfl T.F_is_table.kp T.b_is_table) (hr.mono (by omega)) (by rfl) T.m_checked T.F_checked.kp T.b_checked .nil (fun _ _ => .nil) tk (xa_cons (xglob (v := .ref T.f_is_table) (by rfl) T.m_is_table rfl (fun _ _ => rd_fn rfl)) (xa_cons (xv 0) xa_nil)) rfl))
    (xs_one (xs_ret (xcall (ok_table_with T) (hr.mono (by omega)) (by rfl) T.m_table_with T.F_table_with.kp T.b_table_with .nil (fun _ _ => .nil) tk (xa_cons (xv 0) (xa_cons (xtup (xa_cons (xcall (ok_checked T (ok_is_single T) rfl T.F_is_single.kp T.b_is_single) (hr.mono (by omega)) (by rfl) T.m_checked T.F_checked.kp T.b_checked .nil (fun _ _ => .nil) tk (xa_cons (xglob (v := .ref T.f_is_single) (by rfl) T.m_is_single rfl (fun _ _ => rd_fn rfl)) (xa_cons (xv 1) xa_nil)) rfl) xa_nil)) xa_nil)) rfl)))))
theorem ok_with_deeds (T : Txt K mg) : FnOk P w K mg base (L2.CX P w) (17 + 1) T.f_with_deeds T.d_with_deeds ["table", "deeds"] (spEv K (gs T) (F_with_deeds) 2) := by
  exact fn_ev (N := ["table", "deeds", "singles", "deed"]) (ev := E_with_deeds) T.F_with_deeds sc_with_deeds (fun cdv A outer s H E hr tk hpo => (xs_cons (xs_set (i := 0) sc_with_deeds.nd rfl (by first | exact Or.inl rfl | exact Or.inr rfl) (xcall (ok_checked T (ok_is_table T) rfl T.F_is_table.kp T.b_is_table) (hr.mono (by omega)) (by rfl) T.m_checked T.F_checked.kp T.b_checked .nil (fun _ _ => .nil) tk (xa_cons (xglob (v := .ref T.f_is_table) (by rfl) T.m_is_table rfl (fun _ _ => rd_fn rfl)) (xa_cons (xv 0) xa_nil)) rfl))
    (xs_cons (xs_set (i := 2) sc_with_deeds.nd rfl (by first | exact Or.inl rfl | exact Or.inr rfl) (xlstM xa_nil))
    (xs_cons (xs_for hpo rfl (xi_seq rfl (xcall (ok_checked T (ok_is_deeds T) rfl T.F_is_deeds.kp T.b_is_deeds) (hr.mono (by omega)) (by rfl) T.m_checked T.F_checked.kp T.b_checked .nil (fun _ _ => .nil) tk (xa_cons (xglob (v := .ref T.f_is_deeds) (by rfl) T.m_is_deeds rfl (fun _ _ => rd_fn rfl)) (xa_cons (xv 1) xa_nil)) rfl)) ⟨_, (pg_name (i := 3) sc_with_deeds.nd rfl (by first | exact Or.inl rfl | exact Or.inr rfl)), (snG_name 3)⟩ (xs_one (xs_expr (xext2 rfl (xv 2) (xcall (ok_singles_in T) (hr.mono (by omega)) (by rfl) T.m_singles_in T.F_singles_in.kp T.b_singles_in .nil (fun _ _ => .nil) tk (xa_cons (xv 3) xa_nil) rfl)))))
    (xs_one (xs_ret (xcall (ok_table_with T) (hr.mono (by omega)) (by rfl) T.m_table_with T.F_table_with.kp T.b_table_with .nil (fun _ _ => .nil) tk (xa_cons (xv 0) (xa_cons (xv 2) xa_nil)) rfl)))))))
theorem ok_is_fates_row (T : Txt K mg) : FnOk P w K mg base (L2.CX P w) (0 + 1) T.f_is_fates_row T.d_is_fates_row ["thing"] (spEv K (gs T) (F_is_fates_row) 1) := by
  exact fn_ev (N := ["thing", "fate"]) (ev := E_is_fates_row) T.F_is_fates_row sc_is_fates_row (fun cdv A outer s H E hr tk hpo => (xs_one (xs_ret (xandT rfl (xbi (isi_ok' rfl) ok_isi (by rfl) T.z_isinstance (by decide +kernel) (xa_cons (xv 0) (xa_cons (xty .tuple (by rfl) T.z_tuple (by decide +kernel) rfl) xa_nil))) (xone (xbi (all_ok' rfl rfl) ok_all (by rfl) T.z_all (by decide +kernel) (xa_cons (xcomp (own := [("fate", 1)]) rfl sc_is_fates_row.nd (xi_seq rfl (xv 0)) (blkOk_by (N := ["thing", "fate"]) (sc := defScope s_is_fates_row) (by decide +kernel)) (by decide) ⟨_, fun _ _ _ _ _ => (pg_name (i := 1) sc_is_fates_row.nd rfl (by first | exact Or.inl rfl | exact Or.inr rfl)), (snG_name 1)⟩ (fun _ _ _ _ _ => ts_nil) (fun _ _ _ _ _ => (xcmp (c_in rfl hr.units) (xv 1) (xglob (v := .ref T.f_FATES) (by rfl) T.m_FATES rfl (fun _ b => rdt_FATES T)) rfl))) xa_nil)))))))
theorem ok_is_shape (T : Txt K mg) : FnOk P w K mg base (L2.CX P w) (1 + 1) T.f_is_shape T.d_is_shape ["thing"] (spEv K (gs T) (F_is_shape) 1) := by
  exact fn_ev (N := ["thing", "part", "cells", "flight", "marks"]) (ev := E_is_shape) T.F_is_shape sc_is_shape (fun cdv A outer s H E hr tk hpo => (xs_cons (xs_if (PXT.pw (wor (tnot (tvalT rfl (xcall (ok_is_row T) (hr.mono (by omega)) (by rfl) T.m_is_row T.F_is_row.kp T.b_is_row .nil (fun _ _ => .nil) tk (xa_cons (xv 0) (xa_cons xint xa_nil)) rfl))) (wor1 (tnot (tvalT rfl (xbi (all_ok' rfl rfl) ok_all (by rfl) T.z_all (by decide +kernel) (xa_cons (xcomp (own := [("part", 1)]) rfl sc_is_shape.nd (xi_seq rfl (xv 0)) (blkOk_by (N := ["thing", "part", "cells", "flight", "marks"]) (sc := defScope s_is_shape) (by decide +kernel)) (by decide) ⟨_, fun _ _ _ _ _ => (pg_name (i := 1) sc_is_shape.nd rfl (by first | exact Or.inl rfl | exact Or.inr rfl)), (snG_name 1)⟩ (fun _ _ _ _ _ => ts_nil) (fun _ _ _ _ _ => (xcall (ok_is_number T) (hr.mono (by omega)) (by rfl) T.m_is_number T.F_is_number.kp T.b_is_number .nil (fun _ _ => .nil) takes0 (xa_cons (xv 1) xa_nil) rfl))) xa_nil))))))) (xs_one (xs_ret xbl)) xs_next)
    (xs_cons (xs_asg (xv 0) ⟨_, (pg_tupX (n := 3) rfl (pgs_cons (pg_name (i := 2) sc_is_shape.nd rfl (by first | exact Or.inl rfl | exact Or.inr rfl)) (pgs_cons (pg_name (i := 3) sc_is_shape.nd rfl (by first | exact Or.inl rfl | exact Or.inr rfl)) (pgs_cons (pg_name (i := 4) sc_is_shape.nd rfl (by first | exact Or.inl rfl | exact Or.inr rfl)) pgs_nil)))), (snG_tupX (n := 3) (snGs_cons (snG_name 2) (snGs_cons (snG_name 3) (snGs_cons (snG_name 4) snGs_nil))))⟩)
    (xs_one (xs_ret (xandT rfl (xcmp c_ge (xv 2) xint (nomark _)) (xandT rfl (xchain c_le c_lt xint (xv 3) (xv 2)) (xone (xcmp c_ge (xv 4) xint (nomark _))))))))))
theorem ok_is_written_cell (T : Txt K mg) : FnOk P w K mg base (L2.CX P w) (4 + 1) T.f_is_written_cell T.d_is_written_cell ["thing"] (spEv K (gs T) (F_is_written_cell) 1) := by
  exact fn_ev (N := ["thing"]) (ev := E_is_written_cell) T.F_is_written_cell sc_is_written_cell (fun cdv A outer s H E hr tk hpo => (xs_one (xs_ret (xandT rfl (xcall (ok_is_row T) (hr.mono (by omega)) (by rfl) T.m_is_row T.F_is_row.kp T.b_is_row .nil (fun _ _ => .nil) tk (xa_cons (xv 0) (xa_cons xint xa_nil)) rfl) (xandT rfl (xcall (ok_is_natural T) (hr.mono (by omega)) (by rfl) T.m_is_natural T.F_is_natural.kp T.b_is_natural .nil (fun _ _ => .nil) tk (xa_cons (xix rfl (xv 0) xint (fun _ _ => rfl)) xa_nil) rfl) (xone (xcall (ok_is_record T) (hr.mono (by omega)) (by rfl) T.m_is_record T.F_is_record.kp T.b_is_record .nil (fun _ _ => .nil) tk (xa_cons (xix rfl (xv 0) xint (fun _ _ => rfl)) xa_nil) rfl)))))))
theorem ok_is_content_in (T : Txt K mg) : FnOk P w K mg base (L2.CX P w) (5 + 1) T.f_is_content_in T.d_is_content_in ["shape", "thing"] (spEv K (gs T) (F_is_content_in) 2) := by
  exact fn_ev (N := ["shape", "thing"]) (ev := E_is_content_in) T.F_is_content_in sc_is_content_in (fun cdv A outer s H E hr tk hpo => (xs_one (xs_ret (xandT rfl (xcall (ok_is_written_cell T) (hr.mono (by omega)) (by rfl) T.m_is_written_cell T.F_is_written_cell.kp T.b_is_written_cell .nil (fun _ _ => .nil) tk (xa_cons (xv 1) xa_nil) rfl) (xone (xcmp c_lt (xix rfl (xv 1) xint (fun _ _ => rfl)) (xix rfl (xv 0) xint (fun _ _ => rfl)) (nomark _)))))))
theorem ok_is_cell_in (T : Txt K mg) : FnOk P w K mg base (L2.CX P w) (6 + 1) T.f_is_cell_in T.d_is_cell_in ["shape", "thing"] (spEv K (gs T) (F_is_cell_in) 2) := by
  exact fn_ev (N := ["shape", "thing"]) (ev := E_is_cell_in) T.F_is_cell_in sc_is_cell_in (fun cdv A outer s H E hr tk hpo => (xs_one (xs_ret (xorT rfl (xcmp (c_eq rfl hr.units) (xv 1) (xglob (v := .ref T.f_TORN) (by rfl) T.m_TORN rfl (fun _ b => rdt_TORN T)) (nomark _)) (xone (xcall (ok_is_content_in T) (hr.mono (by omega)) (by rfl) T.m_is_content_in T.F_is_content_in.kp T.b_is_content_in .nil (fun _ _ => .nil) tk (xa_cons (xv 0) (xa_cons (xv 1) xa_nil)) rfl))))))
theorem ok_is_picture_in (T : Txt K mg) : FnOk P w K mg base (L2.CX P w) (7 + 1) T.f_is_picture_in T.d_is_picture_in ["shape", "thing"] (spEv K (gs T) (F_is_picture_in) 2) := by
  exact fn_ev (N := ["shape", "thing", "part"]) (ev := E_is_picture_in) T.F_is_picture_in sc_is_picture_in (fun cdv A outer s H E hr tk hpo => (xs_one (xs_ret (xandT rfl (xcall (ok_is_row T) (hr.mono (by omega)) (by rfl) T.m_is_row T.F_is_row.kp T.b_is_row .nil (fun _ _ => .nil) tk (xa_cons (xv 1) (xa_cons (xix rfl (xv 0) xint (fun _ _ => rfl)) xa_nil)) rfl) (xone (xbi (all_ok' rfl rfl) ok_all (by rfl) T.z_all (by decide +kernel) (xa_cons (xcomp (own := [("part", 2)]) rfl sc_is_picture_in.nd (xi_seq rfl (xv 1)) (blkOk_by (N := ["shape", "thing", "part"]) (sc := defScope s_is_picture_in) (by decide +kernel)) (by decide) ⟨_, fun _ _ _ _ _ => (pg_name (i := 2) sc_is_picture_in.nd rfl (by first | exact Or.inl rfl | exact Or.inr rfl)), (snG_name 2)⟩ (fun _ _ _ _ _ => ts_nil) (fun _ _ _ _ _ => (xcall (ok_is_cell_in T) (hr.mono (by omega)) (by rfl) T.m_is_cell_in T.F_is_cell_in.kp T.b_is_cell_in .nil (fun _ _ => .nil) takes0 (xa_cons (xv 0) (xa_cons (xv 2) xa_nil)) rfl))) xa_nil)))))))
theorem ok_is_write_in (T : Txt K mg) : FnOk P w K mg base (L2.CX P w) (6 + 1) T.f_is_write_in T.d_is_write_in ["shape", "thing"] (spEv K (gs T) (F_is_write_in) 2) := by
  exact fn_ev (N := ["shape", "thing"]) (ev := E_is_write_in) T.F_is_write_in sc_is_write_in (fun cdv A outer s H E hr tk hpo => (xs_one (xs_ret (xandT rfl (xcall (ok_is_row T) (hr.mono (by omega)) (by rfl) T.m_is_row T.F_is_row.kp T.b_is_row .nil (fun _ _ => .nil) tk (xa_cons (xv 1) (xa_cons xint xa_nil)) rfl) (xandT rfl (xcall (ok_is_below T) (hr.mono (by omega)) (by rfl) T.m_is_below T.F_is_below.kp T.b_is_below .nil (fun _ _ => .nil) tk (xa_cons (xix rfl (xv 1) xint (fun _ _ => rfl)) (xa_cons (xix rfl (xv 0) xint (fun _ _ => rfl)) xa_nil)) rfl) (xone (xcall (ok_is_content_in T) (hr.mono (by omega)) (by rfl) T.m_is_content_in T.F_is_content_in.kp T.b_is_content_in .nil (fun _ _ => .nil) tk (xa_cons (xv 0) (xa_cons (xix rfl (xv 1) xint (fun _ _ => rfl)) xa_nil)) rfl)))))))
theorem ok_is_device (T : Txt K mg) : FnOk P w K mg base (L2.CX P w) (8 + 1) T.f_is_device T.d_is_device ["thing"] (spEv K (gs T) (F_is_device) 1) := by
  exact fn_ev (N := ["thing", "shape", "picture", "flight", "write"]) (ev := E_is_device) T.F_is_device sc_is_device (fun cdv A outer s H E hr tk hpo => (xs_cons (xs_if (PXT.pw (wor (tnot (tvalT rfl (xcall (ok_is_row T) (hr.mono (by omega)) (by rfl) T.m_is_row T.F_is_row.kp T.b_is_row .nil (fun _ _ => .nil) tk (xa_cons (xv 0) (xa_cons xint xa_nil)) rfl))) (wor1 (tnot (tvalT rfl (xcall (ok_is_shape T) (hr.mono (by omega)) (by rfl) T.m_is_shape T.F_is_shape.kp T.b_is_shape .nil (fun _ _ => .nil) tk (xa_cons (xix rfl (xv 0) xint (fun _ _ => rfl)) xa_nil) rfl)))))) (xs_one (xs_ret xbl)) xs_next)
    (xs_cons (xs_asg (xv 0) ⟨_, (pg_tupX (n := 3) rfl (pgs_cons (pg_name (i := 1) sc_is_device.nd rfl (by first | exact Or.inl rfl | exact Or.inr rfl)) (pgs_cons (pg_name (i := 2) sc_is_device.nd rfl (by first | exact Or.inl rfl | exact Or.inr rfl)) (pgs_cons (pg_name (i := 3) sc_is_device.nd rfl (by first | exact Or.inl rfl | exact Or.inr rfl)) pgs_nil)))), (snG_tupX (n := 3) (snGs_cons (snG_name 1) (snGs_cons (snG_name 2) (snGs_cons (snG_name 3) snGs_nil))))⟩)
    (xs_cons (xs_if (PXT.pw (wor (tnot (tvalT rfl (xcall (ok_is_picture_in T) (hr.mono (by omega)) (by rfl) T.m_is_picture_in T.F_is_picture_in.kp T.b_is_picture_in .nil (fun _ _ => .nil) tk (xa_cons (xv 1) (xa_cons (xv 2) xa_nil)) rfl))) (wor1 (tnot (tvalT rfl (xbi (isi_ok' rfl) ok_isi (by rfl) T.z_isinstance (by decide +kernel) (xa_cons (xv 3) (xa_cons (xty .tuple (by rfl) T.z_tuple (by decide +kernel) rfl) xa_nil)))))))) (xs_one (xs_ret xbl)) xs_next)
    (xs_one (xs_ret (xandT rfl (xcmp c_le (xbi (len_ok rfl) ok_len (by rfl) T.z_len (by decide +kernel) (xa_cons (xv 3) xa_nil)) (xix rfl (xv 1) xint (fun _ _ => rfl)) (nomark _)) (xone (xbi (all_ok' rfl rfl) ok_all (by rfl) T.z_all (by decide +kernel) (xa_cons (xcomp (own := [("write", 4)]) rfl sc_is_device.nd (xi_seq rfl (xv 3)) (blkOk_by (N := ["thing", "shape", "picture", "flight", "write"]) (sc := defScope s_is_device) (by decide +kernel)) (by decide) ⟨_, fun _ _ _ _ _ => (pg_name (i := 4) sc_is_device.nd rfl (by first | exact Or.inl rfl | exact Or.inr rfl)), (snG_name 4)⟩ (fun _ _ _ _ _ => ts_nil) (fun _ _ _ _ _ => (xcall (ok_is_write_in T) (hr.mono (by omega)) (by rfl) T.m_is_write_in T.F_is_write_in.kp T.b_is_write_in .nil (fun _ _ => .nil) takes0 (xa_cons (xv 1) (xa_cons (xv 4) xa_nil)) rfl))) xa_nil))))))))))
theorem ok_is_event (T : Txt K mg) : FnOk P w K mg base (L2.CX P w) (4 + 1) T.f_is_event T.d_is_event ["thing"] (spEv K (gs T) (F_is_event) 1) := by
  exact fn_ev (N := ["thing"]) (ev := E_is_event) T.F_is_event sc_is_event (fun cdv A outer s H E hr tk hpo => (xs_cons (xs_if (PXT.pw (wor (tcmp (c_eq rfl hr.units) (xv 0) (xtup (xa_cons xstr xa_nil)) (nomark _)) (wor1 (tcmp (c_eq rfl hr.units) (xv 0) (xtup (xa_cons xstr xa_nil)) (nomark _))))) (xs_one (xs_ret xbl)) xs_next)
    (xs_cons (xs_if (tvalT rfl (xcall (ok_is_row T) (hr.mono (by omega)) (by rfl) T.m_is_row T.F_is_row.kp T.b_is_row .nil (fun _ _ => .nil) tk (xa_cons (xv 0) (xa_cons xint xa_nil)) rfl)) (xs_one (xs_ret (xorT rfl (xandT rfl (xcmp (c_eq rfl hr.units) (xix rfl (xv 0) xint (fun _ _ => rfl)) xstr (nomark _)) (xone (xcall (ok_is_record T) (hr.mono (by omega)) (by rfl) T.m_is_record T.F_is_record.kp T.b_is_record .nil (fun _ _ => .nil) tk (xa_cons (xix rfl (xv 0) xint (fun _ _ => rfl)) xa_nil) rfl))) (xone (xandT rfl (xcmp (c_eq rfl hr.units) (xix rfl (xv 0) xint (fun _ _ => rfl)) xstr (nomark _)) (xone (xcall (ok_is_fates_row T) (hr.mono (by omega)) (by rfl) T.m_is_fates_row T.F_is_fates_row.kp T.b_is_fates_row .nil (fun _ _ => .nil) tk (xa_cons (xix rfl (xv 0) xint (fun _ _ => rfl)) xa_nil) rfl))))))) xs_next)
    (xs_one (xs_ret (xandT rfl (xcall (ok_is_row T) (hr.mono (by omega)) (by rfl) T.m_is_row T.F_is_row.kp T.b_is_row .nil (fun _ _ => .nil) tk (xa_cons (xv 0) (xa_cons xint xa_nil)) rfl) (xandT rfl (xcmp (c_eq rfl hr.units) (xix rfl (xv 0) xint (fun _ _ => rfl)) xstr (nomark _)) (xandT rfl (xcall (ok_is_natural T) (hr.mono (by omega)) (by rfl) T.m_is_natural T.F_is_natural.kp T.b_is_natural .nil (fun _ _ => .nil) tk (xa_cons (xix rfl (xv 0) xint (fun _ _ => rfl)) xa_nil) rfl) (xone (xcall (ok_is_fates_row T) (hr.mono (by omega)) (by rfl) T.m_is_fates_row T.F_is_fates_row.kp T.b_is_fates_row .nil (fun _ _ => .nil) tk (xa_cons (xix rfl (xv 0) xint (fun _ _ => rfl)) xa_nil) rfl))))))))))
theorem ok_word_of (T : Txt K mg) : FnOk P w K mg base (L2.CX P w) (0 + 1) T.f_word_of T.d_word_of ["number"] (spEv K (gs T) (F_word_of) 1) := by
  exact fn_ev (N := ["number"]) (ev := E_word_of) T.F_word_of sc_word_of (fun cdv A outer s H E hr tk hpo => (xs_one (xs_ret (xbt str_ok' ok_str (by rfl) T.z_str (by decide +kernel) (xa_cons (xv 0) xa_nil)))))
theorem ok_words_in (T : Txt K mg) : ∀ n : Nat, FnOk P w K mg base (L2.CX P w) (1 + n + 1) T.f_words_in T.d_words_in ["value"] (spEv K (gs T) (F_words_in n) 1)
  | 0 => fnOk_bad
  | n + 1 => by
    have ih := ok_words_in T n
    exact fn_ev (N := ["value", "row", "part"]) (ev := E_words_in (F_words_in n)) T.F_words_in sc_words_in (fun cdv A outer s H E hr tk hpo => (xs_cons (xs_if (tvalT rfl (xbi (isi_ok' rfl) ok_isi (by rfl) T.z_isinstance (by decide +kernel) (xa_cons (xv 0) (xa_cons (xty .str (by rfl) T.z_str (by decide +kernel) rfl) xa_nil)))) (xs_one (xs_ret (xlst (xa_cons (xv 0) xa_nil)))) xs_next)
    (xs_cons (xs_if (tnot (tvalT rfl (xbi (isi_ok' rfl) ok_isi (by rfl) T.z_isinstance (by decide +kernel) (xa_cons (xv 0) (xa_cons (xty .tuple (by rfl) T.z_tuple (by decide +kernel) rfl) xa_nil))))) (xs_one (xs_ret (xlst (xa_cons (xcall (ok_word_of T) (hr.mono (by omega)) (by rfl) T.m_word_of T.F_word_of.kp T.b_word_of .nil (fun _ _ => .nil) tk (xa_cons (xv 0) xa_nil) rfl) xa_nil)))) xs_next)
    (xs_cons (xs_set (i := 1) sc_words_in.nd rfl (by first | exact Or.inl rfl | exact Or.inr rfl) (xlstM xa_nil))
    (xs_cons (xs_for hpo rfl (xi_seq rfl (xv 0)) ⟨_, (pg_name (i := 2) sc_words_in.nd rfl (by first | exact Or.inl rfl | exact Or.inr rfl)), (snG_name 2)⟩ (xs_one (xs_expr (xext2 rfl (xv 1) (xcall ih (hr.mono (by omega)) (by rfl) T.m_words_in T.F_words_in.kp T.b_words_in .nil (fun _ _ => .nil) tk (xa_cons (xv 2) xa_nil) rfl)))))
    (xs_one (xs_ret (xv 1))))))))
theorem ok_text_with (T : Txt K mg) : FnOk P w K mg base (L2.CX P w) (10 + 1) T.f_text_with T.d_text_with ["rows"] (spEv K (gs T) (F_text_with) 1) := by
  exact fn_ev (N := ["rows", "row"]) (ev := E_text_with) T.F_text_with sc_text_with (fun cdv A outer s H E hr tk hpo => (xs_one (xs_ret (xsm rfl PySem.F.slot_str_join PySem.F.type_str_join (mt_join (X := _)) sm_join xstr (xa_cons (xcomp (own := [("row", 1)]) rfl sc_text_with.nd (xi_seq rfl (xv 0)) (blkOk_by (N := ["rows", "row"]) (sc := defScope s_text_with) (by decide +kernel)) (by decide) ⟨_, fun _ _ _ _ _ => (pg_name (i := 1) sc_text_with.nd rfl (by first | exact Or.inl rfl | exact Or.inr rfl)), (snG_name 1)⟩ (fun _ _ _ _ _ => ts_nil) (fun _ _ _ _ _ => (xadd rfl (xsm rfl PySem.F.slot_str_join PySem.F.type_str_join (mt_join (X := _)) sm_join xstr (xa_cons (xcall (ok_words_in T 8) (hr.mono (by omega)) (by rfl) T.m_words_in T.F_words_in.kp T.b_words_in .nil (fun _ _ => .nil) takes0 (xa_cons (xv 1) xa_nil) rfl) xa_nil)) xstr))) xa_nil)))))
theorem ok_device_text (T : Txt K mg) : FnOk P w K mg base (L2.CX P w) (19 + 1) T.f_device_text T.d_device_text ["device"] (spEv K (gs T) (F_device_text) 1) := by
  exact fn_ev (N := ["device", "shape", "picture", "flight", "rows", "cell", "write"]) (ev := E_device_text) T.F_device_text sc_device_text (fun cdv A outer s H E hr tk hpo => (xs_cons (xs_asg (xcall (ok_checked T (ok_is_device T) rfl T.F_is_device.kp T.b_is_device) (hr.mono (by omega)) (by rfl) T.m_checked T.F_checked.kp T.b_checked .nil (fun _ _ => .nil) tk (xa_cons (xglob (v := .ref T.f_is_device) (by rfl) T.m_is_device rfl (fun _ _ => rd_fn rfl)) (xa_cons (xv 0) xa_nil)) rfl) ⟨_, (pg_tupX (n := 3) rfl (pgs_cons (pg_name (i := 1) sc_device_text.nd rfl (by first | exact Or.inl rfl | exact Or.inr rfl)) (pgs_cons (pg_name (i := 2) sc_device_text.nd rfl (by first | exact Or.inl rfl | exact Or.inr rfl)) (pgs_cons (pg_name (i := 3) sc_device_text.nd rfl (by first | exact Or.inl rfl | exact Or.inr rfl)) pgs_nil)))), (snG_tupX (n := 3) (snGs_cons (snG_name 1) (snGs_cons (snG_name 2) (snGs_cons (snG_name 3) snGs_nil))))⟩)
    (xs_cons (xs_set (i := 4) sc_device_text.nd rfl (by first | exact Or.inl rfl | exact Or.inr rfl) (xadd rfl (xadd rfl (xlst (xa_cons (xtup (xa_cons xstr (xa_cons (xv 1) xa_nil))) xa_nil)) (xcomp (own := [("cell", 5)]) rfl sc_device_text.nd (xi_seq rfl (xv 2)) (blkOk_by (N := ["device", "shape", "picture", "flight", "rows", "cell", "write"]) (sc := defScope s_device_text) (by decide +kernel)) (by decide) ⟨_, fun _ _ _ _ _ => (pg_name (i := 5) sc_device_text.nd rfl (by first | exact Or.inl rfl | exact Or.inr rfl)), (snG_name 5)⟩ (fun _ _ _ _ _ => ts_nil) (fun _ _ _ _ _ => (xtup (xa_cons xstr (xa_cons (xv 5) xa_nil)))))) (xcomp (own := [("write", 6)]) rfl sc_device_text.nd (xi_seq rfl (xv 3)) (blkOk_by (N := ["device", "shape", "picture", "flight", "rows", "cell", "write"]) (sc := defScope s_device_text) (by decide +kernel)) (by decide) ⟨_, fun _ _ _ _ _ => (pg_name (i := 6) sc_device_text.nd rfl (by first | exact Or.inl rfl | exact Or.inr rfl)), (snG_name 6)⟩ (fun _ _ _ _ _ => ts_nil) (fun _ _ _ _ _ => (xtup (xa_cons xstr (xa_cons (xv 6) xa_nil)))))))
    (xs_one (xs_ret (xcall (ok_text_with T) (hr.mono (by omega)) (by rfl) T.m_text_with T.F_text_with.kp T.b_text_with .nil (fun _ _ => .nil) tk (xa_cons (xv 4) xa_nil) rfl))))))
theorem ok_can_follow (T : Txt K mg) : FnOk P w K mg base (L2.CX P w) (0 + 1) T.f_can_follow T.d_can_follow ["last", "event"] (spEv K (gs T) (F_can_follow) 2) := by
  exact fn_ev (N := ["last", "event"]) (ev := E_can_follow) T.F_can_follow sc_can_follow (fun cdv A outer s H E hr tk hpo => (xs_one (xs_ret (xcmp (c_eq rfl hr.units) (xcmp (c_in rfl hr.units) (xix rfl (xv 1) xint (fun _ _ => rfl)) (xtup (xa_cons xstr (xa_cons xstr xa_nil))) rfl) (xcmp (c_in rfl hr.units) (xix rfl (xv 0) xint (fun _ _ => rfl)) (xtup (xa_cons xstr (xa_cons xstr xa_nil))) rfl) (nomark _)))))
theorem ok_is_in_order (T : Txt K mg) : FnOk P w K mg base (L2.CX P w) (1 + 1) T.f_is_in_order T.d_is_in_order ["events"] (spEv K (gs T) (F_is_in_order) 1) := by
  exact fn_ev (N := ["events", "last", "event"]) (ev := E_is_in_order) T.F_is_in_order sc_is_in_order (fun cdv A outer s H E hr tk hpo => (xs_one (xs_ret (xbi (all_ok' rfl rfl) ok_all (by rfl) T.z_all (by decide +kernel) (xa_cons (xcomp (own := [("last", 1), ("event", 2)]) rfl sc_is_in_order.nd (xi_zipX rfl (by rfl) T.z_zip (xa_cons (xadd rfl (xtup (xa_cons (xtup (xa_cons xstr xa_nil)) xa_nil)) (xv 0)) (xa_cons (xv 0) xa_nil))) (blkOk_by (N := ["events", "last", "event"]) (sc := defScope s_is_in_order) (by decide +kernel)) (by decide) ⟨_, fun _ _ _ _ _ => (pg_tupX (n := 2) rfl (pgs_cons (pg_name (i := 1) sc_is_in_order.nd rfl (by first | exact Or.inl rfl | exact Or.inr rfl)) (pgs_cons (pg_name (i := 2) sc_is_in_order.nd rfl (by first | exact Or.inl rfl | exact Or.inr rfl)) pgs_nil))), (snG_tupX (n := 2) (snGs_cons (snG_name 1) (snGs_cons (snG_name 2) snGs_nil)))⟩ (fun _ _ _ _ _ => ts_nil) (fun _ _ _ _ _ => (xcall (ok_can_follow T) (hr.mono (by omega)) (by rfl) T.m_can_follow T.F_can_follow.kp T.b_can_follow .nil (fun _ _ => .nil) takes0 (xa_cons (xv 1) (xa_cons (xv 2) xa_nil)) rfl))) xa_nil)))))
theorem ok_is_life_row (T : Txt K mg) : FnOk P w K mg base (L2.CX P w) (6 + 1) T.f_is_life_row T.d_is_life_row ["thing"] (spEv K (gs T) (F_is_life_row) 1) := by
  exact fn_ev (N := ["thing"]) (ev := E_is_life_row) T.F_is_life_row sc_is_life_row (fun cdv A outer s H E hr tk hpo => (xs_one (xs_ret (xandT rfl (xcall (ok_is_row_of T (ok_is_event T) rfl T.F_is_event.kp T.b_is_event) (hr.mono (by omega)) (by rfl) T.m_is_row_of T.F_is_row_of.kp T.b_is_row_of .nil (fun _ _ => .nil) tk (xa_cons (xglob (v := .ref T.f_is_event) (by rfl) T.m_is_event rfl (fun _ _ => rd_fn rfl)) (xa_cons (xv 0) xa_nil)) rfl) (xone (xcall (ok_is_in_order T) (hr.mono (by omega)) (by rfl) T.m_is_in_order T.F_is_in_order.kp T.b_is_in_order .nil (fun _ _ => .nil) tk (xa_cons (xv 0) xa_nil) rfl))))))
theorem ok_life_text (T : Txt K mg) : FnOk P w K mg base (L2.CX P w) (17 + 1) T.f_life_text T.d_life_text ["life"] (spEv K (gs T) (F_life_text) 1) := by
  exact fn_ev (N := ["life"]) (ev := E_life_text) T.F_life_text sc_life_text (fun cdv A outer s H E hr tk hpo => (xs_one (xs_ret (xcall (ok_text_with T) (hr.mono (by omega)) (by rfl) T.m_text_with T.F_text_with.kp T.b_text_with .nil (fun _ _ => .nil) tk (xa_cons (xcall (ok_checked T (ok_is_life_row T) rfl T.F_is_life_row.kp T.b_is_life_row) (hr.mono (by omega)) (by rfl) T.m_checked T.F_checked.kp T.b_checked .nil (fun _ _ => .nil) tk (xa_cons (xglob (v := .ref T.f_is_life_row) (by rfl) T.m_is_life_row rfl (fun _ _ => rd_fn rfl)) (xa_cons (xv 0) xa_nil)) rfl) xa_nil) rfl))))
theorem ok_is_story_event (T : Txt K mg) : FnOk P w K mg base (L2.CX P w) (5 + 1) T.f_is_story_event T.d_is_story_event ["thing"] (spEv K (gs T) (F_is_story_event) 1) := by
  exact fn_ev (N := ["thing"]) (ev := E_is_story_event) T.F_is_story_event sc_is_story_event (fun cdv A outer s H E hr tk hpo => (xs_cons (xs_if (PXT.pw (wand (tvalT rfl (xcall (ok_is_row T) (hr.mono (by omega)) (by rfl) T.m_is_row T.F_is_row.kp T.b_is_row .nil (fun _ _ => .nil) tk (xa_cons (xv 0) (xa_cons xint xa_nil)) rfl)) (wand1 (tcmp (c_eq rfl hr.units) (xix rfl (xv 0) xint (fun _ _ => rfl)) xstr (nomark _))))) (xs_one (xs_ret (xcall (ok_is_deed T) (hr.mono (by omega)) (by rfl) T.m_is_deed T.F_is_deed.kp T.b_is_deed .nil (fun _ _ => .nil) tk (xa_cons (xix rfl (xv 0) xint (fun _ _ => rfl)) xa_nil) rfl))) xs_next)
    (xs_one (xs_ret (xandT rfl (xcall (ok_is_event T) (hr.mono (by omega)) (by rfl) T.m_is_event T.F_is_event.kp T.b_is_event .nil (fun _ _ => .nil) tk (xa_cons (xv 0) xa_nil) rfl) (xone (xcmp (c_ne rfl hr.units) (xix rfl (xv 0) xint (fun _ _ => rfl)) xstr (nomark _))))))))
theorem ok_is_story_row (T : Txt K mg) : FnOk P w K mg base (L2.CX P w) (7 + 1) T.f_is_story_row T.d_is_story_row ["thing"] (spEv K (gs T) (F_is_story_row) 1) := by
  exact fn_ev (N := ["thing"]) (ev := E_is_story_row) T.F_is_story_row sc_is_story_row (fun cdv A outer s H E hr tk hpo => (xs_one (xs_ret (xandT rfl (xcall (ok_is_row_of T (ok_is_story_event T) rfl T.F_is_story_event.kp T.b_is_story_event) (hr.mono (by omega)) (by rfl) T.m_is_row_of T.F_is_row_of.kp T.b_is_row_of .nil (fun _ _ => .nil) tk (xa_cons (xglob (v := .ref T.f_is_story_event) (by rfl) T.m_is_story_event rfl (fun _ _ => rd_fn rfl)) (xa_cons (xv 0) xa_nil)) rfl) (xone (xcall (ok_is_in_order T) (hr.mono (by omega)) (by rfl) T.m_is_in_order T.F_is_in_order.kp T.b_is_in_order .nil (fun _ _ => .nil) tk (xa_cons (xv 0) xa_nil) rfl))))))
theorem ok_story_text (T : Txt K mg) : FnOk P w K mg base (L2.CX P w) (18 + 1) T.f_story_text T.d_story_text ["story"] (spEv K (gs T) (F_story_text) 1) := by
  exact fn_ev (N := ["story", "events", "event"]) (ev := E_story_text) T.F_story_text sc_story_text (fun cdv A outer s H E hr tk hpo => (xs_cons (xs_set (i := 1) sc_story_text.nd rfl (by first | exact Or.inl rfl | exact Or.inr rfl) (xcall (ok_checked T (ok_is_story_row T) rfl T.F_is_story_row.kp T.b_is_story_row) (hr.mono (by omega)) (by rfl) T.m_checked T.F_checked.kp T.b_checked .nil (fun _ _ => .nil) tk (xa_cons (xglob (v := .ref T.f_is_story_row) (by rfl) T.m_is_story_row rfl (fun _ _ => rd_fn rfl)) (xa_cons (xv 0) xa_nil)) rfl))
    (xs_one (xs_ret (xcall (ok_text_with T) (hr.mono (by omega)) (by rfl) T.m_text_with T.F_text_with.kp T.b_text_with .nil (fun _ _ => .nil) tk (xa_cons (xcomp (own := [("event", 2)]) rfl sc_story_text.nd (xi_seq rfl (xv 1)) (blkOk_by (N := ["story", "events", "event"]) (sc := defScope s_story_text) (by decide +kernel)) (by decide) ⟨_, fun _ _ _ _ _ => (pg_name (i := 2) sc_story_text.nd rfl (by first | exact Or.inl rfl | exact Or.inr rfl)), (snG_name 2)⟩ (fun _ _ _ _ _ => ts_nil) (fun _ _ _ _ _ => (xif (tcmp (c_eq rfl hr.units) (xix rfl (xv 2) xint (fun _ _ => rfl)) xstr (nomark _)) (xix rfl (xv 2) xint (fun _ _ => rfl)) (xv 2)))) xa_nil) rfl)))))
theorem ok__law_same (T : Txt K mg) : ∀ n : Nat, FnOk P w K mg base (L2.CX P w) (0 + n + 1) T.f__law_same T.d__law_same ["got", "due"] (spEv K (gs T) (F__law_same n) 2)
  | 0 => fnOk_bad
  | n + 1 => by
    have ih := ok__law_same T n
    exact fn_ev (N := ["got", "due", "mine", "its"]) (ev := E__law_same (F__law_same n)) T.F__law_same sc__law_same (fun cdv A outer s H E hr tk hpo => (xs_cons (xs_if (tvalT rfl (xisi2 (t := .list) (u := .tuple) rfl (by rfl) T.z_isinstance (by decide +kernel) (xv 1) (by rfl) T.z_list (by decide +kernel) rfl (by rfl) T.z_tuple (by decide +kernel) rfl)) (xs_cons (xs_if (PXT.pw (wor (tcmp (c_ne rfl hr.units) (xbi (isi_ok' rfl) ok_isi (by rfl) T.z_isinstance (by decide +kernel) (xa_cons (xv 0) (xa_cons (xty .list (by rfl) T.z_list (by decide +kernel) rfl) xa_nil))) (xbi (isi_ok' rfl) ok_isi (by rfl) T.z_isinstance (by decide +kernel) (xa_cons (xv 1) (xa_cons (xty .list (by rfl) T.z_list (by decide +kernel) rfl) xa_nil))) (nomark _)) (wor1 (tcmp (c_ne rfl hr.units) (xbi (isi_ok' rfl) ok_isi (by rfl) T.z_isinstance (by decide +kernel) (xa_cons (xv 0) (xa_cons (xty .tuple (by rfl) T.z_tuple (by decide +kernel) rfl) xa_nil))) (xbi (isi_ok' rfl) ok_isi (by rfl) T.z_isinstance (by decide +kernel) (xa_cons (xv 1) (xa_cons (xty .tuple (by rfl) T.z_tuple (by decide +kernel) rfl) xa_nil))) (nomark _))))) (xs_one (xs_ret xbl)) xs_next)
    (xs_one (xs_ret (xandT rfl (xcmp (c_eq rfl hr.units) (xbi (len_ok rfl) ok_len (by rfl) T.z_len (by decide +kernel) (xa_cons (xv 0) xa_nil)) (xbi (len_ok rfl) ok_len (by rfl) T.z_len (by decide +kernel) (xa_cons (xv 1) xa_nil)) (nomark _)) (xone (xbi (all_ok' rfl rfl) ok_all (by rfl) T.z_all (by decide +kernel) (xa_cons (xcomp (own := [("mine", 2), ("its", 3)]) rfl sc__law_same.nd (xi_zipX rfl (by rfl) T.z_zip (xa_cons (xv 0) (xa_cons (xv 1) xa_nil))) (blkOk_by (N := ["got", "due", "mine", "its"]) (sc := defScope s__law_same) (by decide +kernel)) (by decide) ⟨_, fun _ _ _ _ _ => (pg_tupX (n := 2) rfl (pgs_cons (pg_name (i := 2) sc__law_same.nd rfl (by first | exact Or.inl rfl | exact Or.inr rfl)) (pgs_cons (pg_name (i := 3) sc__law_same.nd rfl (by first | exact Or.inl rfl | exact Or.inr rfl)) pgs_nil))), (snG_tupX (n := 2) (snGs_cons (snG_name 2) (snGs_cons (snG_name 3) snGs_nil)))⟩ (fun _ _ _ _ _ => ts_nil) (fun _ _ _ _ _ => (xcall ih (hr.mono (by omega)) (by rfl) T.m__law_same T.F__law_same.kp T.b__law_same .nil (fun _ _ => .nil) takes0 (xa_cons (xv 2) (xa_cons (xv 3) xa_nil)) rfl))) xa_nil))))))) xs_next)
    (xs_cons (xs_if (PXT.pw (wor (tcmp c_is (xv 1) xnon (nomark _)) (wor1 (tvalT rfl (xisi2 (t := .bool) (u := .str) rfl (by rfl) T.z_isinstance (by decide +kernel) (xv 1) (by rfl) T.z_bool (by decide +kernel) rfl (by rfl) T.z_str (by decide +kernel) rfl))))) (xs_one (xs_ret (xandT rfl (xcmp (c_eq rfl hr.units) (xv 0) (xv 1) (nomark _)) (xandT rfl (xcmp (c_eq rfl hr.units) (xbi (isi_ok' rfl) ok_isi (by rfl) T.z_isinstance (by decide +kernel) (xa_cons (xv 0) (xa_cons (xty .bool (by rfl) T.z_bool (by decide +kernel) rfl) xa_nil))) (xbi (isi_ok' rfl) ok_isi (by rfl) T.z_isinstance (by decide +kernel) (xa_cons (xv 1) (xa_cons (xty .bool (by rfl) T.z_bool (by decide +kernel) rfl) xa_nil))) (nomark _)) (xone (xcmp (c_eq rfl hr.units) (xcmp c_is (xv 0) xnon (nomark _)) (xcmp c_is (xv 1) xnon (nomark _)) (nomark _))))))) xs_next)
    (xs_one (xs_ret (xandT rfl (xbi (isi_ok' rfl) ok_isi (by rfl) T.z_isinstance (by decide +kernel) (xa_cons (xv 0) (xa_cons (xty .int (by rfl) T.z_int (by decide +kernel) rfl) xa_nil))) (xandT rfl (xnot (xbi (isi_ok' rfl) ok_isi (by rfl) T.z_isinstance (by decide +kernel) (xa_cons (xv 0) (xa_cons (xty .bool (by rfl) T.z_bool (by decide +kernel) rfl) xa_nil)))) (xone (xcmp (c_eq rfl hr.units) (xv 0) (xv 1) (nomark _))))))))))
theorem ok__law_heard (T : Txt K mg) : FnOk P w K mg base (L2.CX P w) (20 + 1) T.f__law_heard T.d__law_heard ["door_so", "one_so", "two_so"] (spEv K (gs T) (F__law_heard) 3) := by
  exact fn_ev (N := ["door_so", "one_so", "two_so", "slip_so"]) (ev := E__law_heard) T.F__law_heard sc__law_heard (fun cdv A outer s H E hr tk hpo => (xs_one (xs_try rfl rfl rfl sc__law_heard.nd tk (fun W pn xe tk hpo => (xs_cons (xs_if (tcmp c_lt (xv 0) xint (nomark _)) (xs_one (xs_ret (xpick tk rfl (xix rfl (xlst (xa_cons (xglob (v := .ref T.f_parts_of) (by rfl) T.m_parts_of rfl (fun _ _ => rd_fn rfl)) (xa_cons (xglob (v := .ref T.f_row_of) (by rfl) T.m_row_of rfl (fun _ _ => rd_fn rfl)) (xa_cons (xglob (v := .ref T.f_keys_of) (by rfl) T.m_keys_of rfl (fun _ _ => rd_fn rfl)) (xa_cons (xglob (v := .ref T.f_closed_in) (by rfl) T.m_closed_in rfl (fun _ _ => rd_fn rfl)) (xa_cons (xglob (v := .ref T.f_left_begun) (by rfl) T.m_left_begun rfl (fun _ _ => rd_fn rfl)) xa_nil)))))) (xv 0) (fun _ _ => rfl)) (xa_cons (xv 1) xa_nil) (by intro j F e; unfold tab2__law_heard at e; split at e <;> first | (cases e; first | exact ⟨_, _, _, ok_parts_of T, hr.mono (by omega), T.F_parts_of.kp, T.b_parts_of⟩ | exact ⟨_, _, _, ok_row_of T, hr.mono (by omega), T.F_row_of.kp, T.b_row_of⟩ | exact ⟨_, _, _, ok_keys_of T, hr.mono (by omega), T.F_keys_of.kp, T.b_keys_of⟩ | exact ⟨_, _, _, ok_closed_in T, hr.mono (by omega), T.F_closed_in.kp, T.b_closed_in⟩ | exact ⟨_, _, _, ok_left_begun T, hr.mono (by omega), T.F_left_begun.kp, T.b_left_begun⟩) | cases e)))) xs_next)
    (xs_cons (xs_if (tcmp c_lt (xv 0) xint (nomark _)) (xs_one (xs_ret (xpick tk rfl (xix rfl (xlst (xa_cons (xglob (v := .ref T.f_with_single) (by rfl) T.m_with_single rfl (fun _ _ => rd_fn rfl)) (xa_cons (xglob (v := .ref T.f_with_deeds) (by rfl) T.m_with_deeds rfl (fun _ _ => rd_fn rfl)) xa_nil))) (xsub (xv 0) xint) (fun _ _ => rfl)) (xa_cons (xv 1) (xa_cons (xv 2) xa_nil)) (by intro j F e; unfold tab1__law_heard at e; split at e <;> first | (cases e; first | exact ⟨_, _, _, ok_with_single T, hr.mono (by omega), T.F_with_single.kp, T.b_with_single⟩ | exact ⟨_, _, _, ok_with_deeds T, hr.mono (by omega), T.F_with_deeds.kp, T.b_with_deeds⟩) | cases e)))) xs_next)
    (xs_one (xs_ret (xpick tk rfl (xix rfl (xlst (xa_cons (xglob (v := .ref T.f_device_text) (by rfl) T.m_device_text rfl (fun _ _ => rd_fn rfl)) (xa_cons (xglob (v := .ref T.f_life_text) (by rfl) T.m_life_text rfl (fun _ _ => rd_fn rfl)) (xa_cons (xglob (v := .ref T.f_story_text) (by rfl) T.m_story_text rfl (fun _ _ => rd_fn rfl)) xa_nil)))) (xsub (xv 0) xint) (fun _ _ => rfl)) (xa_cons (xv 1) xa_nil) (by intro j F e; unfold tab0__law_heard at e; split at e <;> first | (cases e; first | exact ⟨_, _, _, ok_device_text T, hr.mono (by omega), T.F_device_text.kp, T.b_device_text⟩ | exact ⟨_, _, _, ok_life_text T, hr.mono (by omega), T.F_life_text.kp, T.b_life_text⟩ | exact ⟨_, _, _, ok_story_text T, hr.mono (by omega), T.F_story_text.kp, T.b_story_text⟩) | cases e))))))) (.cons ⟨by rfl, by decide, .inl T.mC_Unfit⟩ rfl rfl (exm_Unfit T) (fun a oe cls d pn hz hf => (ys_ret (y_lst (ya_cons (y_px xstr) (ya_cons (y_isi (ix := 3) (f := isT_ValueError) rfl hz hf rfl (by first | exact Or.inl rfl | exact Or.inr (Or.inl rfl) | exact Or.inr (Or.inr rfl)) (okT_ValueError T) (by rfl) T.z_isinstance (by rfl) T.z_ValueError (by decide +kernel)) ya_nil))))) .nil))))
theorem ok__law_things_right (T : Txt K mg) : FnOk P w K mg base (L2.CX P w) (10 + 1) T.f__law_things_right T.d__law_things_right [] (spEv K (gs T) (F__law_things_right) 0) := by
  exact fn_ev (N := ["keys_so", "odds_so", "got", "own", "due", "notes_so", "one_so", "two_so", "acts_so", "lores_so"]) (ev := E__law_things_right) T.F__law_things_right sc__law_things_right (fun cdv A outer s H E hr tk hpo => (xs_cons (xs_set (i := 0) sc__law_things_right.nd rfl (by first | exact Or.inl rfl | exact Or.inr rfl) (xlst (xa_cons xstr (xa_cons xstr (xa_cons xstr (xa_cons xstr (xa_cons xstr (xa_cons xstr xa_nil))))))))
    (xs_cons (xs_set (i := 1) sc__law_things_right.nd rfl (by first | exact Or.inl rfl | exact Or.inr rfl) (xlst (xa_cons xstr (xa_cons xstr (xa_cons xstr (xa_cons xstr (xa_cons xstr (xa_cons xstr (xa_cons xstr (xa_cons xint (xa_cons xnon (xa_cons (xtup (xa_cons xstr xa_nil)) (xa_cons (xlst (xa_cons xstr xa_nil)) (xa_cons xbl xa_nil))))))))))))))
    (xs_cons (xs_set (i := 2) sc__law_things_right.nd rfl (by first | exact Or.inl rfl | exact Or.inr rfl) (xlstM (xa_cons (xcomp (own := [("own", 3)]) rfl sc__law_things_right.nd (xi_seq rfl (xadd rfl (xv 0) (xv 1))) (blkOk_by (N := ["keys_so", "odds_so", "got", "own", "due", "notes_so", "one_so", "two_so", "acts_so", "lores_so"]) (sc := defScope s__law_things_right) (by decide +kernel)) (by decide) ⟨_, fun _ _ _ _ _ => (pg_name (i := 3) sc__law_things_right.nd rfl (by first | exact Or.inl rfl | exact Or.inr rfl)), (snG_name 3)⟩ (fun _ _ _ _ _ => ts_nil) (fun _ _ _ _ _ => (xcall (ok_is_key T) (hr.mono (by omega)) (by rfl) T.m_is_key T.F_is_key.kp T.b_is_key .nil (fun _ _ => .nil) takes0 (xa_cons (xv 3) xa_nil) rfl))) (xa_cons (xcomp (own := [("own", 3)]) rfl sc__law_things_right.nd (xi_seq rfl (xadd rfl (xlst (xa_cons xstr (xa_cons xstr (xa_cons xstr (xa_cons xstr xa_nil))))) (xv 1))) (blkOk_by (N := ["keys_so", "odds_so", "got", "own", "due", "notes_so", "one_so", "two_so", "acts_so", "lores_so"]) (sc := defScope s__law_things_right) (by decide +kernel)) (by decide) ⟨_, fun _ _ _ _ _ => (pg_name (i := 3) sc__law_things_right.nd rfl (by first | exact Or.inl rfl | exact Or.inr rfl)), (snG_name 3)⟩ (fun _ _ _ _ _ => ts_nil) (fun _ _ _ _ _ => (xcall (ok_is_word T) (hr.mono (by omega)) (by rfl) T.m_is_word T.F_is_word.kp T.b_is_word .nil (fun _ _ => .nil) takes0 (xa_cons (xv 3) xa_nil) rfl))) xa_nil))))
    (xs_cons (xs_set (i := 4) sc__law_things_right.nd rfl (by first | exact Or.inl rfl | exact Or.inr rfl) (xlstM (xa_cons (xadd rfl (xmulT rfl (xlst (xa_cons xbl xa_nil)) xint) (xmulT rfl (xlst (xa_cons xbl xa_nil)) xint)) (xa_cons (xadd rfl (xmulT rfl (xlst (xa_cons xbl xa_nil)) xint) (xmulT rfl (xlst (xa_cons xbl xa_nil)) xint)) xa_nil))))
    (xs_cons (xs_set (i := 5) sc__law_things_right.nd rfl (by first | exact Or.inl rfl | exact Or.inr rfl) (xlst (xa_cons (xtup (xa_cons xstr xa_nil)) (xa_cons (xtup (xa_cons xstr (xa_cons xstr (xa_cons xstr (xa_cons xint (xa_cons xint xa_nil)))))) (xa_cons (xtup (xa_cons xstr (xa_cons xstr (xa_cons xstr (xa_cons xint (xa_cons xint xa_nil)))))) (xa_cons (xtup (xa_cons xstr (xa_cons xstr (xa_cons xint (xa_cons xint xa_nil))))) xa_nil))))))
    (xs_cons (xs_set (i := 1) sc__law_things_right.nd rfl (by first | exact Or.inl rfl | exact Or.inr rfl) (xlst (xa_cons (xtup xa_nil) (xa_cons (xtup (xa_cons xstr (xa_cons xint xa_nil))) (xa_cons (xlst (xa_cons xstr xa_nil)) (xa_cons (xtup (xa_cons xstr (xa_cons xstr (xa_cons xstr xa_nil)))) (xa_cons (xtup (xa_cons xstr (xa_cons xstr (xa_cons xstr (xa_cons xint xa_nil))))) (xa_cons (xtup (xa_cons xstr (xa_cons xstr (xa_cons xstr (xa_cons xint (xa_cons xint xa_nil)))))) (xa_cons (xtup (xa_cons xstr (xa_cons xstr (xa_cons xstr (xa_cons (xneg xint) (xa_cons xint xa_nil)))))) (xa_cons xnon xa_nil))))))))))
    (xs_cons (xs_set (i := 1) sc__law_things_right.nd rfl (by first | exact Or.inl rfl | exact Or.inr rfl) (xadd rfl (xv 1) (xlst (xa_cons (xtup (xa_cons xstr (xa_cons xstr (xa_cons xstr (xa_cons xint (xa_cons xbl xa_nil)))))) (xa_cons (xtup (xa_cons xstr (xa_cons xstr (xa_cons xstr (xa_cons xint (xa_cons xint xa_nil)))))) (xa_cons (xtup (xa_cons xstr (xa_cons xstr xa_nil))) (xa_cons xstr (xa_cons (xtup (xa_cons xstr (xa_cons (xtup xa_nil) (xa_cons xint (xa_cons xint xa_nil))))) (xa_cons (xtup (xa_cons xint xa_nil)) (xa_cons (xtup (xa_cons xstr (xa_cons (xlst (xa_cons xstr xa_nil)) (xa_cons xint (xa_cons xint xa_nil))))) xa_nil))))))))))
    (xs_cons (xs_expr (xapp rfl (xv 2) (xcomp (own := [("own", 3)]) rfl sc__law_things_right.nd (xi_seq rfl (xadd rfl (xv 5) (xv 1))) (blkOk_by (N := ["keys_so", "odds_so", "got", "own", "due", "notes_so", "one_so", "two_so", "acts_so", "lores_so"]) (sc := defScope s__law_things_right) (by decide +kernel)) (by decide) ⟨_, fun _ _ _ _ _ => (pg_name (i := 3) sc__law_things_right.nd rfl (by first | exact Or.inl rfl | exact Or.inr rfl)), (snG_name 3)⟩ (fun _ _ _ _ _ => ts_nil) (fun _ _ _ _ _ => (xcall (ok_is_record T) (hr.mono (by omega)) (by rfl) T.m_is_record T.F_is_record.kp T.b_is_record .nil (fun _ _ => .nil) takes0 (xa_cons (xv 3) xa_nil) rfl)))))
    (xs_cons (xs_expr (xapp rfl (xv 4) (xadd rfl (xmulT rfl (xlst (xa_cons xbl xa_nil)) xint) (xmulT rfl (xlst (xa_cons xbl xa_nil)) xint))))
    (xs_cons (xs_asg (xtup (xa_cons (xtup (xa_cons xstr (xa_cons xstr (xa_cons xstr xa_nil)))) (xa_cons (xtup (xa_cons xstr (xa_cons xstr xa_nil))) xa_nil))) ⟨_, (pg_tupX (n := 2) rfl (pgs_cons (pg_name (i := 6) sc__law_things_right.nd rfl (by first | exact Or.inl rfl | exact Or.inr rfl)) (pgs_cons (pg_name (i := 7) sc__law_things_right.nd rfl (by first | exact Or.inl rfl | exact Or.inr rfl)) pgs_nil))), (snG_tupX (n := 2) (snGs_cons (snG_name 6) (snGs_cons (snG_name 7) snGs_nil)))⟩)
    (xs_cons (xs_set (i := 8) sc__law_things_right.nd rfl (by first | exact Or.inl rfl | exact Or.inr rfl) (xlst (xa_cons (xv 6) (xa_cons (xv 7) (xa_cons (xtup (xa_cons xstr (xa_cons (xtup (xa_cons (xv 6) (xa_cons (xv 7) xa_nil))) xa_nil))) (xa_cons (xtup (xa_cons xstr (xa_cons (xtup (xa_cons (xv 7) (xa_cons (xv 7) (xa_cons (xv 7) xa_nil)))) xa_nil))) xa_nil))))))
    (xs_cons (xs_set (i := 1) sc__law_things_right.nd rfl (by first | exact Or.inl rfl | exact Or.inr rfl) (xlst (xa_cons (xtup (xa_cons xstr (xa_cons (xtup xa_nil) xa_nil))) (xa_cons (xtup (xa_cons xstr (xa_cons (xtup (xa_cons (xv 6) xa_nil)) xa_nil))) (xa_cons (xtup (xa_cons xstr (xa_cons (xlst (xa_cons (xv 6) (xa_cons (xv 7) xa_nil))) xa_nil))) (xa_cons (xtup (xa_cons xstr (xa_cons (xv 6) (xa_cons (xv 7) xa_nil)))) (xa_cons (xlst (xa_cons xstr (xa_cons xstr xa_nil))) (xa_cons (xtup (xa_cons xstr xa_nil)) (xa_cons xnon (xa_cons xstr xa_nil))))))))))
    (xs_cons (xs_set (i := 1) sc__law_things_right.nd rfl (by first | exact Or.inl rfl | exact Or.inr rfl) (xadd rfl (xv 1) (xlst (xa_cons (xtup (xa_cons xstr (xa_cons (xtup (xa_cons (xv 6) (xa_cons (xtup (xa_cons xstr (xa_cons (xtup (xa_cons (xv 6) (xa_cons (xv 7) xa_nil))) xa_nil))) xa_nil))) xa_nil))) (xa_cons (xtup (xa_cons xstr xa_nil)) (xa_cons (xtup (xa_cons xstr (xa_cons xstr (xa_cons xstr xa_nil)))) (xa_cons (xtup (xa_cons xstr (xa_cons xstr (xa_cons xstr (xa_cons xint (xa_cons xint xa_nil)))))) (xa_cons (xtup (xa_cons (xlst (xa_cons xstr xa_nil)) (xa_cons (xv 6) xa_nil))) xa_nil))))))))
    (xs_cons (xs_expr (xapp rfl (xv 2) (xcomp (own := [("own", 3)]) rfl sc__law_things_right.nd (xi_seq rfl (xadd rfl (xv 8) (xv 1))) (blkOk_by (N := ["keys_so", "odds_so", "got", "own", "due", "notes_so", "one_so", "two_so", "acts_so", "lores_so"]) (sc := defScope s__law_things_right) (by decide +kernel)) (by decide) ⟨_, fun _ _ _ _ _ => (pg_name (i := 3) sc__law_things_right.nd rfl (by first | exact Or.inl rfl | exact Or.inr rfl)), (snG_name 3)⟩ (fun _ _ _ _ _ => ts_nil) (fun _ _ _ _ _ => (xcall (ok_is_deed T) (hr.mono (by omega)) (by rfl) T.m_is_deed T.F_is_deed.kp T.b_is_deed .nil (fun _ _ => .nil) takes0 (xa_cons (xv 3) xa_nil) rfl)))))
    (xs_cons (xs_expr (xapp rfl (xv 4) (xadd rfl (xmulT rfl (xlst (xa_cons xbl xa_nil)) xint) (xmulT rfl (xlst (xa_cons xbl xa_nil)) xint))))
    (xs_cons (xs_set (i := 9) sc__law_things_right.nd rfl (by first | exact Or.inl rfl | exact Or.inr rfl) (xlst (xa_cons (xtup xa_nil) (xa_cons (xtup (xa_cons (xtup (xa_cons xstr (xa_cons xstr xa_nil))) xa_nil)) (xa_cons (xtup (xa_cons (xtup (xa_cons xstr (xa_cons xstr xa_nil))) (xa_cons (xtup (xa_cons xstr (xa_cons xstr xa_nil))) (xa_cons (xtup (xa_cons xstr (xa_cons xstr xa_nil))) xa_nil)))) xa_nil)))))
    (xs_cons (xs_set (i := 1) sc__law_things_right.nd rfl (by first | exact Or.inl rfl | exact Or.inr rfl) (xlst (xa_cons (xtup (xa_cons (xtup (xa_cons xstr (xa_cons xstr xa_nil))) (xa_cons (xtup (xa_cons xstr (xa_cons xstr xa_nil))) xa_nil))) (xa_cons (xtup (xa_cons (xtup (xa_cons xstr (xa_cons xstr xa_nil))) (xa_cons (xtup (xa_cons xstr (xa_cons xstr xa_nil))) xa_nil))) (xa_cons (xlst (xa_cons (xtup (xa_cons xstr (xa_cons xstr xa_nil))) xa_nil)) (xa_cons (xtup (xa_cons (xlst (xa_cons xstr (xa_cons xstr xa_nil))) xa_nil)) (xa_cons (xtup (xa_cons (xtup (xa_cons xstr (xa_cons xstr xa_nil))) xa_nil)) (xa_cons (xtup (xa_cons (xtup (xa_cons xstr xa_nil)) xa_nil)) (xa_cons xnon (xa_cons (xtup (xa_cons xstr (xa_cons xstr xa_nil))) (xa_cons xdnew xa_nil)))))))))))
    (xs_cons (xs_expr (xapp rfl (xv 2) (xcomp (own := [("own", 3)]) rfl sc__law_things_right.nd (xi_seq rfl (xadd rfl (xv 9) (xsl rfl (xv 1) xo_none (xo_some (xneg xint))))) (blkOk_by (N := ["keys_so", "odds_so", "got", "own", "due", "notes_so", "one_so", "two_so", "acts_so", "lores_so"]) (sc := defScope s__law_things_right) (by decide +kernel)) (by decide) ⟨_, fun _ _ _ _ _ => (pg_name (i := 3) sc__law_things_right.nd rfl (by first | exact Or.inl rfl | exact Or.inr rfl)), (snG_name 3)⟩ (fun _ _ _ _ _ => ts_nil) (fun _ _ _ _ _ => (xcall (ok_is_table T) (hr.mono (by omega)) (by rfl) T.m_is_table T.F_is_table.kp T.b_is_table .nil (fun _ _ => .nil) takes0 (xa_cons (xv 3) xa_nil) rfl)))))
    (xs_one (xs_ret (xcallZ (ok__law_same T 9) (hr.mono (by omega)) (by rfl) T.m__law_same T.F__law_same.kp T.b__law_same .nil (fun _ _ => .nil) tk (xa_cons (xv 2) (xa_cons (xadd rfl (xv 4) (xlst (xa_cons (xadd rfl (xmulT rfl (xlst (xa_cons xbl xa_nil)) xint) (xmulT rfl (xlst (xa_cons xbl xa_nil)) xint)) xa_nil))) xa_nil)) rfl))))))))))))))))))))))
theorem ok__law_long_right (T : Txt K mg) : FnOk P w K mg base (L2.CX P w) (18 + 1) T.f__law_long_right T.d__law_long_right [] (spEv K (gs T) (F__law_long_right) 0) := by
  exact fn_ev (N := ["six_so", "own", "got", "due"]) (ev := E__law_long_right) T.F__law_long_right sc__law_long_right (fun cdv A outer s H E hr tk hpo => (xs_cons (xs_set (i := 0) sc__law_long_right.nd rfl (by first | exact Or.inl rfl | exact Or.inr rfl) (xtup (xa_cons xstr (xa_cons (xbt (tuple2_ok rfl rfl) ok_tuple2 (by rfl) T.z_tuple (by decide +kernel) (xa_cons (xcomp (own := [("own", 1)]) rfl sc__law_long_right.nd (xi_seq rfl xstr) (blkOk_by (N := ["six_so", "own", "got", "due"]) (sc := defScope s__law_long_right) (by decide +kernel)) (by decide) ⟨_, fun _ _ _ _ _ => (pg_name (i := 1) sc__law_long_right.nd rfl (by first | exact Or.inl rfl | exact Or.inr rfl)), (snG_name 1)⟩ (fun _ _ _ _ _ => ts_nil) (fun _ _ _ _ _ => (xtup (xa_cons xstr (xa_cons (xv 1) xa_nil))))) xa_nil)) xa_nil))))
    (xs_cons (xs_set (i := 2) sc__law_long_right.nd rfl (by first | exact Or.inl rfl | exact Or.inr rfl) (xadd rfl (xcomp (own := [("own", 1)]) rfl sc__law_long_right.nd (xi_seq rfl (xtup (xa_cons xint (xa_cons xint (xa_cons xint (xa_cons xint xa_nil)))))) (blkOk_by (N := ["six_so", "own", "got", "due"]) (sc := defScope s__law_long_right) (by decide +kernel)) (by decide) ⟨_, fun _ _ _ _ _ => (pg_name (i := 1) sc__law_long_right.nd rfl (by first | exact Or.inl rfl | exact Or.inr rfl)), (snG_name 1)⟩ (fun _ _ _ _ _ => ts_nil) (fun _ _ _ _ _ => (xcall (ok_is_deed T) (hr.mono (by omega)) (by rfl) T.m_is_deed T.F_is_deed.kp T.b_is_deed .nil (fun _ _ => .nil) takes0 (xa_cons (xtup (xa_cons xstr (xa_cons (xmulT rfl (xtup (xa_cons (xtup (xa_cons xstr (xa_cons xstr xa_nil))) xa_nil)) (xv 1)) xa_nil))) xa_nil) rfl))) (xlst (xa_cons (xix rfl (xcall (ok_parts_of T) (hr.mono (by omega)) (by rfl) T.m_parts_of T.F_parts_of.kp T.b_parts_of .nil (fun _ _ => .nil) tk (xa_cons (xv 0) xa_nil) rfl) xint (fun _ _ => rfl)) (xa_cons (xix rfl (xcall (ok_parts_of T) (hr.mono (by omega)) (by rfl) T.m_parts_of T.F_parts_of.kp T.b_parts_of .nil (fun _ _ => .nil) tk (xa_cons (xv 0) xa_nil) rfl) xint (fun _ _ => rfl)) xa_nil)))))
    (xs_cons (xs_set (i := 2) sc__law_long_right.nd rfl (by first | exact Or.inl rfl | exact Or.inr rfl) (xadd rfl (xv 2) (xlst (xa_cons (xcall (ok_closed_in T) (hr.mono (by omega)) (by rfl) T.m_closed_in T.F_closed_in.kp T.b_closed_in .nil (fun _ _ => .nil) tk (xa_cons (xcall (ok_parts_of T) (hr.mono (by omega)) (by rfl) T.m_parts_of T.F_parts_of.kp T.b_parts_of .nil (fun _ _ => .nil) tk (xa_cons (xv 0) xa_nil) rfl) xa_nil) rfl) (xa_cons (xcall (ok_left_begun T) (hr.mono (by omega)) (by rfl) T.m_left_begun T.F_left_begun.kp T.b_left_begun .nil (fun _ _ => .nil) tk (xa_cons (xsl rfl (xcall (ok_parts_of T) (hr.mono (by omega)) (by rfl) T.m_parts_of T.F_parts_of.kp T.b_parts_of .nil (fun _ _ => .nil) tk (xa_cons (xv 0) xa_nil) rfl) xo_none (xo_some xint)) xa_nil) rfl) (xa_cons (xcall (ok_keys_of T) (hr.mono (by omega)) (by rfl) T.m_keys_of T.F_keys_of.kp T.b_keys_of .nil (fun _ _ => .nil) tk (xa_cons (xv 0) xa_nil) rfl) xa_nil))))))
    (xs_cons (xs_set (i := 2) sc__law_long_right.nd rfl (by first | exact Or.inl rfl | exact Or.inr rfl) (xadd rfl (xv 2) (xlst (xa_cons (xcall (ok_is_record T) (hr.mono (by omega)) (by rfl) T.m_is_record T.F_is_record.kp T.b_is_record .nil (fun _ _ => .nil) tk (xa_cons (xtup (xa_cons xstr (xa_cons xstr (xa_cons xint (xa_cons xint xa_nil))))) xa_nil) rfl) (xa_cons (xcall (ok_with_deeds T) (hr.mono (by omega)) (by rfl) T.m_with_deeds T.F_with_deeds.kp T.b_with_deeds .nil (fun _ _ => .nil) tk (xa_cons (xtup (xa_cons (xtup (xa_cons xstr (xa_cons xstr xa_nil))) (xa_cons (xtup (xa_cons xstr (xa_cons xstr xa_nil))) xa_nil))) (xa_cons (xtup (xa_cons (xv 0) xa_nil)) xa_nil)) rfl) xa_nil)))))
    (xs_cons (xs_set (i := 3) sc__law_long_right.nd rfl (by first | exact Or.inl rfl | exact Or.inr rfl) (xadd rfl (xmulT rfl (xlst (xa_cons xbl xa_nil)) xint) (xlst (xa_cons (xtup (xa_cons xstr (xa_cons xstr (xa_cons xint (xa_cons xint xa_nil))))) (xa_cons (xtup (xa_cons xstr (xa_cons xstr (xa_cons xint (xa_cons xint xa_nil))))) (xa_cons (xlst (xa_cons (xtup (xa_cons xint (xa_cons (xix rfl (xv 0) xint (fun _ _ => rfl)) xa_nil))) xa_nil)) (xa_cons xint (xa_cons (xbt (tuple2_ok rfl rfl) ok_tuple2 (by rfl) T.z_tuple (by decide +kernel) (xa_cons xstr xa_nil)) (xa_cons xbl (xa_cons (xtup (xa_cons (xtup (xa_cons xstr (xa_cons xstr xa_nil))) xa_nil)) xa_nil))))))))))
    (xs_one (xs_ret (xcall (ok__law_same T 9) (hr.mono (by omega)) (by rfl) T.m__law_same T.F__law_same.kp T.b__law_same .nil (fun _ _ => .nil) tk (xa_cons (xv 2) (xa_cons (xv 3) xa_nil)) rfl)))))))))
theorem ok__law_refused_right (T : Txt K mg) : FnOk P w K mg base (L2.CX P w) (21 + 1) T.f__law_refused_right T.d__law_refused_right [] (spEv K (gs T) (F__law_refused_right) 0) := by
  exact fn_ev (N := ["one_so", "unfit_so", "asks_so", "own", "got"]) (ev := E__law_refused_right) T.F__law_refused_right sc__law_refused_right (fun cdv A outer s H E hr tk hpo => (xs_cons (xs_par (i := 0) (j := 1) rfl sc__law_refused_right.nd rfl rfl (by decide) rfl rfl (xa_cons (xtup (xa_cons xstr (xa_cons xstr (xa_cons xstr xa_nil)))) (xa_cons (xlst (xa_cons xstr (xa_cons xbl xa_nil))) xa_nil)) (by rfl))
    (xs_cons (xs_set (i := 2) sc__law_refused_right.nd rfl (by first | exact Or.inl rfl | exact Or.inr rfl) (xlst (xa_cons (xtup (xa_cons xint (xa_cons (xtup (xa_cons xstr (xa_cons (xtup (xa_cons (xv 0) xa_nil)) xa_nil))) (xa_cons xnon xa_nil)))) (xa_cons (xtup (xa_cons xint (xa_cons xnon (xa_cons xnon xa_nil)))) (xa_cons (xtup (xa_cons xint (xa_cons (xtup (xa_cons (xv 0) (xa_cons xint xa_nil))) (xa_cons xnon xa_nil)))) (xa_cons (xtup (xa_cons xint (xa_cons (xv 0) (xa_cons xnon xa_nil)))) (xa_cons (xtup (xa_cons xint (xa_cons xnon (xa_cons xnon xa_nil)))) (xa_cons (xtup (xa_cons xint (xa_cons (xtup (xa_cons xstr xa_nil)) (xa_cons xnon xa_nil)))) xa_nil))))))))
    (xs_cons (xs_set (i := 2) sc__law_refused_right.nd rfl (by first | exact Or.inl rfl | exact Or.inr rfl) (xadd rfl (xv 2) (xlst (xa_cons (xtup (xa_cons xint (xa_cons (xtup (xa_cons (xtup (xa_cons xstr (xa_cons xstr (xa_cons xstr xa_nil)))) xa_nil)) (xa_cons xnon xa_nil)))) (xa_cons (xtup (xa_cons xint (xa_cons xstr (xa_cons xnon xa_nil)))) (xa_cons (xtup (xa_cons xint (xa_cons (xtup (xa_cons (xtup xa_nil) xa_nil)) (xa_cons xnon xa_nil)))) (xa_cons (xtup (xa_cons xint (xa_cons xint (xa_cons xnon xa_nil)))) (xa_cons (xtup (xa_cons xint (xa_cons (xtup (xa_cons (xtup (xa_cons xstr (xa_cons xstr xa_nil))) (xa_cons (xtup (xa_cons xstr (xa_cons xstr xa_nil))) xa_nil))) (xa_cons (xv 0) xa_nil)))) xa_nil))))))))
    (xs_cons (xs_set (i := 2) sc__law_refused_right.nd rfl (by first | exact Or.inl rfl | exact Or.inr rfl) (xadd rfl (xv 2) (xlst (xa_cons (xtup (xa_cons xint (xa_cons (xtup xa_nil) (xa_cons (xv 0) xa_nil)))) (xa_cons (xtup (xa_cons xint (xa_cons (xtup (xa_cons (xtup (xa_cons xstr (xa_cons xint xa_nil))) xa_nil)) (xa_cons (xtup xa_nil) xa_nil)))) (xa_cons (xtup (xa_cons xint (xa_cons (xtup (xa_cons (xtup (xa_cons xint (xa_cons xint (xa_cons xint xa_nil)))) (xa_cons (xtup xa_nil) (xa_cons (xtup xa_nil) xa_nil)))) (xa_cons xnon xa_nil)))) (xa_cons (xtup (xa_cons xint (xa_cons xnon (xa_cons xnon xa_nil)))) xa_nil)))))))
    (xs_cons (xs_set (i := 2) sc__law_refused_right.nd rfl (by first | exact Or.inl rfl | exact Or.inr rfl) (xadd rfl (xv 2) (xlst (xa_cons (xtup (xa_cons xint (xa_cons (xtup (xa_cons (xtup (xa_cons xstr xa_nil)) xa_nil)) (xa_cons xnon xa_nil)))) (xa_cons (xtup (xa_cons xint (xa_cons (xtup (xa_cons (xtup (xa_cons xstr (xa_cons (xv 0) xa_nil))) xa_nil)) (xa_cons xnon xa_nil)))) (xa_cons (xtup (xa_cons xint (xa_cons (xtup (xa_cons (xtup (xa_cons xstr (xa_cons (xtup (xa_cons xstr xa_nil)) xa_nil))) xa_nil)) (xa_cons xnon xa_nil)))) (xa_cons (xtup (xa_cons xint (xa_cons xnon (xa_cons xnon xa_nil)))) xa_nil)))))))
    (xs_cons (xs_set (i := 2) sc__law_refused_right.nd rfl (by first | exact Or.inl rfl | exact Or.inr rfl) (xadd rfl (xv 2) (xlst (xa_cons (xtup (xa_cons xint (xa_cons (xtup (xa_cons (xtup (xa_cons xstr (xa_cons (xtup (xa_cons xstr xa_nil)) xa_nil))) xa_nil)) (xa_cons xnon xa_nil)))) (xa_cons (xtup (xa_cons xint (xa_cons (xtup (xa_cons (xtup (xa_cons xstr (xa_cons (xtup xa_nil) xa_nil))) (xa_cons (xtup (xa_cons xstr xa_nil)) xa_nil))) (xa_cons xnon xa_nil)))) (xa_cons (xtup (xa_cons xint (xa_cons (xtup (xa_cons (xtup (xa_cons xstr (xa_cons (xneg xint) (xa_cons (xtup xa_nil) xa_nil)))) xa_nil)) (xa_cons xnon xa_nil)))) (xa_cons (xtup (xa_cons xint (xa_cons (xtup (xa_cons (xtup (xa_cons xstr (xa_cons xint xa_nil))) xa_nil)) (xa_cons xnon xa_nil)))) xa_nil)))))))
    (xs_cons (xs_set (i := 2) sc__law_refused_right.nd rfl (by first | exact Or.inl rfl | exact Or.inr rfl) (xadd rfl (xv 2) (xlst (xa_cons (xtup (xa_cons xint (xa_cons (xtup (xa_cons (xtup (xa_cons xstr (xa_cons (xtup xa_nil) xa_nil))) (xa_cons (xtup (xa_cons xstr (xa_cons xbl (xa_cons (xtup xa_nil) xa_nil)))) xa_nil))) (xa_cons xnon xa_nil)))) (xa_cons (xtup (xa_cons xint (xa_cons (xtup (xa_cons (xtup (xa_cons xstr (xa_cons (xtup xa_nil) xa_nil))) (xa_cons (xtup (xa_cons xstr (xa_cons (xtup xa_nil) xa_nil))) xa_nil))) (xa_cons xnon xa_nil)))) (xa_cons (xtup (xa_cons xint (xa_cons xstr (xa_cons xnon xa_nil)))) xa_nil))))))
    (xs_cons (xs_if (tnot (tvalT rfl (xcall (ok__law_same T 9) (hr.mono (by omega)) (by rfl) T.m__law_same T.F__law_same.kp T.b__law_same .nil (fun _ _ => .nil) tk (xa_cons (xcomp (own := [("own", 3)]) rfl sc__law_refused_right.nd (xi_seq rfl (xv 2)) (blkOk_by (N := ["one_so", "unfit_so", "asks_so", "own", "got"]) (sc := defScope s__law_refused_right) (by decide +kernel)) (by decide) ⟨_, fun _ _ _ _ _ => (pg_name (i := 3) sc__law_refused_right.nd rfl (by first | exact Or.inl rfl | exact Or.inr rfl)), (snG_name 3)⟩ (fun _ _ _ _ _ => ts_nil) (fun _ _ _ _ _ => (xcall (ok__law_heard T) (hr.mono (by omega)) (by rfl) T.m__law_heard T.F__law_heard.kp T.b__law_heard .nil (fun _ _ => .nil) takes0 (xa_cons (xix rfl (xv 3) xint (fun _ _ => rfl)) (xa_cons (xix rfl (xv 3) xint (fun _ _ => rfl)) (xa_cons (xix rfl (xv 3) xint (fun _ _ => rfl)) xa_nil))) rfl))) (xa_cons (xmulT rfl (xlst (xa_cons (xv 1) xa_nil)) (xbi (len_ok rfl) ok_len (by rfl) T.z_len (by decide +kernel) (xa_cons (xv 2) xa_nil))) xa_nil)) rfl))) (xs_one (xs_ret xbl)) xs_next)
    (xs_cons (xs_set (i := 4) sc__law_refused_right.nd rfl (by first | exact Or.inl rfl | exact Or.inr rfl) (xlst (xa_cons (xcallK0 (ok_row_of T) (hr.mono (by omega)) (by rfl) T.m_row_of T.F_row_of.kp (kb_row_of_0_deeds T) tk (xk_cons (xlst (xa_cons (xbt (list_ok' rfl) ok_list (by rfl) T.z_list (by decide +kernel) (xa_cons (xv 0) xa_nil)) xa_nil)) xk_nil) rfl (fun ds hl => by match ds, hl with | [d0], _ => rfl)) (xa_cons (xcall (ok_row_of T) (hr.mono (by omega)) (by rfl) T.m_row_of T.F_row_of.kp T.b_row_of .nil (fun _ _ => .nil) tk (xa_cons (xtup xa_nil) xa_nil) rfl) (xa_cons (xcallK0 (ok_closed_in T) (hr.mono (by omega)) (by rfl) T.m_closed_in T.F_closed_in.kp (kb_closed_in_0_records T) tk (xk_cons (xlst xa_nil) xk_nil) rfl (fun ds hl => by match ds, hl with | [d0], _ => rfl)) (xa_cons (xcallK0 (ok_left_begun T) (hr.mono (by omega)) (by rfl) T.m_left_begun T.F_left_begun.kp (kb_left_begun_0_records T) tk (xk_cons (xtup xa_nil) xk_nil) rfl (fun ds hl => by match ds, hl with | [d0], _ => rfl)) (xa_cons (xcallK0 (ok_with_deeds T) (hr.mono (by omega)) (by rfl) T.m_with_deeds T.F_with_deeds.kp (kb_with_deeds_0_deeds_table T) tk (xk_cons (xtup xa_nil) (xk_cons (xlst (xa_cons (xlst (xa_cons xstr (xa_cons xstr xa_nil))) xa_nil)) xk_nil)) rfl (fun ds hl => by match ds, hl with | [d0, d1], _ => rfl)) xa_nil)))))))
    (xs_cons (xs_set (i := 4) sc__law_refused_right.nd rfl (by first | exact Or.inl rfl | exact Or.inr rfl) (xadd rfl (xv 4) (xlst (xa_cons (xcallK0 (ok_story_text T) (hr.mono (by omega)) (by rfl) T.m_story_text T.F_story_text.kp (kb_story_text_0_story T) tk (xk_cons (xlst (xa_cons (xlst (xa_cons xstr (xa_cons (xlst xa_nil) xa_nil))) (xa_cons (xlst (xa_cons xstr (xa_cons xint (xa_cons (xlst (xa_cons xstr xa_nil)) xa_nil)))) xa_nil))) xk_nil) rfl (fun ds hl => by match ds, hl with | [d0], _ => rfl)) (xa_cons (xcallK0 (ok_life_text T) (hr.mono (by omega)) (by rfl) T.m_life_text T.F_life_text.kp (kb_life_text_0_life T) tk (xk_cons (xlst (xa_cons (xlst (xa_cons xstr (xa_cons (xlst (xa_cons xstr xa_nil)) xa_nil))) xa_nil)) xk_nil) rfl (fun ds hl => by match ds, hl with | [d0], _ => rfl)) (xa_cons (xcall (ok_with_single T) (hr.mono (by omega)) (by rfl) T.m_with_single T.F_with_single.kp T.b_with_single .nil (fun _ _ => .nil) tk (xa_cons (xtup xa_nil) (xa_cons (xlst (xa_cons xstr (xa_cons xstr xa_nil))) xa_nil)) rfl) xa_nil))))))
    (xs_one (xs_ret (xcall (ok__law_same T 9) (hr.mono (by omega)) (by rfl) T.m__law_same T.F__law_same.kp T.b__law_same .nil (fun _ _ => .nil) tk (xa_cons (xv 4) (xa_cons (xlst (xa_cons (xtup (xa_cons (xtup (xa_cons xstr (xa_cons xstr (xa_cons xstr (xa_cons xint (xa_cons xint xa_nil)))))) xa_nil)) (xa_cons (xtup xa_nil) (xa_cons (xlst xa_nil) (xa_cons xint (xa_cons (xtup (xa_cons (xtup (xa_cons xstr (xa_cons xstr xa_nil))) xa_nil)) (xa_cons xstr (xa_cons xstr (xa_cons (xtup xa_nil) xa_nil))))))))) xa_nil)) rfl))))))))))))))
theorem ok_law (T : Txt K mg) : FnOk P w K mg base (L2.CX P w) (22 + 1) T.f_law T.d_law ["script"] (spEv K (gs T) (F_law) 1) := by
  exact fn_ev (N := ["script"]) (ev := E_law) T.F_law sc_law (fun cdv A outer s H E hr tk hpo => (xs_one (xs_ret (xandT rfl (xcall0 (ok__law_things_right T) (hr.mono (by omega)) (by rfl) T.m__law_things_right T.F__law_things_right.kp T.b__law_things_right .nil (fun _ _ => .nil) rfl) (xandT rfl (xcall0 (ok__law_long_right T) (hr.mono (by omega)) (by rfl) T.m__law_long_right T.F__law_long_right.kp T.b__law_long_right .nil (fun _ _ => .nil) rfl) (xone (xcall0 (ok__law_refused_right T) (hr.mono (by omega)) (by rfl) T.m__law_refused_right T.F__law_refused_right.kp T.b__law_refused_right .nil (fun _ _ => .nil) rfl)))))))
end
end LW

set_option maxRecDepth 1000000
set_option maxHeartbeats 0
namespace LW
open PySem EV
theorem runB_cut {n : Nat} {body : ES} {ds : List D} {hp xs : List O} {d : D} (h : body (startE n ds) hp = .rt d (hp ++ xs)) (hc : cutOk hp.length hp = true) (hb : below hp.length d = true) : runB n body ds hp = .ok d hp := by
  unfold runB
  rw [h]
  show trunc hp.length d (hp ++ xs) = _
  unfold trunc
  split
  · rename_i e
    have : xs = [] := by
      rw [List.length_append] at e
      exact List.eq_nil_of_length_eq_zero (by omega)
    subst this
    rw [List.append_nil]
  · rw [if_pos (cutOk_app hc), List.take_left' rfl]
theorem r_things : F__law_things_right [] [] = .ok (.bl true) [] := by kernel_rfl
theorem r_long : F__law_long_right [] [] = .ok (.bl true) [] := by kernel_rfl
theorem r_refused : F__law_refused_right [] [] = .ok (.bl true) [] := by kernel_rfl
theorem law_true (ns : List Int) (h : ns.length ≤ 63) : F_law [.frz (ns.map D.int)] [] = .ok (.bl true) [] := by
  refine runB_cut (body := E_law) (xs := []) ?_ rfl rfl
  exact ret_ok ((andT_t (call0_ok r_things)).trans ((andT_t (call0_ok r_long)).trans (call0_ok r_refused)))
end LW

namespace LW
open PySem L2 DV EV
section
variable {P : Program} {w : World} {K : PySem.W.Frag} {mg : Str → Option Value} {base : Heap}
def spLaw (K : PySem.W.Frag) : Sp := fun vs H Q _ => ∃ (a : Addr) (ns : List Int), vs = [.ref a] ∧ SqL K H a (ns.map V.int) ∧ ns.length ≤ 63 ∧ ∀ H', Q (.bl true) H'
theorem rds_ints' {K : PySem.W.Frag} {G : Gs} {m : List Addr} {b : Hp} : ∀ ns : List Int, RDs K G m b (ns.map V.int) (ns.map D.int)
  | [] => .nil
  | n :: ns => .cons (.int n) (rds_ints' ns)
theorem ok_spLaw (T : Txt K mg) : FnOk P w K mg base (L2.CX P w) 23 T.f_law T.d_law ["script"] (spLaw K) := by
  refine (ok_law T).imp fun vs H Q E h => ?_
  obtain ⟨a, ns, rfl, hS, hl, q⟩ := h
  refine ⟨[], H, [], [.frz (ns.map D.int)], ⟨Same.refl H, List.nodup_nil, rfl, fun i a o e1 _ => by simp at e1⟩, .cons (.frz hS (rds_ints' ns)) .nil, rfl, ?_⟩
  rw [law_true ns hl]
  intro v m' b' h' _ _ r
  cases r
  exact q h'
abbrev lawRow : PySem.W.OpenRow := PySem.W.OpenLaw.row PySem.Challenge.rw_halfring_k12_records_by_hand_and_refused
def clss : List PySem.Str := ["Unfit"]
abbrev hk : PySem.W.Hook := hookE clss fxs fas fns
abbrev ob : PySem.W.SharedT → He.AlD := obE clss fxs fas fns
def names0 : List PySem.Str := ["__name__", "Unfit", "DEEPEST", "is_number", "is_natural", "is_below", "is_row", "is_row_of", "is_rising", "as_tuples", "checked", "SIGNS", "MOST_SIGNS", "BLANK", "is_word", "is_key", "is_single", "is_deed", "is_record", "is_table", "is_table_pair", "is_deeds", "is_records", "parts_of", "row_of", "keys_of", "singles_in", "parts_in", "closed_in", "closed_lots"]
def names1 : List PySem.Str := ["first_closed", "is_part_ahead", "left_begun", "begun_in", "with_single", "with_deeds", "table_with", "TORN", "FATES", "is_fates_row", "is_shape", "is_device", "is_written_cell", "is_content_in", "is_cell_in", "is_picture_in", "is_write_in", "is_event", "word_of", "device_text", "life_text", "story_text", "is_life_row", "is_story_row", "is_story_event", "is_in_order", "can_follow", "text_with", "words_in", "_law_same"]
def names2 : List PySem.Str := ["_law_heard", "_law_things_right", "_law_long_right", "_law_refused_right"]
def namesA : List PySem.Str := names0 ++ names1 ++ names2
end
theorem run (w : World) : HandSHeadRun.RunEq lawRow (PySem.W.view lawRow.prog [73]) hk ob 60000 namesA w := by
  intro os
  kernel_rfl
end LW
open PySem PySem.W PySem.Calls PyProof.Rows
set_option maxHeartbeats 0 in
theorem PySem.Challenge.cw_halfring_k12_records_by_hand_and_refused_holds : PySem.Challenge.rw_halfring_k12_records_by_hand_and_refused.Holds := by
  w_on; o_law
  refine HandSHeadRun.head_any (r := LW.lawRow) (q := view LW.lawRow.prog [73]) (H := LW.hk) (ob := LW.ob) (M := 60000) (loose := LW.namesA) (d := HandSHeadRun.topDef LW.lawRow.prog 73) (kwd := []) (EV.obE_eq LW.clss LW.fxs LW.fas LW.fns)
    (by kernel_rfl) (fun s => by kernel_rfl) LW.run (by kernel_rfl) (by kernel_rfl) (by kernel_rfl) (by rfl) (by first | assumption | decide +kernel) (by decide +kernel) ⟨rfl, rfl, rfl, rfl, rfl, by decide +kernel⟩ ?hw ?hc
  case hw => w_witness2
  case hc =>
    refine EV.walkW (l := PySem.Challenge.rw_halfring_k12_records_by_hand_and_refused) (n := 63) (k := 23) (x := "script") rfl (by decide) (by kernel_rfl) ⟨rfl, by decide, by decide⟩ ?_
    intro w mg fa h Y G hmg0
    obtain ⟨K, KX, c⟩ := Y
    have T : LW.Txt K mg := ⟨⟨h, KX, G⟩, c⟩
    have hmg : mg ("law" : PySem.Str) = some (.ref fa) := by
      have e : (HandSHeadRun.topDef LW.lawRow.prog 73).name = ("law" : PySem.Str) := by kernel_rfl
      rw [← e]
      exact hmg0
    have e := hmg.symm.trans T.m_law
    cases e
    exact ⟨K, T.d_law, LW.spLaw K, KX, fun s v => EV.fun_script T.F_law (fun _ _ _ _ _ _ us hl => match us, hl with | [_], _ => rfl) s v, fun H a ns hl hS => ⟨a, ns, rfl, hS, hl, fun _ => rfl⟩, fun base _ _ => LW.ok_spLaw T⟩

