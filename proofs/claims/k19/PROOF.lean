import PyProof.Rows.All
import Wide.All
import OpenK.AllK
import Wide.FinOn
import HandS.ForMost
import HandS.Flow
import HandS.Star
import HandS.Style
import HandS.IsInst
import HandS.TupAny
import HandS.Deep
import HandS.Conv
import HandS.Codes
import HandS.HeadHook1
import KE.KeyNested
import KE.KDictKeyed
import KE.KStateDown
import HandS.Exc
import HandS.More
import HandS.Words
import HandS.WordsExc
import HandS.Defaults
import HandS.Head0
import HandS.Head1
import HandS.Head2
import HandS.HeadEnd
import HandS.HeadHook2
import HandS.GenCall
import HandS.GenList
import HandS.DictTup
import KE.KDictWalk
import PyProof.TupleOfGen
import PyProof.CollectIter
import HandS.DictComp
import HandS.IterVal
import KE.KOwnIter
import HandS.SlotsOwn
import KE.GoesZip
import KE.GoesMore
import HandS.WideBits
import KE.IntBitsLaws
import HandS.HeadHook3
import KE.KUnpackStar
import KE.KOpsOwn
import HandS.Property
import HandS.ClsMeth
import HandS.Iter
import HandS.NoneIn
import KE.HD2
import HandS.MakeKwOnly
import KE.KDictDisplayH
import KE.KDictItemsList
import HandS.GenYield
import HandS.FStrTup
import PyProof.ReprNest
import KE.KExcSuper
import KE.KSuper
import HandS.ExcField
import HandS.ExcIs
import HandS.ExcOwn
import HandS.TryMany
import HandS.Text
import KE.DataCmp
import HandS.Zip
import KE.GoesRaise
import HandS.ReplaceLit
import PyProof.FitsReplace
import HandS.ReplaceList
import PySem.Challenge.RW_lyingstandins_k19_parsed_books
set_option Elab.async false
set_option linter.all false
set_option maxRecDepth 100000
set_option maxHeartbeats 4000000
namespace FL
class HW where h : PySem.Str → Int
instance (priority := low) hw0 : HW := ⟨fun _ => 0⟩
class WW [HW] (w : PySem.World) : Prop where ok : ∀ x, PySem.hashStr w x = HW.h x
instance [HW] {CX : L2.CXT} {P : PySem.Program} {w : PySem.World} {K : PySem.W.Frag} {mg : PySem.Str → Option PySem.Value} {base : PySem.Heap} {N : List PySem.Str} {q : PySem.Str} {sc : PySem.Scope} {f : PySem.Addr} {cd : PySem.Value} {A : PySem.Around} {outer : List PySem.Env} {s : PySem.Shared} {H : L2.Hp} {E : L2.XK} [i : WW w] : WW (L2.cxOf CX P w K mg base N q sc f cd A outer s H E).w := i
variable [HW]
open PySem L2

/-! ### data: what a value is worth, as a tree -/
inductive D where
  | non | bl (b : Bool) | int (i : Int) | str (x : Str) | tup (xs : List D) | lst (xs : List D) | klst (xs : List D) | obj (i : Nat)
  /-- an object that no one changes any more: its class, its attributes in the order in which they came -/
  | ins (c : Str) (fs : List Str) (xs : List D)
  /-- a dict with text keys that no one changes any more -/
  | dct (ks : List Str) (xs : List D)
  /-- a dict whose keys are tuples of bools, ints, None (fz: no one changes it any more) -/
  | dkt (fz : Bool) (ks xs : List D)
  /-- a tuple whose object has no dict -/
  | xtp (xs : List D)
  deriving Inhabited
/-! keys that are tuples of bools, ints, None and such tuples -/
mutual
def nq : D → Option NestedKey
  | .non => some .none
  | .bl b => some (.num (if b then 1 else 0))
  | .int i => some (.num i)
  | .str x => some (.text x)
  | .tup ds => (match nqAll ds with | some ks => some (.tup ks) | none => none)
  | _ => none
def nqAll : List D → Option (List NestedKey)
  | [] => some []
  | d :: ds => (match nq d with | some k => (match nqAll ds with | some ks => some (k :: ks) | none => none) | none => none)
end
mutual
def hsh : NestedKey → Int
  | .none => reduceHash 0xFCA86420
  | .num i => hashInt i
  | .text x => HW.h x
  | .tup ks => reduceHash (Builtin.Tuple.tupleHashOf (hshs ks))
def hshs : List NestedKey → List Int
  | [] => []
  | k :: ks => hsh k :: hshs ks
end
def kents : List NestedKey → List Addr → List Value → List DictEntry
  | n :: ns, a :: as, u :: us => ⟨hsh n, .ref a, u⟩ :: kents ns as us
  | _, _, _ => []
def dkO (D : Addr) (es : List DictEntry) : HO := .ext fun h => (D == sysModules) = false ∧ ∃ o ep, h.get? D = some o ∧ o.ExactDict ∧ o.data = .dict es.toArray ep
def fzO (fz : Bool) (x : Option HO) (u : HO) : Prop := match fz with
  | true => ∃ o, x = some (.frz o u)
  | false => x = some u ∨ ∃ o, x = some (.frz o u)
theorem fzO.one {fz : Bool} {x : Option HO} {u : HO} (h : fzO fz x u) : ∃ v, x = some v ∧ (v = u ∨ ∃ o, v = .frz o u) := by
  cases fz with
  | true => obtain ⟨o, h⟩ := h; exact ⟨_, h, .inr ⟨o, rfl⟩⟩
  | false =>
    rcases h with h | ⟨o, h⟩
    · exact ⟨_, h, .inl rfl⟩
    · exact ⟨_, h, .inr ⟨o, rfl⟩⟩
theorem fzO.map {fz : Bool} {u : HO} {x y : Option HO} (e : ∀ v, x = some v → (v = u ∨ ∃ o, v = .frz o u) → y = some v) (h : fzO fz x u) : fzO fz y u := by
  cases fz with
  | true => obtain ⟨o, h⟩ := h; exact ⟨o, e _ h (.inr ⟨o, rfl⟩)⟩
  | false =>
    rcases h with h | ⟨o, h⟩
    · exact .inl (e _ h (.inl rfl))
    · exact .inr ⟨o, e _ h (.inr ⟨o, rfl⟩)⟩
theorem fzO.mono {fz : Bool} {u : HO} {H H' : Hp} {a : Addr} (e : ∀ o, H a = some o → H' a = some o) (h : fzO fz (H a) u) : fzO fz (H' a) u := h.map fun v q _ => e v q

mutual
inductive Rp (K : PySem.W.Frag) (φ : Nat → Option Addr) (H : Hp) : D → V → Prop
  | non : Rp K φ H .non .non
  | bl (b : Bool) : Rp K φ H (.bl b) (.bl b)
  | int (i : Int) : Rp K φ H (.int i) (.int i)
  | str (x : Str) : Rp K φ H (.str x) (.str x)
  | tup {a : Addr} {vs : List V} {ds : List D} : SqT K H a vs → RpAll K φ H ds vs → Rp K φ H (.tup ds) (.ref a)
  | lst {a : Addr} {vs : List V} {ds : List D} : H a = some (.lst vs) → RpAll K φ H ds vs → Rp K φ H (.lst ds) (.ref a)
  | klst {a : Addr} {vs : List V} {ds : List D} : SqL K H a vs → RpAll K φ H ds vs → Rp K φ H (.klst ds) (.ref a)
  | obj {i : Nat} {a : Addr} (h : φ i = some a) : Rp K φ H (.obj i) (.ref a)
  | dct {a : Addr} {ks : List Str} {vs : List V} {ds : List D} : Rd H a (.dK ((ks.map Sum.inr).zip vs)) → ks.length = vs.length → RpAll K φ H ds vs → Rp K φ H (.dct ks ds) (.ref a)
  | dkt {fz : Bool} {a a' : Addr} {ks ds : List D} {ns : List NestedKey} {as : List Addr} {vs : List V} {us : List Value} : fzO fz (H a) (dkO a' (kents ns as us)) → nqAll ks = some ns → ns.Nodup → NestedKey.depthAll ns ≤ 8 → ks.length = ds.length → ks.length ≤ 1000000 → Vals vs us →
      RpAll K φ H ks (as.map V.ref) → RpAll K φ H ds vs → Rp K φ H (.dkt fz ks ds) (.ref a)
  | xtp {a : Addr} {vs : List V} {ds : List D} {o : Obj} : H a = some (.frz o (.tup vs)) → o.dict = none ∧ o.cls = .type "tuple" → RpAll K φ H ds vs → Rp K φ H (.xtp ds) (.ref a)
  | ins {a dx : Addr} {c : Str} {fs : List Str} {vs : List V} {ds : List D} : H a = some (.ins (He.ga K c) dx (fs.zip vs)) → fs.length = vs.length → RpAll K φ H ds vs → Rp K φ H (.ins c fs ds) (.ref a)
inductive RpAll (K : PySem.W.Frag) (φ : Nat → Option Addr) (H : Hp) : List D → List V → Prop
  | nil : RpAll K φ H [] []
  | cons {d : D} {v : V} {ds : List D} {vs : List V} : Rp K φ H d v → RpAll K φ H ds vs → RpAll K φ H (d :: ds) (v :: vs)
end

section
variable {K : PySem.W.Frag} {φ : Nat → Option Addr} {H H' : Hp}
theorem SqT_same {a : Addr} {xs : List V} (e : Same H H') (h : SqT K H a xs) : SqT K H' a xs := by
  rcases h with (h | ⟨o, h⟩) | h
  · exact .inl (.inl (e _ _ h))
  · exact .inl (.inr ⟨o, e _ _ h⟩)
  · exact .inr h
mutual
theorem Rp.mono (e : Same H H') : ∀ {d : D} {v : V}, Rp K φ H d v → Rp K φ H' d v
  | _, _, .non => .non
  | _, _, .bl b => .bl b
  | _, _, .int i => .int i
  | _, _, .str x => .str x
  | _, _, .tup s r => .tup (SqT_same e s) (RpAll.mono e r)
  | _, _, .lst s r => .lst (e _ _ s) (RpAll.mono e r)
  | _, _, .klst s r => .klst (e.seq s) (RpAll.mono e r)
  | _, _, .obj h => .obj h
  | _, _, .ins s l r => .ins (e _ _ s) l (RpAll.mono e r)
  | _, _, .dct s l r => .dct (s.imp (e _ _) fun ⟨o, h⟩ => ⟨o, e _ _ h⟩) l (RpAll.mono e r)
  | _, _, .dkt s a b c d f g r t => .dkt (s.mono (e _)) a b c d f g (RpAll.mono e r) (RpAll.mono e t)
  | _, _, .xtp s p r => .xtp (e _ _ s) p (RpAll.mono e r)
theorem RpAll.mono (e : Same H H') : ∀ {ds : List D} {vs : List V}, RpAll K φ H ds vs → RpAll K φ H' ds vs
  | _, _, .nil => .nil
  | _, _, .cons r t => .cons (r.mono e) (RpAll.mono e t)
end
theorem RpAll.length : ∀ {ds : List D} {vs : List V}, RpAll K φ H ds vs → ds.length = vs.length
  | _, _, .nil => rfl
  | _, _, .cons _ t => by simp [RpAll.length t]
theorem RpAll.get : ∀ {ds : List D} {vs : List V} {i : Nat} {d : D}, RpAll K φ H ds vs → ds[i]? = some d → ∃ v, vs[i]? = some v ∧ Rp K φ H d v
  | _, _, _, _, .nil, e => by simp at e
  | _, _, 0, _, .cons r _, e => by simp at e; subst e; exact ⟨_, rfl, r⟩
  | _, _, i + 1, d, .cons _ t, e => by
    obtain ⟨u, h1, h2⟩ := RpAll.get (i := i) (d := d) t (by simpa using e)
    exact ⟨u, by simpa using h1, h2⟩
theorem RpAll.append : ∀ {xs ys : List D} {us ws : List V}, RpAll K φ H xs us → RpAll K φ H ys ws → RpAll K φ H (xs ++ ys) (us ++ ws)
  | _, _, _, _, .nil, s => s
  | _, _, _, _, .cons r t, s => .cons r (RpAll.append t s)
theorem RpAll.split : ∀ {xs ys : List D} {us ws : List V}, xs.length = us.length → RpAll K φ H (xs ++ ys) (us ++ ws) → RpAll K φ H xs us ∧ RpAll K φ H ys ws
  | [], _, [], _, _, r => ⟨.nil, r⟩
  | [], _, _ :: _, _, h, _ => by simp at h
  | _ :: _, _, [], _, h, _ => by simp at h
  | _ :: _, _, _ :: _, _, h, .cons q t => let ⟨a, b⟩ := RpAll.split (by simpa using h) t; ⟨.cons q a, b⟩
theorem RpAll.one {d : D} {v : V} (r : Rp K φ H d v) : RpAll K φ H [d] [v] := .cons r .nil
theorem RpAll.take : ∀ {xs : List D} {us : List V} (n : Nat), RpAll K φ H xs us → RpAll K φ H (xs.take n) (us.take n)
  | _, _, 0, _ => .nil
  | _, _, _ + 1, .nil => .nil
  | _, _, n + 1, .cons r t => .cons r (RpAll.take n t)
theorem RpAll.drop : ∀ {xs : List D} {us : List V} (n : Nat), RpAll K φ H xs us → RpAll K φ H (xs.drop n) (us.drop n)
  | _, _, 0, r => r
  | _, _, _ + 1, .nil => .nil
  | _, _, n + 1, .cons _ t => RpAll.drop n t
theorem RpAll.set : ∀ {xs : List D} {us : List V} (n : Nat) {d : D} {v : V}, RpAll K φ H xs us → Rp K φ H d v → RpAll K φ H (xs.set n d) (us.set n v)
  | _, _, _, _, _, .nil, _ => .nil
  | _, _, 0, _, _, .cons _ t, r => .cons r t
  | _, _, n + 1, _, _, .cons q t, r => .cons q (RpAll.set n t r)
theorem RpAll.eraseIdx : ∀ {xs : List D} {us : List V} (n : Nat), RpAll K φ H xs us → RpAll K φ H (xs.eraseIdx n) (us.eraseIdx n)
  | _, _, _, .nil => .nil
  | _, _, 0, .cons _ t => t
  | _, _, n + 1, .cons q t => .cons q (RpAll.eraseIdx n t)
theorem RpAll.reverse : ∀ {xs : List D} {us : List V}, RpAll K φ H xs us → RpAll K φ H xs.reverse us.reverse
  | _, _, .nil => .nil
  | _, _, .cons r t => by
    rw [List.reverse_cons, List.reverse_cons]
    exact (RpAll.reverse t).append (.one r)
end

/-! ### two heaps: what is fixed for good (Hf), and all (H) -/
structure Gr (Hf H Hf' H' : Hp) : Prop where
  f : Same Hf Hf'
  h : Same H H'
  s : Same Hf' H'
  n : ∀ a o, H a = some o → Hf a = none → Hf' a = none
section
variable {Hf H Hf1 H1 Hf2 H2 : Hp}
theorem Gr.refl (s : Same Hf H) : Gr Hf H Hf H := ⟨Same.refl _, Same.refl _, s, fun _ _ _ h => h⟩
theorem Gr.trans (a : Gr Hf H Hf1 H1) (b : Gr Hf1 H1 Hf2 H2) : Gr Hf H Hf2 H2 :=
  ⟨a.f.trans b.f, a.h.trans b.h, b.s, fun x o h1 h2 => b.n x o (a.h _ _ h1) (a.n x o h1 h2)⟩
theorem same_upd {H : Hp} {p : Addr} {o : HO} (h : H p = none) : Same H (upd H p o) := fun b u e => by
  rw [upd_ne (ne_of_none e h)]; exact e
theorem Gr.new (s : Same Hf H) {p : Addr} {o : HO} (hp : H p = none) : Gr Hf H (upd Hf p o) (upd H p o) := by
  have hf : Hf p = none := s.free hp
  refine ⟨same_upd hf, same_upd hp, fun b u e => ?_, fun a u h1 h2 => ?_⟩
  · by_cases hb : b = p
    · subst hb; rw [upd_same] at e ⊢; exact e
    · rw [upd_ne hb] at e ⊢; exact s _ _ e
  · rw [upd_ne (ne_of_none h1 hp)]; exact h2
theorem Gr.own (s : Same Hf H) {p : Addr} {o : HO} (hp : H p = none) : Gr Hf H Hf (upd H p o) :=
  ⟨Same.refl _, same_upd hp, s.trans (same_upd hp), fun _ _ _ h => h⟩
end

/-! ### the slots -/
abbrev Env := List (Option D)
structure SR (K : PySem.W.Frag) (φ : Nat → Option Addr) (Hf0 H0 : Hp) (O : List Nat) (ρ : Env) (σ : St) (Hf H : Hp) : Prop where
  len : ρ.length = σ.length
  sub : Same Hf H
  gf : Same Hf0 Hf
  gh : Same H0 H
  gn : ∀ a o, H0 a = some o → Hf0 a = none → Hf a = none
  val : ∀ i d, ρ[i]? = some (some d) → i ∉ O → ∃ v, σ[i]? = some (some v) ∧ Rp K φ Hf d v
  own : ∀ i d, ρ[i]? = some (some d) → i ∈ O → ∃ a xs vs, d = .lst xs ∧ σ[i]? = some (some (.ref a)) ∧ H a = some (.lst vs) ∧ Hf a = none ∧ H0 a = none ∧ RpAll K φ Hf xs vs
  ne : ∀ i j d e a, ρ[i]? = some (some d) → ρ[j]? = some (some e) → i ∈ O → j ∈ O → i ≠ j → σ[i]? = some (some (.ref a)) → σ[j]? ≠ some (some (.ref a))
section
variable {K : PySem.W.Frag} {φ : Nat → Option Addr} {Hf0 H0 Hf H Hf' H' : Hp} {O : List Nat} {ρ : Env} {σ : St}
theorem SR.gr (S : SR K φ Hf0 H0 O ρ σ Hf H) (g : Gr Hf H Hf' H') : SR K φ Hf0 H0 O ρ σ Hf' H' := by
  refine ⟨S.len, g.s, S.gf.trans g.f, S.gh.trans g.h, fun a o h1 h2 => ?_, fun i d e n => ?_, fun i d e m => ?_, S.ne⟩
  · exact g.n a o (S.gh _ _ h1) (S.gn a o h1 h2)
  · obtain ⟨v, e1, r⟩ := S.val i d e n
    exact ⟨v, e1, r.mono g.f⟩
  · obtain ⟨a, xs, vs, e1, e2, e3, e4, e5, r⟩ := S.own i d e m
    exact ⟨a, xs, vs, e1, e2, g.h _ _ e3, g.n _ _ e3 e4, e5, r.mono g.f⟩
theorem SR.from0 (S : SR K φ Hf0 H0 O ρ σ Hf H) : Gr Hf0 H0 Hf H := ⟨S.gf, S.gh, S.sub, S.gn⟩
theorem SR.set (S : SR K φ Hf0 H0 O ρ σ Hf H) (i : Nat) {d : D} {v : V} (r : Rp K φ Hf d v) : SR K φ Hf0 H0 (O.filter (· != i)) (ρ.set i (some d)) (σ.set i (some v)) Hf H := by
  have mem : ∀ j, j ∈ O.filter (· != i) ↔ j ∈ O ∧ j ≠ i := fun j => by simp [List.mem_filter]
  refine ⟨by simp [S.len], S.sub, S.gf, S.gh, S.gn, fun j e hj hn => ?_, fun j e hj hm => ?_, fun j k e e' a hj hk mj mk hne h1 => ?_⟩
  · by_cases h : j = i
    · subst h
      have hl : j < ρ.length := by
        have := (List.getElem?_eq_some_iff.mp hj).1; simpa using this
      rw [List.getElem?_set_self hl] at hj
      cases hj
      exact ⟨v, List.getElem?_set_self (by rw [← S.len]; exact hl), r⟩
    · rw [List.getElem?_set_ne (Ne.symm h)] at hj ⊢
      exact S.val j e hj fun m => hn ((mem j).mpr ⟨m, h⟩)
  · obtain ⟨m, h⟩ := (mem j).mp hm
    rw [List.getElem?_set_ne (Ne.symm h)] at hj ⊢
    exact S.own j e hj m
  · obtain ⟨m1, n1⟩ := (mem j).mp mj
    obtain ⟨m2, n2⟩ := (mem k).mp mk
    rw [List.getElem?_set_ne (Ne.symm n1)] at hj h1
    rw [List.getElem?_set_ne (Ne.symm n2)] at hk ⊢
    exact S.ne j k e e' a hj hk m1 m2 hne h1
theorem SR.setOwn (S : SR K φ Hf0 H0 O ρ σ Hf H) (i : Nat) {a : Addr} {xs : List D} {vs : List V} (h1 : H a = some (.lst vs)) (h2 : Hf a = none) (h3 : H0 a = none)
    (h4 : ∀ j d, ρ[j]? = some (some d) → j ∈ O → σ[j]? ≠ some (some (.ref a))) (r : RpAll K φ Hf xs vs) : SR K φ Hf0 H0 (i :: O.filter (· != i)) (ρ.set i (some (.lst xs))) (σ.set i (some (.ref a))) Hf H := by
  have mem : ∀ j, j ∈ i :: O.filter (· != i) ↔ j = i ∨ (j ∈ O ∧ j ≠ i) := fun j => by simp [List.mem_filter]
  have lt : ∀ {j e}, (ρ.set i (some (.lst xs)))[j]? = some (some e) → j < ρ.length := fun {j e} hj => by
    have := (List.getElem?_eq_some_iff.mp hj).1; simpa using this
  refine ⟨by simp [S.len], S.sub, S.gf, S.gh, S.gn, fun j e hj hn => ?_, fun j e hj hm => ?_, fun j k e e' b hj hk mj mk hne q1 => ?_⟩
  · have h : j ≠ i := fun h => hn ((mem j).mpr (.inl h))
    rw [List.getElem?_set_ne (Ne.symm h)] at hj ⊢
    exact S.val j e hj fun m => hn ((mem j).mpr (.inr ⟨m, h⟩))
  · by_cases h : j = i
    · subst h
      have hl := lt hj
      rw [List.getElem?_set_self hl] at hj
      cases hj
      exact ⟨a, xs, vs, rfl, List.getElem?_set_self (by rw [← S.len]; exact hl), h1, h2, h3, r⟩
    · have m : j ∈ O := by rcases (mem j).mp hm with z | z; exact absurd z h; exact z.1
      rw [List.getElem?_set_ne (Ne.symm h)] at hj ⊢
      exact S.own j e hj m
  · by_cases hji : j = i
    · subst hji
      have hl := lt hj
      have hkj : k ≠ j := Ne.symm hne
      have mk' : k ∈ O := by rcases (mem k).mp mk with z | z; exact absurd z hkj; exact z.1
      rw [List.getElem?_set_self (by rw [← S.len]; exact hl)] at q1
      cases q1
      rw [List.getElem?_set_ne hne] at hk ⊢
      exact h4 k e' hk mk'
    · have mj' : j ∈ O := by rcases (mem j).mp mj with z | z; exact absurd z hji; exact z.1
      rw [List.getElem?_set_ne (Ne.symm hji)] at hj q1
      by_cases hki : k = i
      · subst hki
        have hl := lt hk
        rw [List.getElem?_set_self (by rw [← S.len]; exact hl)]
        rintro z
        cases z
        exact h4 j e hj mj' q1
      · have mk' : k ∈ O := by rcases (mem k).mp mk with z | z; exact absurd z hki; exact z.1
        rw [List.getElem?_set_ne (Ne.symm hki)] at hk ⊢
        exact S.ne j k e e' b hj hk mj' mk' hne q1
theorem SR.memEq {O' : List Nat} (S : SR K φ Hf0 H0 O ρ σ Hf H) (m : ∀ i, i ∈ O' ↔ i ∈ O) : SR K φ Hf0 H0 O' ρ σ Hf H :=
  ⟨S.len, S.sub, S.gf, S.gh, S.gn, fun i d e n => S.val i d e fun z => n ((m i).mpr z), fun i d e z => S.own i d e ((m i).mp z), fun i j d e a h1 h2 m1 m2 => S.ne i j d e a h1 h2 ((m i).mp m1) ((m j).mp m2)⟩
theorem SR.freeze (S : SR K φ Hf0 H0 O ρ σ Hf H) (i : Nat) : ∃ Hf1, Same Hf Hf1 ∧ SR K φ Hf0 H0 (O.filter (· != i)) ρ σ Hf1 H := by
  have mem : ∀ j, j ∈ O.filter (· != i) ↔ j ∈ O ∧ j ≠ i := fun j => by simp [List.mem_filter]
  have easy : (∀ d, ρ[i]? = some (some d) → i ∉ O) → SR K φ Hf0 H0 (O.filter (· != i)) ρ σ Hf H := fun hno => by
    refine ⟨S.len, S.sub, S.gf, S.gh, S.gn, fun j d e n => ?_, fun j d e m => S.own j d e ((mem j).mp m).1, fun j k d e a h1 h2 m1 m2 => S.ne j k d e a h1 h2 ((mem j).mp m1).1 ((mem k).mp m2).1⟩
    refine S.val j d e fun z => ?_
    by_cases h : j = i
    · subst h; exact hno d e z
    · exact n ((mem j).mpr ⟨z, h⟩)
  by_cases hi : i ∈ O
  · cases hq : ρ[i]? with
    | none => exact ⟨Hf, Same.refl _, easy fun d e => by rw [hq] at e; cases e⟩
    | some od =>
      cases od with
      | none => exact ⟨Hf, Same.refl _, easy fun d e => by rw [hq] at e; cases e⟩
      | some d =>
        obtain ⟨a, xs, vs, e1, e2, e3, e4, e5, r⟩ := S.own i d hq hi
        have sf : Same Hf (upd Hf a (.lst vs)) := same_upd e4
        refine ⟨upd Hf a (.lst vs), sf, S.len, fun b u e => ?_, S.gf.trans sf, S.gh, fun b u h1 h2 => ?_, fun j d' e n => ?_, fun j d' e m => ?_, fun j k d' e' b h1 h2 m1 m2 => S.ne j k d' e' b h1 h2 ((mem j).mp m1).1 ((mem k).mp m2).1⟩
        · by_cases hb : b = a
          · subst hb; rw [upd_same] at e; cases e; exact e3
          · rw [upd_ne hb] at e; exact S.sub _ _ e
        · rw [upd_ne (ne_of_none h1 e5)]; exact S.gn b u h1 h2
        · by_cases h : j = i
          · subst h
            rw [hq] at e; cases e
            subst e1
            exact ⟨.ref a, e2, .lst upd_same (r.mono sf)⟩
          · obtain ⟨v, q1, q2⟩ := S.val j d' e fun z => n ((mem j).mpr ⟨z, h⟩)
            exact ⟨v, q1, q2.mono sf⟩
        · obtain ⟨m1, n1⟩ := (mem j).mp m
          obtain ⟨b, ys, ws, q1, q2, q3, q4, q5, r2⟩ := S.own j d' e m1
          have hba : b ≠ a := by
            rintro rfl
            exact S.ne i j d d' b hq e hi m1 (Ne.symm n1) e2 q2
          exact ⟨b, ys, ws, q1, q2, q3, by rw [upd_ne hba]; exact q4, q5, r2.mono sf⟩
  · exact ⟨Hf, Same.refl _, easy fun _ _ => hi⟩
theorem SR.weak' (S : SR K φ Hf0 H0 O ρ σ Hf H) : ∀ l : List Nat, ∃ Hf1, Same Hf Hf1 ∧ SR K φ Hf0 H0 (O.filter fun j => !l.contains j) ρ σ Hf1 H
  | [] => ⟨Hf, Same.refl _, S.memEq fun i => by simp⟩
  | i :: l => by
    obtain ⟨Hf1, s1, S1⟩ := SR.weak' S l
    obtain ⟨Hf2, s2, S2⟩ := S1.freeze i
    refine ⟨Hf2, s1.trans s2, S2.memEq fun j => ?_⟩
    simp only [List.mem_filter, List.contains_cons, Bool.not_or, Bool.and_eq_true, Bool.not_eq_true', bne_iff_ne, ne_eq, beq_eq_false_iff_ne]
    constructor
    · rintro ⟨a, b, c⟩; exact ⟨⟨a, c⟩, b⟩
    · rintro ⟨⟨a, c⟩, b⟩; exact ⟨a, b, c⟩
theorem SR.weak (S : SR K φ Hf0 H0 O ρ σ Hf H) (L : List Nat) (hL : L.all (O.contains ·) = true) : ∃ Hf1, Same Hf Hf1 ∧ SR K φ Hf0 H0 L ρ σ Hf1 H := by
  obtain ⟨Hf1, s1, S1⟩ := S.weak' (O.filter fun j => !L.contains j)
  refine ⟨Hf1, s1, S1.memEq fun j => ?_⟩
  have hs : ∀ j ∈ L, j ∈ O := fun j hj => by simpa using (List.all_eq_true.mp hL) j hj
  simp only [List.mem_filter, Bool.not_eq_true', List.contains_eq_mem, decide_eq_false_iff_not]
  constructor
  · intro hj; exact ⟨hs j hj, fun z => by simp_all⟩
  · rintro ⟨a, b⟩
    by_cases h : j ∈ L
    · exact h
    · exact absurd (by simp [a, h]) b
end
end FL
namespace FL
variable [HW]
open PySem L2

structure Lk (P : Prop) : Prop where
  h : P
/-! ### the weakest readings -/
def wE (X : Cx) (e : Expr) : TE := fun σ H Q => Lk (∀ pins s, Inv X pins σ H s → wpAny (model X.prog X.w) X.A (eval e X.env) (EP X pins σ Q) X.xe s)
def wT (X : Cx) (e : Expr) : TT := fun σ H Q => Lk (∀ pins s, Inv X pins σ H s → wpAny (model X.prog X.w) X.A (isTrue e X.env (eval e X.env)) (TP X pins σ Q) X.xe s)
def wA (X : Cx) (es : List Expr) : TA := fun σ H Q => Lk (∀ pos pins s, Inv X pins σ H s → wpAny (model X.prog X.w) X.A (spliced (backTo pos (starEach es X.env))) (AP X pins σ Q) X.xe s)
def wS (X : Cx) (st : Stmt) : TS := fun D σ H => Lk (∀ pins s, Inv X pins σ H s → wpAny (model X.prog X.w) X.A (exec st X.env) (SP X pins D) X.xe s)
def wSs (X : Cx) (st : List Stmt) : TS := fun D σ H => Lk (∀ pins s, Inv X pins σ H s → wpAny (model X.prog X.w) X.A (execs st X.env) (SP X pins D) X.xe s)
section
variable {X : Cx} {e : Expr} {es : List Expr} {st : Stmt} {sts : List Stmt} {σ : St} {H : Hp}
theorem peW : PE X e (wE X e) := ⟨fun pins s _ _ _ I h => h.h pins s I⟩
theorem ptW : PT X e (wT X e) := ⟨fun pins s _ _ _ I h => h.h pins s I⟩
theorem paW : PA X es (wA X es) := ⟨fun pos pins s _ _ _ I h => h.h pos pins s I⟩
theorem psW : PS X st (wS X st) := ⟨fun pins s _ _ _ I h => h.h pins s I⟩
theorem pssW : PSs X sts (wSs X sts) := ⟨fun pins s _ _ _ I h => h.h pins s I⟩
theorem toE {t : TE} (h : PE X e t) {Q : VK} (q : t σ H Q) : wE X e σ H Q := ⟨fun pins s I => h.run pins s σ H Q I q⟩
theorem toT {t : TT} (h : PT X e t) {Q : Bool → Hp → Prop} (q : t σ H Q) : wT X e σ H Q := ⟨fun pins s I => h.run pins s σ H Q I q⟩
theorem toA {t : TA} (h : PA X es t) {Q : List V → Hp → Prop} (q : t σ H Q) : wA X es σ H Q := ⟨fun pos pins s I => h.run pos pins s σ H Q I q⟩
theorem toS {t : TS} (h : PS X st t) {Dn : Ends} (q : t Dn σ H) : wS X st Dn σ H := ⟨fun pins s I => h.run pins s σ H Dn I q⟩
theorem toSs {t : TS} (h : PSs X sts t) {Dn : Ends} (q : t Dn σ H) : wSs X sts Dn σ H := ⟨fun pins s I => h.run pins s σ H Dn I q⟩
end

/-! ### a value that may be a list of our own -/
def Rpb (K : PySem.W.Frag) (φ : Nat → Option Addr) (Hf H : Hp) (d : D) (v : V) : Prop :=
  Rp K φ Hf d v ∨ ∃ a xs vs, d = .lst xs ∧ v = .ref a ∧ H a = some (.lst vs) ∧ RpAll K φ Hf xs vs
inductive RpbAll (K : PySem.W.Frag) (φ : Nat → Option Addr) (Hf H : Hp) : List D → List V → Prop
  | nil : RpbAll K φ Hf H [] []
  | cons {d : D} {v : V} {ds : List D} {vs : List V} : Rpb K φ Hf H d v → RpbAll K φ Hf H ds vs → RpbAll K φ Hf H (d :: ds) (v :: vs)
section
variable {K : PySem.W.Frag} {φ : Nat → Option Addr} {Hf H Hf' H' : Hp} {d : D} {v : V}
theorem Rpb.gr (g : Gr Hf H Hf' H') (r : Rpb K φ Hf H d v) : Rpb K φ Hf' H' d v := by
  rcases r with r | ⟨a, xs, vs, h1, h2, h3, h4⟩
  · exact .inl (r.mono g.f)
  · exact .inr ⟨a, xs, vs, h1, h2, g.h _ _ h3, h4.mono g.f⟩
theorem Rpb.all (s : Same Hf H) (r : Rpb K φ Hf H d v) : Rp K φ H d v := by
  rcases r with r | ⟨a, xs, vs, h1, h2, h3, h4⟩
  · exact r.mono s
  · subst h1 h2; exact .lst h3 (h4.mono s)
theorem RpbAll.gr (g : Gr Hf H Hf' H') : ∀ {ds : List D} {vs : List V}, RpbAll K φ Hf H ds vs → RpbAll K φ Hf' H' ds vs
  | _, _, .nil => .nil
  | _, _, .cons r t => .cons (r.gr g) (RpbAll.gr g t)
def scal : D → Bool
  | .non => true | .bl _ => true | .int _ => true | .str _ => true | _ => false
theorem Rp.scal (r : Rp K φ Hf d v) (h : scal d = true) : Rp K φ Hf' d v := by
  cases r <;> first | exact .non | exact .bl _ | exact .int _ | exact .str _ | cases h
end

/-! ### expressions -/
def FE (X : Cx) (O : List Nat) (e : Expr) (F : Env → Option D) : Prop :=
  ∀ (φ : Nat → Option Addr) (Hf0 H0 : Hp) (ρ : Env) (σ : St) (Hf H : Hp) (d : D) (Q : VK), SR X.K φ Hf0 H0 O ρ σ Hf H → F ρ = some d → (∀ v Hf' H', Gr Hf H Hf' H' → Rp X.K φ Hf' d v → Q v H') → wE X e σ H Q
def FB (X : Cx) (O : List Nat) (e : Expr) (F : Env → Option D) : Prop :=
  ∀ (φ : Nat → Option Addr) (Hf0 H0 : Hp) (ρ : Env) (σ : St) (Hf H : Hp) (d : D) (Q : VK), SR X.K φ Hf0 H0 O ρ σ Hf H → F ρ = some d → (∀ v Hf' H', Gr Hf H Hf' H' → Rpb X.K φ Hf' H' d v → Q v H') → wE X e σ H Q
def FN (X : Cx) (O : List Nat) (e : Expr) (F : Env → Option D) : Prop :=
  ∀ (φ : Nat → Option Addr) (Hf0 H0 : Hp) (ρ : Env) (σ : St) (Hf H : Hp) (d : D) (Q : VK), SR X.K φ Hf0 H0 O ρ σ Hf H → F ρ = some d →
    (∀ a xs vs Hf' H', d = .lst xs → Gr Hf H Hf' H' → H a = none → Hf' a = none → H' a = some (.lst vs) → RpAll X.K φ Hf' xs vs → Q (.ref a) H') → wE X e σ H Q
def FT (X : Cx) (O : List Nat) (e : Expr) (F : Env → Option Bool) : Prop :=
  ∀ (φ : Nat → Option Addr) (Hf0 H0 : Hp) (ρ : Env) (σ : St) (Hf H : Hp) (b : Bool) (Q : Bool → Hp → Prop), SR X.K φ Hf0 H0 O ρ σ Hf H → F ρ = some b → (∀ Hf' H', Gr Hf H Hf' H' → Q b H') → wT X e σ H Q
def FA (X : Cx) (O : List Nat) (es : List Expr) (F : Env → Option (List D)) : Prop :=
  ∀ (φ : Nat → Option Addr) (Hf0 H0 : Hp) (ρ : Env) (σ : St) (Hf H : Hp) (ds : List D) (Q : List V → Hp → Prop), SR X.K φ Hf0 H0 O ρ σ Hf H → F ρ = some ds → (∀ vs Hf' H', Gr Hf H Hf' H' → RpAll X.K φ Hf' ds vs → Q vs H') → wA X es σ H Q
def FBA (X : Cx) (O : List Nat) (es : List Expr) (F : Env → Option (List D)) : Prop :=
  ∀ (φ : Nat → Option Addr) (Hf0 H0 : Hp) (ρ : Env) (σ : St) (Hf H : Hp) (ds : List D) (Q : List V → Hp → Prop), SR X.K φ Hf0 H0 O ρ σ Hf H → F ρ = some ds → (∀ vs Hf' H', Gr Hf H Hf' H' → RpbAll X.K φ Hf' H' ds vs → Q vs H') → wA X es σ H Q

/-! ### the mirror's words -/
def eVar (i : Nat) : Env → Option D := fun ρ => match ρ[i]? with | some (some d) => some d | _ => none
def eC (d : D) : Env → Option D := fun _ => some d
def e1 (f : D → Option D) (F : Env → Option D) : Env → Option D := fun ρ => match F ρ with | some d => f d | none => none
def e2 (f : D → D → Option D) (F G : Env → Option D) : Env → Option D := fun ρ => match F ρ with | some d => (match G ρ with | some e => f d e | none => none) | none => none
def eL (f : List D → Option D) (F : Env → Option (List D)) : Env → Option D := fun ρ => match F ρ with | some ds => f ds | none => none
def aNil : Env → Option (List D) := fun _ => some []
def aCons (F : Env → Option D) (G : Env → Option (List D)) : Env → Option (List D) := fun ρ => match F ρ with | some d => (match G ρ with | some ds => some (d :: ds) | none => none) | none => none
def seqD : D → Option (List D)
  | .lst xs => some xs | .klst xs => some xs | .tup xs => some xs | _ => none
def aStar (F : Env → Option D) (G : Env → Option (List D)) : Env → Option (List D) := fun ρ => match F ρ with
  | some d => (match seqD d with | some xs => (match G ρ with | some ds => some (xs ++ ds) | none => none) | none => none) | none => none
def tupD (ds : List D) : Option D := if ds.length ≤ sizeLine then some (.tup ds) else none
def lstD (ds : List D) : Option D := if ds.length ≤ sizeLine then some (.lst ds) else none
def tB (f : D → Option Bool) (F : Env → Option D) : Env → Option Bool := fun ρ => match F ρ with | some d => f d | none => none
def tNot (F : Env → Option Bool) : Env → Option Bool := fun ρ => match F ρ with | some b => some (!b) | none => none
def tAnd (F G : Env → Option Bool) : Env → Option Bool := fun ρ => match F ρ with | some true => G ρ | some false => some false | none => none
def tOr (F G : Env → Option Bool) : Env → Option Bool := fun ρ => match F ρ with | some true => some true | some false => G ρ | none => none
def eIf (C : Env → Option Bool) (F G : Env → Option D) : Env → Option D := fun ρ => match C ρ with | some true => F ρ | some false => G ρ | none => none
def eScal (F : Env → Option D) : Env → Option D := fun ρ => match F ρ with | some d => if scal d = true then some d else none | none => none
def blD : D → Option Bool
  | .bl b => some b | _ => none
def truD : D → Option Bool
  | .non => some false | .bl b => some b | .int i => some (i != 0)
  | .str y => if y.length ≤ sizeLine then some ((y.length : Int) != 0) else none
  | .lst xs => some (!xs.isEmpty) | .klst xs => some (!xs.isEmpty) | .tup xs => some (!xs.isEmpty) | .obj _ => none | .ins _ _ _ => none | .dct _ _ => none | .dkt _ _ _ => none | .xtp _ => none

section
variable {X : Cx} {O : List Nat} {e a b : Expr} {es : List Expr} {pos : Pos} {F G : Env → Option D} {Fs : Env → Option (List D)}
theorem e1_some {f : D → Option D} {ρ : Env} {d : D} (h : e1 f F ρ = some d) : ∃ x, F ρ = some x ∧ f x = some d := by
  unfold e1 at h; cases q : F ρ with
  | none => rw [q] at h; cases h
  | some x => rw [q] at h; exact ⟨x, rfl, h⟩
theorem e2_some {f : D → D → Option D} {ρ : Env} {d : D} (h : e2 f F G ρ = some d) : ∃ x y, F ρ = some x ∧ G ρ = some y ∧ f x y = some d := by
  unfold e2 at h; cases q : F ρ with
  | none => rw [q] at h; cases h
  | some x =>
    rw [q] at h
    cases q2 : G ρ with
    | none => simp only [q2] at h; cases h
    | some y => simp only [q2] at h; exact ⟨x, y, rfl, rfl, h⟩
theorem eL_some {f : List D → Option D} {ρ : Env} {d : D} (h : eL f Fs ρ = some d) : ∃ x, Fs ρ = some x ∧ f x = some d := by
  unfold eL at h; cases q : Fs ρ with
  | none => rw [q] at h; cases h
  | some x => rw [q] at h; exact ⟨x, rfl, h⟩
theorem tB_some {f : D → Option Bool} {ρ : Env} {d : Bool} (h : tB f F ρ = some d) : ∃ x, F ρ = some x ∧ f x = some d := by
  unfold tB at h; cases q : F ρ with
  | none => rw [q] at h; cases h
  | some x => rw [q] at h; exact ⟨x, rfl, h⟩

theorem fb_of (h : FE X O e F) : FB X O e F := fun φ Hf0 H0 ρ σ Hf H d Q S hF k => h φ Hf0 H0 ρ σ Hf H d Q S hF fun v Hf' H' g r => k v Hf' H' g (.inl r)
theorem fe_of_fn (h : FN X O e F) : FE X O e F := fun φ Hf0 H0 ρ σ Hf H d Q S hF k => h φ Hf0 H0 ρ σ Hf H d Q S hF fun a xs vs Hf' H' hd g h1 h2 h3 r => by
  subst hd
  have sf : Same Hf' (upd Hf' a (.lst vs)) := same_upd h2
  refine k (.ref a) (upd Hf' a (.lst vs)) H' ⟨g.f.trans sf, g.h, fun b u q => ?_, fun b u q1 q2 => ?_⟩ (.lst upd_same (r.mono sf))
  · by_cases hb : b = a
    · subst hb; rw [upd_same] at q; cases q; exact h3
    · rw [upd_ne hb] at q; exact g.s _ _ q
  · rw [upd_ne (ne_of_none q1 h1)]; exact g.n b u q1 q2
theorem fb_var {i : Nat} {x : Str} (hN : X.N[i]? = some x) (hv : Vis X.env.scope x) (hd : (x == ("__debug__" : Str)) = false := by decide +kernel) (hcd : (x == ("__classdict__" : Str)) = false := by decide +kernel) : FB X O (.Name x pos) (eVar i) := by
  intro φ Hf0 H0 ρ σ Hf H d Q S hF k
  have hq : ρ[i]? = some (some d) := by
    unfold eVar at hF
    split at hF
    · rename_i d' h; cases hF; exact h
    · cases hF
  refine toE (pe_var hN hv hd hcd) ?_
  by_cases hi : i ∈ O
  · obtain ⟨a, xs, vs, e1, e2, e3, e4, e5, r⟩ := S.own i d hq hi
    exact ⟨_, e2, k _ Hf H (.refl S.sub) (.inr ⟨a, xs, vs, e1, rfl, e3, r⟩)⟩
  · obtain ⟨v, e1, r⟩ := S.val i d hq hi
    exact ⟨v, e1, k v Hf H (.refl S.sub) (.inl r)⟩
theorem fe_var {i : Nat} {x : Str} (hN : X.N[i]? = some x) (hv : Vis X.env.scope x) (hO : O.contains i = false) (hd : (x == ("__debug__" : Str)) = false := by decide +kernel) (hcd : (x == ("__classdict__" : Str)) = false := by decide +kernel) : FE X O (.Name x pos) (eVar i) := by
  intro φ Hf0 H0 ρ σ Hf H d Q S hF k
  have hq : ρ[i]? = some (some d) := by
    unfold eVar at hF
    split at hF
    · rename_i d' h; cases hF; exact h
    · cases hF
  refine toE (pe_var hN hv hd hcd) ?_
  have hi : i ∉ O := by simpa using hO
  obtain ⟨v, e1, r⟩ := S.val i d hq hi
  exact ⟨v, e1, k v Hf H (.refl S.sub) r⟩
theorem fe_int {i : Int} {j} : FE X O (.Constant (.int i) j pos) (eC (.int i)) := fun φ Hf0 H0 ρ σ Hf H d Q S hF k => by cases hF; exact toE pe_int (k _ Hf H (.refl S.sub) (.int i))
theorem fe_bl {i : Bool} {j} : FE X O (.Constant (.bool i) j pos) (eC (.bl i)) := fun φ Hf0 H0 ρ σ Hf H d Q S hF k => by cases hF; exact toE pe_bl (k _ Hf H (.refl S.sub) (.bl i))
theorem fe_non {j} : FE X O (.Constant .none j pos) (eC .non) := fun φ Hf0 H0 ρ σ Hf H d Q S hF k => by cases hF; exact toE pe_non (k _ Hf H (.refl S.sub) .non)
theorem fe_str {x : Str} {j} : FE X O (.Constant (.str x) j pos) (eC (.str x)) := fun φ Hf0 H0 ρ σ Hf H d Q S hF k => by cases hF; exact toE pe_str (k _ Hf H (.refl S.sub) (.str x))
def RpK (K : PySem.W.Frag) (d : D) (v : V) : Prop := ∀ φ H, Rp K φ H d v
theorem fe_glob {x : Str} {d : D} (hg : Gl X x) (h : ∃ u v, X.mg x = some u ∧ RelV v u ∧ RpK X.K d v) (hd : (x == ("__debug__" : Str)) = false := by decide +kernel) : FE X O (.Name x pos) (eC d) := by
  intro φ Hf0 H0 ρ σ Hf H d' Q S hF k
  cases hF
  obtain ⟨u, v, h1, h2, h3⟩ := h
  exact toE (pe_glob hg h1 h2 hd) (k v Hf H (.refl S.sub) (h3 φ Hf))

theorem fa_nil : FA X O [] aNil := fun φ Hf0 H0 ρ σ Hf H d Q S hF k => by cases hF; exact toA pa_nil (k [] Hf H (.refl S.sub) .nil)
theorem fa_cons (h : FE X O e F) (t : FA X O es Fs) (hs : starEach (e :: es) X.env = (false, eval e X.env) :: starEach es X.env := by rfl) : FA X O (e :: es) (aCons F Fs) := by
  intro φ Hf0 H0 ρ σ Hf H ds Q S hF k
  unfold aCons at hF
  split at hF
  · rename_i d h1
    split at hF
    · rename_i ds' h2
      cases hF
      refine toA (pa_cons (peW (e := e)) (paW (es := es)) hs) ?_
      refine h φ Hf0 H0 ρ σ Hf H d _ S h1 fun v Hf1 H1 g1 r1 => ?_
      refine t φ Hf0 H0 ρ σ Hf1 H1 ds' _ (S.gr g1) h2 fun vs Hf2 H2 g2 r2 => ?_
      exact k (v :: vs) Hf2 H2 (g1.trans g2) (.cons (r1.mono g2.f) r2)
    · cases hF
  · cases hF
theorem fba_nil : FBA X O [] aNil := fun φ Hf0 H0 ρ σ Hf H d Q S hF k => by cases hF; exact toA pa_nil (k [] Hf H (.refl S.sub) .nil)
theorem fba_cons (h : FB X O e F) (t : FBA X O es Fs) (hs : starEach (e :: es) X.env = (false, eval e X.env) :: starEach es X.env := by rfl) : FBA X O (e :: es) (aCons F Fs) := by
  intro φ Hf0 H0 ρ σ Hf H ds Q S hF k
  unfold aCons at hF
  split at hF
  · rename_i d h1
    split at hF
    · rename_i ds' h2
      cases hF
      refine toA (pa_cons (peW (e := e)) (paW (es := es)) hs) ?_
      refine h φ Hf0 H0 ρ σ Hf H d _ S h1 fun v Hf1 H1 g1 r1 => ?_
      refine t φ Hf0 H0 ρ σ Hf1 H1 ds' _ (S.gr g1) h2 fun vs Hf2 H2 g2 r2 => ?_
      exact k (v :: vs) Hf2 H2 (g1.trans g2) (.cons (r1.gr g2) r2)
    · cases hF
  · cases hF
theorem Rpb.seq {K : PySem.W.Frag} {φ : Nat → Option Addr} {Hf H : Hp} {d : D} {v : V} {xs : List D} (s : Same Hf H) (r : Rpb K φ Hf H d v) (h : seqD d = some xs) : ∃ p vs, v = .ref p ∧ (SqL K H p vs ∨ SqT K H p vs) ∧ RpAll K φ Hf xs vs := by
  rcases r with r | ⟨a, ys, vs, h1, h2, h3, h4⟩
  · cases r with
    | tup q r => cases h; exact ⟨_, _, rfl, .inr (SqT_same s q), r⟩
    | lst q r => cases h; exact ⟨_, _, rfl, .inl (.inl (.inl (s _ _ q))), r⟩
    | klst q r => cases h; exact ⟨_, _, rfl, .inl (s.seq q), r⟩
    | _ => cases h
  · subst h1 h2
    cases h
    exact ⟨_, _, rfl, .inl (.inl (.inl h3)), h4⟩
theorem fa_star {p : Pos} (h : FB X O e F) (t : FA X O es Fs) (hs : starEach (.Starred e p :: es) X.env = (true, eval e X.env) :: starEach es X.env := by rfl) : FA X O (.Starred e p :: es) (aStar F Fs) := by
  intro φ Hf0 H0 ρ σ Hf H ds Q S hF k
  unfold aStar at hF
  split at hF
  · rename_i d h1
    split at hF
    · rename_i xs hx
      split at hF
      · rename_i ds' h2
        cases hF
        refine toA (StX.pa_star (peW (e := e)) (paW (es := es)) hs) ?_
        refine h φ Hf0 H0 ρ σ Hf H d _ S h1 fun v Hf1 H1 g1 r1 => ?_
        obtain ⟨q, us, e1, e2, e3⟩ := r1.seq g1.s hx
        refine ⟨q, us, e1, e2.symm, ?_⟩
        refine t φ Hf0 H0 ρ σ Hf1 H1 ds' _ (S.gr g1) h2 fun vs Hf2 H2 g2 r2 => ?_
        exact k (us ++ vs) Hf2 H2 (g1.trans g2) ((e3.mono g2.f).append r2)
      · cases hF
    · cases hF
  · cases hF
theorem fe_tup {x1} (h : FA X O es Fs) : FE X O (.Tuple es x1 pos) (eL tupD Fs) := by
  intro φ Hf0 H0 ρ σ Hf H d Q S hF k
  obtain ⟨ds, h1, h2⟩ := eL_some hF
  unfold tupD at h2
  split at h2
  · rename_i hl
    cases h2
    refine toE (pe_tup (paW (es := es))) ?_
    refine h φ Hf0 H0 ρ σ Hf H ds _ S h1 fun vs Hf1 H1 g1 r1 => ?_
    refine ⟨by rw [← r1.length]; exact hl, fun p hp => ?_⟩
    have g2 : Gr Hf1 H1 (upd Hf1 p (.tup vs)) (upd H1 p (.tup vs)) := .new g1.s hp
    exact k _ _ _ (g1.trans g2) (.tup (.inl (.inl upd_same)) (r1.mono g2.f))
  · cases h2
theorem fn_lst (h : FA X O es Fs) : FN X O (.List es pos) (eL lstD Fs) := by
  intro φ Hf0 H0 ρ σ Hf H d Q S hF k
  obtain ⟨ds, h1, h2⟩ := eL_some hF
  unfold lstD at h2
  split at h2
  · rename_i hl
    cases h2
    refine toE (pe_lst (paW (es := es))) ?_
    refine h φ Hf0 H0 ρ σ Hf H ds _ S h1 fun vs Hf1 H1 g1 r1 => ?_
    refine ⟨by rw [← r1.length]; exact hl, fun p hp => ?_⟩
    have g2 : Gr Hf1 H1 Hf1 (upd H1 p (.lst vs)) := .own g1.s hp
    exact k p ds vs _ _ rfl (g1.trans g2) (g1.h.free hp) (g1.s.free hp) upd_same r1
  · cases h2
theorem ft_own {L : List Nat} {T : Env → Option Bool} (h : FT X L e T) (hL : L.all (O.contains ·) = true) : FT X O e T := by
  intro φ Hf0 H0 ρ σ Hf H b Q S hF k
  obtain ⟨Hf1, s1, S1⟩ := S.weak L hL
  exact h φ Hf0 H0 ρ σ Hf1 H b _ S1 hF fun Hf2 H2 g2 => k Hf H2 ⟨Same.refl _, g2.h, S.sub.trans g2.h, fun _ _ _ z => z⟩

/-! ### operations by values -/
def Op2 (K : PySem.W.Frag) (r : R2) (f : D → D → Option D) : Prop := ∀ (φ : Nat → Option Addr) (Hf H : Hp) (x y d : D) (v u : V) (Q : VK), Same Hf H → Rpb K φ Hf H x v → Rpb K φ Hf H y u → f x y = some d → (∀ z Hf' H', Gr Hf H Hf' H' → Rp K φ Hf' d z → Q z H') → r v u H Q
def Op2N (K : PySem.W.Frag) (r : R2) (f : D → D → Option D) : Prop := ∀ (φ : Nat → Option Addr) (Hf H : Hp) (x y d : D) (v u : V) (Q : VK), Same Hf H → Rpb K φ Hf H x v → Rpb K φ Hf H y u → f x y = some d →
  (∀ a xs vs H', d = .lst xs → Gr Hf H Hf H' → H a = none → H' a = some (.lst vs) → RpAll K φ Hf xs vs → Q (.ref a) H') → r v u H Q
def OpL (K : PySem.W.Frag) (r : List V → Hp → VK → Prop) (f : List D → Option D) : Prop := ∀ (φ : Nat → Option Addr) (Hf H : Hp) (xs : List D) (d : D) (vs : List V) (Q : VK), Same Hf H → RpbAll K φ Hf H xs vs → f xs = some d → (∀ z Hf' H', Gr Hf H Hf' H' → Rp K φ Hf' d z → Q z H') → r vs H Q
def OpLN (K : PySem.W.Frag) (r : List V → Hp → VK → Prop) (f : List D → Option D) : Prop := ∀ (φ : Nat → Option Addr) (Hf H : Hp) (xs : List D) (d : D) (vs : List V) (Q : VK), Same Hf H → RpbAll K φ Hf H xs vs → f xs = some d →
  (∀ a ys us H', d = .lst ys → Gr Hf H Hf H' → H a = none → H' a = some (.lst us) → RpAll K φ Hf ys us → Q (.ref a) H') → r vs H Q
theorem two {φ : Nat → Option Addr} {Hf0 H0 : Hp} {ρ : Env} {σ : St} {Hf H : Hp} {x y : D} {R : V → V → Hp → Prop} (ha : FB X O a F) (hb : FB X O b G) (S : SR X.K φ Hf0 H0 O ρ σ Hf H) (h1 : F ρ = some x) (h2 : G ρ = some y)
    (k : ∀ v u Hf' H', Gr Hf H Hf' H' → Rpb X.K φ Hf' H' x v → Rpb X.K φ Hf' H' y u → R v u H') : wE X a σ H fun v H1 => wE X b σ H1 fun u H2 => R v u H2 :=
  ha φ Hf0 H0 ρ σ Hf H x _ S h1 fun v Hf1 H1 g1 r1 => hb φ Hf0 H0 ρ σ Hf1 H1 y _ (S.gr g1) h2 fun u Hf2 H2 g2 r2 => k v u Hf2 H2 (g1.trans g2) (r1.gr g2) r2
theorem fe_op {op : Operator} {r : R2} {f : D → D → Option D} (ho : OpR X (binaryOp op) r) (hr : Op2 X.K r f) (ha : FB X O a F) (hb : FB X O b G) : FE X O (.BinOp a op b pos) (e2 f F G) := by
  intro φ Hf0 H0 ρ σ Hf H d Q S hF k
  obtain ⟨x, y, h1, h2, h3⟩ := e2_some hF
  exact toE (pe_op ho peW peW) (two ha hb S h1 h2 fun v u Hf1 H1 g r1 r2 => hr φ Hf1 H1 x y d v u Q g.s r1 r2 h3 fun z Hf2 H2 g2 r3 => k z Hf2 H2 (g.trans g2) r3)
theorem fe_cmp {op : CmpOp} {r : R2} {f : D → D → Option D} (ho : OpR X (compareOp op) r) (hr : Op2 X.K r f) (ha : FB X O a F) (hb : FB X O b G) (hm : behindInMarks op b = false) : FE X O (.Compare a [op] [b] pos) (e2 f F G) := by
  intro φ Hf0 H0 ρ σ Hf H d Q S hF k
  obtain ⟨x, y, h1, h2, h3⟩ := e2_some hF
  exact toE (pe_cmpR ho peW peW hm) (two ha hb S h1 h2 fun v u Hf1 H1 g r1 r2 => hr φ Hf1 H1 x y d v u Q g.s r1 r2 h3 fun z Hf2 H2 g2 r3 => k z Hf2 H2 (g.trans g2) r3)
theorem ft_cmp {op : CmpOp} {r : R2} {f : D → D → Option D} (ho : OpR X (compareOp op) r) (hr : Op2 X.K r f) (ha : FB X O a F) (hb : FB X O b G) (hm : behindInMarks op b = false) : FT X O (.Compare a [op] [b] pos) (tB blD (e2 f F G)) := by
  intro φ Hf0 H0 ρ σ Hf H c Q S hF k
  obtain ⟨d, hd, hc⟩ := tB_some hF
  obtain ⟨x, y, h1, h2, h3⟩ := e2_some hd
  cases d <;> first | cases hc | skip
  refine toT (pt_cmpR ho peW peW hm) (two ha hb S h1 h2 fun v u Hf1 H1 g r1 r2 => hr φ Hf1 H1 x y _ v u _ g.s r1 r2 h3 fun z Hf2 H2 g2 r3 => ?_)
  cases r3
  exact ⟨_, rfl, k Hf2 H2 (g.trans g2)⟩
theorem fe_ix {r : R2} {f : D → D → Option D} (ho : IxR X r) (hr : Op2 X.K r f) (ha : FB X O a F) (hb : FB X O b G) (hs : PlainIx b) : FE X O (.Subscript a b pos) (e2 f F G) := by
  intro φ Hf0 H0 ρ σ Hf H d Q S hF k
  obtain ⟨x, y, h1, h2, h3⟩ := e2_some hF
  exact toE (pe_ix ho peW peW hs) (two ha hb S h1 h2 fun v u Hf1 H1 g r1 r2 => hr φ Hf1 H1 x y d v u Q g.s r1 r2 h3 fun z Hf2 H2 g2 r3 => k z Hf2 H2 (g.trans g2) r3)
theorem ft_val (h : FE X O e F) (he : ∀ whole, isTrue e X.env whole = (do let v ← whole; standAt e.pos; holding [v] (truthy v)) := by intro _; rfl) : FT X O e (tB truD F) := by
  intro φ Hf0 H0 ρ σ Hf H c Q S hF k
  obtain ⟨d, hd, hc⟩ := tB_some hF
  refine toT (pt_truth peW he) ?_
  refine h φ Hf0 H0 ρ σ Hf H d _ S hd fun v Hf1 H1 g1 r1 => ⟨c, ?_, k Hf1 H1 g1⟩
  cases r1 <;> simp only [truD] at hc <;> try (cases hc; rfl)
  case str y => split at hc; rename_i hl; cases hc; exact ⟨hl, rfl⟩; cases hc
  case tup q r => cases hc; refine .inr (.inl ⟨_, SqT_same g1.s q, ?_⟩); cases r <;> rfl
  case lst q r => cases hc; refine .inl ⟨_, .inl (.inl (g1.s _ _ q)), ?_⟩; cases r <;> rfl
  case klst q r => cases hc; refine .inl ⟨_, g1.s.seq q, ?_⟩; cases r <;> rfl
  case obj => cases hc
  case ins => cases hc
  case dct => cases hc
  case dkt => cases hc
  case xtp => cases hc
theorem ft_not {T : Env → Option Bool} (h : FT X O e T) : FT X O (.UnaryOp .Not e pos) (tNot T) := by
  intro φ Hf0 H0 ρ σ Hf H c Q S hF k
  unfold tNot at hF
  split at hF
  · rename_i b hb
    cases hF
    exact toT (pt_not ptW) (h φ Hf0 H0 ρ σ Hf H b _ S hb fun Hf1 H1 g1 => k Hf1 H1 g1)
  · cases hF
def FW (X : Cx) (O : List Nat) (e : Expr) (F : Env → Option Bool) : Prop :=
  ∃ t : TT, PW X e t ∧ ∀ (φ : Nat → Option Addr) (Hf0 H0 : Hp) (ρ : Env) (σ : St) (Hf H : Hp) (b : Bool) (Q : Bool → Hp → Prop), SR X.K φ Hf0 H0 O ρ σ Hf H → F ρ = some b → (∀ Hf' H', Gr Hf H Hf' H' → Q b H') → t σ H Q
theorem ft_w {T : Env → Option Bool} (h : FW X O e T) : FT X O e T := by
  obtain ⟨t, p, h⟩ := h
  intro φ Hf0 H0 ρ σ Hf H c Q S hF k
  exact toT p.pt (h φ Hf0 H0 ρ σ Hf H c Q S hF k)
theorem fw_and1 {T : Env → Option Bool} (h : FT X O e T) : FW X O (.BoolOp .And [e] pos) T := ⟨_, pw_and1 ptW, h⟩
theorem fw_or1 {T : Env → Option Bool} (h : FT X O e T) : FW X O (.BoolOp .Or [e] pos) T := ⟨_, pw_or1 ptW, h⟩
theorem fw_and {rest : List Expr} {T U : Env → Option Bool} (h : FT X O a T) (h2 : FW X O (.BoolOp .And (b :: rest) pos) U) : FW X O (.BoolOp .And (a :: b :: rest) pos) (tAnd T U) := by
  obtain ⟨t, p, h2⟩ := h2
  refine ⟨_, pw_and ptW p, fun φ Hf0 H0 ρ σ Hf H c Q S hF k => ?_⟩
  unfold tAnd at hF
  split at hF
  · rename_i hb
    refine h φ Hf0 H0 ρ σ Hf H true _ S hb fun Hf1 H1 g1 => ?_
    exact iteT (h2 φ Hf0 H0 ρ σ Hf1 H1 c Q (S.gr g1) hF fun Hf2 H2 g2 => k Hf2 H2 (g1.trans g2))
  · rename_i hb
    cases hF
    exact h φ Hf0 H0 ρ σ Hf H false _ S hb fun Hf1 H1 g1 => iteF (k Hf1 H1 g1)
  · cases hF
theorem fw_or {rest : List Expr} {T U : Env → Option Bool} (h : FT X O a T) (h2 : FW X O (.BoolOp .Or (b :: rest) pos) U) : FW X O (.BoolOp .Or (a :: b :: rest) pos) (tOr T U) := by
  obtain ⟨t, p, h2⟩ := h2
  refine ⟨_, pw_or ptW p, fun φ Hf0 H0 ρ σ Hf H c Q S hF k => ?_⟩
  unfold tOr at hF
  split at hF
  · rename_i hb
    cases hF
    exact h φ Hf0 H0 ρ σ Hf H true _ S hb fun Hf1 H1 g1 => iteT (k Hf1 H1 g1)
  · rename_i hb
    refine h φ Hf0 H0 ρ σ Hf H false _ S hb fun Hf1 H1 g1 => ?_
    exact iteF (h2 φ Hf0 H0 ρ σ Hf1 H1 c Q (S.gr g1) hF fun Hf2 H2 g2 => k Hf2 H2 (g1.trans g2))
  · cases hF
/-! and, or, not as values -/
def eAnd (F G : Env → Option D) : Env → Option D := fun ρ => match F ρ with | some d => (match truD d with | some true => G ρ | some false => some d | none => none) | none => none
def eOr (F G : Env → Option D) : Env → Option D := fun ρ => match F ρ with | some d => (match truD d with | some true => some d | some false => G ρ | none => none) | none => none
def notD (d : D) : Option D := match truD d with | some b => some (.bl (!b)) | none => none
theorem tru_of {K : PySem.W.Frag} {φ : Nat → Option Addr} {Hf H : Hp} {d : D} {v : V} {c : Bool} (s : Same Hf H) (r1 : Rp K φ Hf d v) (hc : truD d = some c) : TruV K v H c := by
  cases r1 <;> simp only [truD] at hc <;> try (cases hc; rfl)
  case str y => split at hc; rename_i hl; cases hc; exact ⟨hl, rfl⟩; cases hc
  case tup q r => cases hc; refine .inr (.inl ⟨_, SqT_same s q, ?_⟩); cases r <;> rfl
  case lst q r => cases hc; refine .inl ⟨_, .inl (.inl (s _ _ q)), ?_⟩; cases r <;> rfl
  case klst q r => cases hc; refine .inl ⟨_, s.seq q, ?_⟩; cases r <;> rfl
  case obj => cases hc
  case ins => cases hc
  case dct => cases hc
  case dkt => cases hc
  case xtp => cases hc
theorem fe_and {rest : List Expr} (h : FE X O a F) (h2 : FE X O (.BoolOp .And (b :: rest) pos) G) : FE X O (.BoolOp .And (a :: b :: rest) pos) (eAnd F G) := by
  intro φ Hf0 H0 ρ σ Hf H d Q S hF k
  refine toE (pe_andT peW peW) ?_
  unfold eAnd at hF
  split at hF
  · rename_i x hx
    refine h φ Hf0 H0 ρ σ Hf H x _ S hx fun v Hf1 H1 g1 r1 => ?_
    split at hF
    · rename_i ht
      exact ⟨true, tru_of g1.s r1 ht, iteT (h2 φ Hf0 H0 ρ σ Hf1 H1 d Q (S.gr g1) hF fun v Hf2 H2 g2 r => k v Hf2 H2 (g1.trans g2) r)⟩
    · rename_i ht
      cases hF
      exact ⟨false, tru_of g1.s r1 ht, iteF (k v Hf1 H1 g1 r1)⟩
    · cases hF
  · cases hF
theorem fe_one {op : BoolOp} (h : FE X O a F) : FE X O (.BoolOp op [a] pos) F := by
  intro φ Hf0 H0 ρ σ Hf H d Q S hF k
  exact toE (pe_one peW) (h φ Hf0 H0 ρ σ Hf H d Q S hF k)
theorem fe_not (h : FE X O a F) : FE X O (.UnaryOp .Not a pos) (e1 notD F) := by
  intro φ Hf0 H0 ρ σ Hf H d Q S hF k
  obtain ⟨x, h1, h2⟩ := e1_some hF
  refine toE (pe_notT peW) ?_
  refine h φ Hf0 H0 ρ σ Hf H x _ S h1 fun v Hf1 H1 g1 r1 => ?_
  unfold notD at h2
  split at h2
  · rename_i c hc
    cases h2
    exact ⟨c, tru_of g1.s r1 hc, k _ Hf1 H1 g1 (.bl _)⟩
  · cases h2
end
end FL
namespace FL
variable [HW]
open PySem L2

/-! ### the value operations of the mirror -/
mutual
def toPy : D → PyData
  | .non => .none | .bl b => .bool b | .int i => .int i | .str x => .str x
  | .tup xs => .tuple (toPyAll xs) | .lst xs => .list (toPyAll xs) | .klst xs => .list (toPyAll xs) | .obj _ => .dict [] | .ins _ _ _ => .dict [] | .dct _ _ => .dict [] | .dkt _ _ _ => .dict [] | .xtp _ => .dict []
def toPyAll : List D → List PyData
  | [] => [] | x :: xs => toPy x :: toPyAll xs
end
mutual
def deq : D → D → Bool
  | .non, .non => true
  | .bl a, .bl b => a == b
  | .bl a, .int j => (if a then 1 else 0) == j
  | .int i, .bl b => i == (if b then 1 else 0)
  | .int i, .int j => i == j
  | .str x, .str y => x == y
  | .tup xs, .tup ys => deqAll xs ys
  | .lst xs, .lst ys => deqAll xs ys
  | .lst xs, .klst ys => deqAll xs ys
  | .klst xs, .lst ys => deqAll xs ys
  | .klst xs, .klst ys => deqAll xs ys
  | _, _ => false
def deqAll : List D → List D → Bool
  | [], [] => true
  | x :: xs, y :: ys => deq x y && deqAll xs ys
  | _, _ => false
end
def okD (d : D) : Bool := SeqAt.shaped (toPy d)
mutual
theorem deq_py : ∀ x y : D, deq x y = PyData.eqv (toPy x) (toPy y)
  | .non, y => by cases y <;> simp [deq, toPy, PyData.eqv]
  | .bl a, y => by cases y <;> simp [deq, toPy, PyData.eqv]
  | .int a, y => by cases y <;> simp [deq, toPy, PyData.eqv]
  | .str a, y => by cases y <;> simp [deq, toPy, PyData.eqv]
  | .obj a, y => by cases y <;> simp [deq, toPy, PyData.eqv]
  | .ins c fs xs, y => by cases y <;> simp [deq, toPy, PyData.eqv]
  | .dct fs xs, y => by cases y <;> simp [deq, toPy, PyData.eqv]
  | .dkt fz fs xs, y => by cases y <;> simp [deq, toPy, PyData.eqv]
  | .xtp xs, y => by cases y <;> simp [deq, toPy, PyData.eqv]
  | .tup xs, y => by
    cases y <;> simp only [deq, toPy, PyData.eqv]
    exact deqAll_py xs _
  | .lst xs, y => by
    cases y <;> simp only [deq, toPy, PyData.eqv]
    all_goals exact deqAll_py xs _
  | .klst xs, y => by
    cases y <;> simp only [deq, toPy, PyData.eqv]
    all_goals exact deqAll_py xs _
theorem deqAll_py : ∀ xs ys : List D, deqAll xs ys = PyData.eqvAll (toPyAll xs) (toPyAll ys)
  | [], [] => by simp [deqAll, toPyAll, PyData.eqvAll]
  | [], _ :: _ => by simp [deqAll, toPyAll, PyData.eqvAll]
  | _ :: _, [] => by simp [deqAll, toPyAll, PyData.eqvAll]
  | x :: xs, y :: ys => by
    simp only [deqAll, toPyAll, PyData.eqvAll]
    rw [deq_py x y, deqAll_py xs ys]
end
section
variable {K : PySem.W.Frag} {φ : Nat → Option Addr} {H : Hp}
mutual
theorem Rp.dp : ∀ {d : D} {v : V}, Rp K φ H d v → (toPy d).canLay0 = true → Dp K H v (toPy d)
  | _, _, .non, _ => .non
  | _, _, .bl b, _ => .bl b
  | _, _, .int i, _ => .int i
  | _, _, .str x, _ => .str x
  | _, _, .tup s r, h => .tup s (RpAll.dp r (by simpa [toPy, PyData.canLay0] using h))
  | _, _, .lst s r, h => .lst (.inl (.inl s)) (RpAll.dp r (by simpa [toPy, PyData.canLay0] using h))
  | _, _, .klst s r, h => .lst s (RpAll.dp r (by simpa [toPy, PyData.canLay0] using h))
  | _, _, .obj i, h => by simp [toPy, PyData.canLay0] at h
  | _, _, .ins s l r, h => by simp [toPy, PyData.canLay0] at h
  | _, _, .dct s l r, h => by simp [toPy, PyData.canLay0] at h
  | _, _, .dkt .., h => by simp [toPy, PyData.canLay0] at h
  | _, _, .xtp .., h => by simp [toPy, PyData.canLay0] at h
theorem RpAll.dp : ∀ {ds : List D} {vs : List V}, RpAll K φ H ds vs → PyData.canLayAll0 (toPyAll ds) = true → DpAll K H vs (toPyAll ds)
  | _, _, .nil, _ => .nil
  | _, _, .cons r t, h => by
    have h' := h
    simp only [toPyAll, PyData.canLayAll0, Bool.and_eq_true] at h'
    exact .cons (r.dp h'.1) (RpAll.dp t h'.2)
end
theorem Rp.dp' {d : D} {v : V} (r : Rp K φ H d v) (h : okD d = true) : Dp K H v (toPy d) := r.dp (SeqAt.canLay_of_shaped h)
end

def sEq (x y : Str) : Bool := x.cps.toList == y.cps.toList
theorem sEq_eq (x y : Str) : sEq x y = decide (x = y) := by
  unfold sEq
  rw [Bool.eq_iff_iff]
  simp only [beq_iff_eq, decide_eq_true_eq]
  constructor
  · intro h
    cases x with | mk a => cases y with | mk b => exact congrArg _ (Array.ext' h)
  · rintro rfl; rfl
def scEq : D → D → Option Bool
  | .non, .non => some true | .non, .int _ => some false | .int _, .non => some false | .non, .bl _ => some false | .bl _, .non => some false | .non, .str _ => some false | .str _, .non => some false
  | .int i, .int j => some (i == j) | .bl a, .bl b => some (a == b) | .str a, .str b => some (sEq a b)
  | .int _, .str _ => some false | .str _, .int _ => some false | .bl _, .str _ => some false | .str _, .bl _ => some false
  | _, _ => none
def eqB (x y : D) : Option Bool := match scEq x y with | some b => some b | none => if okD x && okD y then some (deq x y) else none
def eqD (x y : D) : Option D := match eqB x y with | some b => some (.bl b) | none => none
def neD (x y : D) : Option D := match eqB x y with | some b => some (.bl (!b)) | none => none
def addD : D → D → Option D
  | .int i, .int j => some (.int (i + j))
  | .str a, .str b => if a.length + b.length ≤ sizeLine then some (.str (a ++ b)) else none
  | .tup xs, .tup ys => if xs.length + ys.length ≤ sizeLine then some (.tup (xs ++ ys)) else none
  | .lst xs, .lst ys => if xs.length + ys.length ≤ sizeLine then some (.lst (xs ++ ys)) else none
  | _, _ => none
def catD : D → D → Option D
  | .lst xs, .lst ys => if xs.length + ys.length ≤ sizeLine then some (.lst (xs ++ ys)) else none
  | _, _ => none
def subD : D → D → Option D | .int i, .int j => some (.int (i - j)) | _, _ => none
def mulD : D → D → Option D | .int i, .int j => if (-(2 ^ 64) < i ∧ i < 2 ^ 64) ∨ (-(2 ^ 64) < j ∧ j < 2 ^ 64) then some (.int (i * j)) else none | _, _ => none
def fdivD : D → D → Option D | .int i, .int j => if 0 < j ∧ j < 1073741824 then some (.int (i / j)) else none | _, _ => none
def modD : D → D → Option D | .int i, .int j => if 0 < j then some (.int (i % j)) else none | _, _ => none
def powD : D → D → Option D | .int i, .int j => if 0 ≤ j ∧ j ≤ 1000000 ∧ i.natAbs < 2 ^ 64 then some (.int (i ^ j.toNat)) else none | _, _ => none
def ltD : D → D → Option D | .int i, .int j => some (.bl (decide (i < j))) | _, _ => none
def leD : D → D → Option D | .int i, .int j => some (.bl (decide (i ≤ j))) | _, _ => none
def gtD : D → D → Option D | .int i, .int j => some (.bl (decide (j < i))) | _, _ => none
def geD : D → D → Option D | .int i, .int j => some (.bl (decide (j ≤ i))) | _, _ => none
def isB (x y : D) : Option Bool := match y with
  | .non => some (match x with | .non => true | _ => false)
  | .bl b => some (match x with | .bl c => c == b | _ => false)
  | _ => none
def isD (x y : D) : Option D := match isB x y with | some b => some (.bl b) | none => none
def isntD (x y : D) : Option D := match isB x y with | some b => some (.bl (!b)) | none => none
def flatD : D → Bool | .non => true | .bl _ => true | .int _ => true | .str _ => true | _ => false
def isLst : D → Bool | .lst _ => true | .klst _ => true | _ => false
def inB (x y : D) : Option Bool := match seqD y with
  | some xs => if flatD x && xs.all flatD then some (xs.any fun z => deq z x) else if isLst y && okD x && okD y then some (xs.any fun z => deq z x) else none
  | none => match x, y with
    | .str a, .str b => some (!(Builtin.Str.occurrences b a 0 b.length 1).isEmpty)
    | _, _ => none
def inD (x y : D) : Option D := match inB x y with | some b => some (.bl b) | none => none
def ninD (x y : D) : Option D := match inB x y with | some b => some (.bl (!b)) | none => none
def ixD (x y : D) : Option D := match y with
  | .int i => match x with
    | .lst xs => atI xs i | .klst xs => atI xs i | .tup xs => atI xs i
    | .str z => if z.length ≤ sizeLine then (match atI z.cps.toList i with | some c => some (.str ⟨#[c]⟩) | none => none) else none
    | _ => none
  | _ => none

section
variable {X : Cx}
def rBoolOp (p : Bool → Bool) (f : V → V → Option Bool) : R2 := fun x y H Q => ∃ b, f x y = some b ∧ Q (.bl (p b)) H
/-! int operations -/
theorem Rpb.int {K : PySem.W.Frag} {φ : Nat → Option Addr} {Hf H : Hp} {i : Int} {v : V} (r : Rpb K φ Hf H (.int i) v) : v = .int i := by
  rcases r with r | ⟨a, xs, vs, h1, _⟩
  · cases r; rfl
  · cases h1
theorem Rpb.str {K : PySem.W.Frag} {φ : Nat → Option Addr} {Hf H : Hp} {i : Str} {v : V} (r : Rpb K φ Hf H (.str i) v) : v = .str i := by
  rcases r with r | ⟨a, xs, vs, h1, _⟩
  · cases r; rfl
  · cases h1
theorem Rpb.tup {K : PySem.W.Frag} {φ : Nat → Option Addr} {Hf H : Hp} {xs : List D} {v : V} (r : Rpb K φ Hf H (.tup xs) v) : ∃ a vs, v = .ref a ∧ SqT K Hf a vs ∧ RpAll K φ Hf xs vs := by
  rcases r with r | ⟨a, xs, vs, h1, _⟩
  · cases r with | tup q r => exact ⟨_, _, rfl, q, r⟩
  · cases h1
theorem Rpb.lst {K : PySem.W.Frag} {φ : Nat → Option Addr} {Hf H : Hp} {xs : List D} {v : V} (s : Same Hf H) (r : Rpb K φ Hf H (.lst xs) v) : ∃ a vs, v = .ref a ∧ H a = some (.lst vs) ∧ RpAll K φ Hf xs vs := by
  rcases r with r | ⟨a, xs, vs, h1, h2, h3, h4⟩
  · cases r with | lst q r => exact ⟨_, _, rfl, s _ _ q, r⟩
  · cases h1; exact ⟨_, _, h2, h3, h4⟩
theorem Rpb.scal_v {K : PySem.W.Frag} {φ : Nat → Option Addr} {Hf H : Hp} {d : D} {v : V} (r : Rpb K φ Hf H d v) (h : scal d = true) : Rp K φ Hf d v := by
  rcases r with r | ⟨a, xs, vs, h1, h2, h3, h4⟩
  · exact r
  · subst h1; cases h
theorem o_sub {K} : Op2 K (rI0 fun i j => .int (i - j)) subD := fun φ Hf H x y d v u Q s r1 r2 e k => by
  unfold subD at e; split at e
  · cases e; exact ⟨_, _, r1.int, r2.int, k _ Hf H (.refl s) (.int _)⟩
  · cases e
theorem o_mul {K} : Op2 K (rI CMul fun i j => .int (i * j)) mulD := fun φ Hf H x y d v u Q s r1 r2 e k => by
  unfold mulD at e; split at e
  · split at e
    · rename_i c; cases e; exact ⟨_, _, r1.int, r2.int, c, k _ Hf H (.refl s) (.int _)⟩
    · cases e
  · cases e
theorem o_fdiv {K} : Op2 K (rI CDiv fun i j => .int (i / j)) fdivD := fun φ Hf H x y d v u Q s r1 r2 e k => by
  unfold fdivD at e; split at e
  · split at e
    · rename_i c; cases e; exact ⟨_, _, r1.int, r2.int, c, k _ Hf H (.refl s) (.int _)⟩
    · cases e
  · cases e
theorem o_mod {K} : Op2 K (rI (fun _ j => 0 < j) fun i j => .int (i % j)) modD := fun φ Hf H x y d v u Q s r1 r2 e k => by
  unfold modD at e; split at e
  · split at e
    · rename_i c; cases e; exact ⟨_, _, r1.int, r2.int, c, k _ Hf H (.refl s) (.int _)⟩
    · cases e
  · cases e
theorem o_pow {K} : Op2 K (rI CPow fun i j => .int (i ^ j.toNat)) powD := fun φ Hf H x y d v u Q s r1 r2 e k => by
  unfold powD at e; split at e
  · split at e
    · rename_i c; cases e; exact ⟨_, _, r1.int, r2.int, c, k _ Hf H (.refl s) (.int _)⟩
    · cases e
  · cases e
theorem o_lt {K} : Op2 K (rI0 fun i j => .bl (decide (i < j))) ltD := fun φ Hf H x y d v u Q s r1 r2 e k => by
  unfold ltD at e; split at e
  · cases e; exact ⟨_, _, r1.int, r2.int, k _ Hf H (.refl s) (.bl _)⟩
  · cases e
theorem o_le {K} : Op2 K (rI0 fun i j => .bl (decide (i ≤ j))) leD := fun φ Hf H x y d v u Q s r1 r2 e k => by
  unfold leD at e; split at e
  · cases e; exact ⟨_, _, r1.int, r2.int, k _ Hf H (.refl s) (.bl _)⟩
  · cases e
theorem o_gt {K} : Op2 K (rI0 fun i j => .bl (decide (j < i))) gtD := fun φ Hf H x y d v u Q s r1 r2 e k => by
  unfold gtD at e; split at e
  · cases e; exact ⟨_, _, r1.int, r2.int, k _ Hf H (.refl s) (.bl _)⟩
  · cases e
theorem o_ge {K} : Op2 K (rI0 fun i j => .bl (decide (j ≤ i))) geD := fun φ Hf H x y d v u Q s r1 r2 e k => by
  unfold geD at e; split at e
  · cases e; exact ⟨_, _, r1.int, r2.int, k _ Hf H (.refl s) (.bl _)⟩
  · cases e
/-! + -/
def rAddX (K : PySem.W.Frag) : R2 := fun x y H Q => (rI0 (fun i j => .int (i + j)) x y H Q ∨ (∃ i j, x = .str i ∧ y = .str j ∧ i.length + j.length ≤ sizeLine ∧ Q (.str (i ++ j)) H)) ∨ (rCat x y H Q ∨ rCatA K x y H Q)
theorem op_addX : OpR X (binaryOp .Add) (rAddX X.K) := OpR.or (OpR.or op_add op_add_str) (OpR.or op_cat op_catA)
theorem o_add {K} : Op2 K (rAddX K) addD := fun φ Hf H x y d v u Q s r1 r2 e k => by
  unfold addD at e; split at e
  · cases e; exact .inl (.inl ⟨_, _, r1.int, r2.int, k _ Hf H (.refl s) (.int _)⟩)
  · split at e
    · rename_i c; cases e; exact .inl (.inr ⟨_, _, r1.str, r2.str, c, k _ Hf H (.refl s) (.str _)⟩)
    · cases e
  · split at e
    · rename_i c; cases e
      obtain ⟨a, vs, e1, q1, w1⟩ := r1.tup
      obtain ⟨b, us, e2, q2, w2⟩ := r2.tup
      refine .inr (.inr ⟨a, b, vs, us, e1, e2, SqT_same s q1, SqT_same s q2, by rw [← w1.length, ← w2.length]; exact c, fun h => ?_, fun _ h => ?_, fun _ _ p hp => ?_⟩)
      · subst h; cases w1; exact k _ Hf H (.refl s) (.tup q2 w2)
      · subst h; cases w2; rw [List.append_nil] at k; exact k _ Hf H (.refl s) (.tup q1 w1)
      · have g : Gr Hf H _ _ := .new (o := .tup (vs ++ us)) s hp
        exact k _ _ _ g (.tup (.inl (.inl upd_same)) ((w1.append w2).mono g.f))
    · cases e
  · split at e
    · rename_i c; cases e
      obtain ⟨a, vs, e1, q1, w1⟩ := r1.lst s
      obtain ⟨b, us, e2, q2, w2⟩ := r2.lst s
      refine .inr (.inl ⟨a, b, vs, us, e1, e2, q1, q2, by rw [← w1.length, ← w2.length]; exact c, fun p hp => ?_⟩)
      have g : Gr Hf H _ _ := .new (o := .lst (vs ++ us)) s hp
      exact k _ _ _ g (.lst upd_same ((w1.append w2).mono g.f))
    · cases e
  · cases e
/-! ==, is, in -/
theorem scEq_v {K : PySem.W.Frag} {φ : Nat → Option Addr} {Hf H : Hp} {x y : D} {v u : V} {b : Bool} (r1 : Rpb K φ Hf H x v) (r2 : Rpb K φ Hf H y u) (h : scEq x y = some b) : L2.scal v u = true ∧ decide (v = u) = b := by
  have hx : scal x = true := by cases x <;> first | rfl | (cases y <;> cases h)
  have hy : scal y = true := by cases y <;> first | rfl | (cases x <;> cases h)
  have w1 := r1.scal_v hx
  have w2 := r2.scal_v hy
  cases w1 <;> first | (cases hx) | skip
  all_goals (cases w2 <;> first | (cases hy) | skip)
  all_goals (simp only [scEq, Option.some.injEq, reduceCtorEq] at h)
  all_goals (subst h; refine ⟨rfl, ?_⟩)
  all_goals first | rfl | (simp [sEq_eq]; done) | (rw [Bool.eq_iff_iff]; simp [sEq_eq])
def rEqX (K : PySem.W.Frag) : R2 := fun x y H Q => rEq x y H Q ∨ rEqD K x y H Q
def rNeX (K : PySem.W.Frag) : R2 := fun x y H Q => rNe x y H Q ∨ rNeD K x y H Q
theorem op_eqX (hu : X.A.units + 64 < cLine) : OpR X (compareOp .Eq) (rEqX X.K) := OpR.or op_eq (op_eqD hu)
theorem op_neX (hu : X.A.units + 64 < cLine) : OpR X (compareOp .NotEq) (rNeX X.K) := OpR.or op_ne (op_neD hu)
theorem o_eq {K} : Op2 K (rEqX K) eqD := fun φ Hf H x y d v u Q s r1 r2 e k => by
  unfold eqD eqB at e
  cases hs : scEq x y with
  | some b =>
    rw [hs] at e; cases e
    obtain ⟨h1, h2⟩ := scEq_v r1 r2 hs
    exact .inl ⟨h1, by rw [h2]; exact k _ Hf H (.refl s) (.bl _)⟩
  | none =>
    rw [hs] at e; simp only at e
    by_cases hc : (okD x && okD y) = true
    · rw [if_pos hc] at e; cases e
      have hc' : okD x = true ∧ okD y = true := by simpa using hc
      exact .inr ⟨toPy x, toPy y, (r1.all s).dp' hc'.1, (r2.all s).dp' hc'.2, hc'.1, hc'.2, by rw [← deq_py]; exact k _ Hf H (.refl s) (.bl _)⟩
    · rw [if_neg hc] at e; cases e
theorem o_ne {K} : Op2 K (rNeX K) neD := fun φ Hf H x y d v u Q s r1 r2 e k => by
  unfold neD eqB at e
  cases hs : scEq x y with
  | some b =>
    rw [hs] at e; cases e
    obtain ⟨h1, h2⟩ := scEq_v r1 r2 hs
    exact .inl ⟨h1, by rw [h2]; exact k _ Hf H (.refl s) (.bl _)⟩
  | none =>
    rw [hs] at e; simp only at e
    by_cases hc : (okD x && okD y) = true
    · rw [if_pos hc] at e; cases e
      have hc' : okD x = true ∧ okD y = true := by simpa using hc
      exact .inr ⟨toPy x, toPy y, (r1.all s).dp' hc'.1, (r2.all s).dp' hc'.2, hc'.1, hc'.2, by rw [← deq_py]; exact k _ Hf H (.refl s) (.bl _)⟩
    · rw [if_neg hc] at e; cases e
def isV (x y : V) : Option Bool := match y with
  | .non => some (decide (x = .non)) | .bl b => some (decide (x = .bl b)) | _ => none
theorem plain_of {x : V} {v : Value} (r : RelV x v) (b : Bool) : plainIs v (.bool b) = true := by
  cases x <;> first | (obtain ⟨t, rfl⟩ := r; rfl) | (cases r; rfl)
theorem bool_iff {x : V} {v : Value} (r : RelV x v) (b : Bool) : (v == Value.bool b) = decide (x = .bl b) := by
  rw [Bool.eq_iff_iff]
  simp only [beq_iff_eq, decide_eq_true_eq]
  cases x with
  | bl c =>
    cases r
    constructor
    · intro h; cases h; rfl
    · intro h; cases h; rfl
  | _ =>
    first
      | (obtain ⟨t, rfl⟩ := r; constructor <;> (intro h; cases h))
      | (cases r; constructor <;> (intro h; cases h))
theorem op_isX : OpR X (compareOp .Is) (rBoolOp id isV) := by
  intro pins s σ H x y v u Q I rx ry h
  obtain ⟨b, e, q⟩ := h
  cases y with
  | non =>
    simp only [isV, Option.some.injEq] at e
    subst e
    exact op_isN pins s σ H x _ v u Q I rx ry ⟨rfl, q⟩
  | bl c =>
    simp only [isV, Option.some.injEq] at e
    subst e
    cases (show u = Value.bool c from ry)
    refine wpAny_is_plain (plain_of rx c) ⟨.bl (decide (x = .bl c)), H, I, ?_, q⟩
    rw [bool_iff rx c]; rfl
  | _ => simp [isV] at e
theorem isB_v {K : PySem.W.Frag} {φ : Nat → Option Addr} {Hf H : Hp} {x y : D} {v u : V} {b : Bool} (r1 : Rpb K φ Hf H x v) (r2 : Rpb K φ Hf H y u) (h : isB x y = some b) : isV v u = some b := by
  unfold isB at h
  split at h
  · cases h
    cases r2.scal_v rfl
    rcases r1 with r1 | ⟨a, xs, vs, h1, h2, h3, h4⟩
    · cases r1 <;> rfl
    · subst h1 h2; rfl
  · rename_i c
    cases h
    cases r2.scal_v rfl
    rcases r1 with r1 | ⟨a, xs, vs, h1, h2, h3, h4⟩
    · cases r1 <;> simp [isV]
      rw [Bool.eq_iff_iff]; simp
    · subst h1 h2; rfl
  · cases h
theorem o_is {K} : Op2 K (rBoolOp id isV) isD := fun φ Hf H x y d v u Q s r1 r2 e k => by
  unfold isD at e; split at e
  · rename_i b hb; cases e; exact ⟨b, isB_v r1 r2 hb, k _ Hf H (.refl s) (.bl _)⟩
  · cases e
theorem flat_v {K : PySem.W.Frag} {φ : Nat → Option Addr} {H : Hp} {x : D} {v : V} (r : Rp K φ H x v) (h : flatD x = true) : flatV v = true := by
  cases r <;> first | rfl | (cases h)
theorem flat_all {K : PySem.W.Frag} {φ : Nat → Option Addr} {H : Hp} : ∀ {xs : List D} {vs : List V}, RpAll K φ H xs vs → xs.all flatD = true → vs.all flatV = true
  | _, _, .nil, _ => rfl
  | _, _, .cons r t, h => by
    simp only [List.all_cons, Bool.and_eq_true] at h ⊢
    exact ⟨flat_v r h.1, flat_all t h.2⟩
theorem eqV_deq {K : PySem.W.Frag} {φ : Nat → Option Addr} {H H2 : Hp} {x y : D} {v u : V} (r : Rp K φ H x v) (q : Rp K φ H2 y u) (hx : flatD x = true) (hy : flatD y = true) : eqV v u = deq x y := by
  cases r <;> first | (cases hx) | skip
  all_goals (cases q <;> first | (cases hy) | skip)
  all_goals first | rfl | (simp [eqV, deq])
theorem inV_any {K : PySem.W.Frag} {φ : Nat → Option Addr} {H H2 : Hp} {x : D} {v : V} (r : Rp K φ H2 x v) (hx : flatD x = true) : ∀ {xs : List D} {vs : List V}, RpAll K φ H xs vs → xs.all flatD = true → inV v vs = xs.any fun z => deq z x
  | _, _, .nil, _ => rfl
  | _, _, .cons q t, h => by
    simp only [List.all_cons, Bool.and_eq_true] at h
    have ih := inV_any r hx t h.2
    unfold inV at ih ⊢
    rw [List.any_cons, List.any_cons, ih, eqV_deq q r h.1 hx]
def rInX (K : PySem.W.Frag) : R2 := fun x y H Q => (rIn K false x y H Q ∨ rInD K x y H Q) ∨ (∃ i j, x = .str i ∧ y = .str j ∧ Q (.bl (!(Builtin.Str.occurrences j i 0 j.length 1).isEmpty)) H)
def rNinX (K : PySem.W.Frag) : R2 := fun x y H Q => (rIn K true x y H Q ∨ rNotInD K x y H Q) ∨ (∃ i j, x = .str i ∧ y = .str j ∧ Q (.bl (!(!(Builtin.Str.occurrences j i 0 j.length 1).isEmpty))) H)
theorem op_inX (hu : X.A.units + 65 < cLine) : OpR X (compareOp .In) (rInX X.K) := OpR.or (OpR.or op_in_seq (op_inD hu)) op_in_str
theorem op_ninX (hu : X.A.units + 65 < cLine) : OpR X (compareOp .NotIn) (rNinX X.K) := OpR.or (OpR.or op_notIn_seq (op_notInD hu)) op_notIn_str
theorem any_py {d : D} : ∀ xs : List D, (toPyAll xs).any (fun z => PyData.eqv z (toPy d)) = xs.any fun z => deq z d
  | [] => rfl
  | x :: xs => by
    show (toPy x :: toPyAll xs).any _ = _
    rw [List.any_cons, List.any_cons, any_py xs, deq_py]
theorem toPy_lst {y : D} {xs : List D} (h : seqD y = some xs) (hl : isLst y = true) : toPy y = .list (toPyAll xs) := by
  cases y with
  | lst ys => simp only [seqD, Option.some.injEq] at h; subst h; simp [toPy]
  | klst ys => simp only [seqD, Option.some.injEq] at h; subst h; simp [toPy]
  | _ => cases hl
theorem o_in {K} : Op2 K (rInX K) inD := fun φ Hf H x y d v u Q s r1 r2 e k => by
  unfold inD at e; split at e
  · rename_i b hb; cases e
    unfold inB at hb
    split at hb
    · rename_i xs hx
      split at hb
      · rename_i hc
        cases hb
        have hc' : flatD x = true ∧ xs.all flatD = true := by simpa [List.all_eq_true] using hc
        obtain ⟨p, vs, e1, e2, e3⟩ := r2.seq s hx
        have w1 := r1.scal_v (by cases x <;> first | rfl | (cases hc'.1))
        exact .inl (.inl ⟨p, vs, e1, e2, flat_v w1 hc'.1, flat_all e3 hc'.2, by
          show Q (.bl (if false = true then _ else inV v vs)) H
          rw [if_neg Bool.false_ne_true, inV_any w1 hc'.1 e3 hc'.2]; exact k _ Hf H (.refl s) (.bl _)⟩)
      · split at hb
        · rename_i hc
          cases hb
          have hc' : (isLst y = true ∧ okD x = true) ∧ okD y = true := by simpa using hc
          have e4 := toPy_lst hx hc'.1.1
          have h5 : okD y = true := hc'.2
          refine .inl (.inr ⟨toPy x, toPyAll xs, (r1.all s).dp' hc'.1.2, by rw [← e4]; exact (r2.all s).dp' h5, hc'.1.2, by rw [← e4]; exact h5, ?_⟩)
          rw [any_py]; exact k _ Hf H (.refl s) (.bl _)
        · cases hb
    · split at hb
      · cases hb
        exact .inr ⟨_, _, r1.str, r2.str, k _ Hf H (.refl s) (.bl _)⟩
      · cases hb
  · cases e
theorem o_nin {K} : Op2 K (rNinX K) ninD := fun φ Hf H x y d v u Q s r1 r2 e k => by
  unfold ninD at e; split at e
  · rename_i b hb; cases e
    unfold inB at hb
    split at hb
    · rename_i xs hx
      split at hb
      · rename_i hc
        cases hb
        have hc' : flatD x = true ∧ xs.all flatD = true := by simpa [List.all_eq_true] using hc
        obtain ⟨p, vs, e1, e2, e3⟩ := r2.seq s hx
        have w1 := r1.scal_v (by cases x <;> first | rfl | (cases hc'.1))
        exact .inl (.inl ⟨p, vs, e1, e2, flat_v w1 hc'.1, flat_all e3 hc'.2, by
          show Q (.bl (if true = true then !inV v vs else _)) H
          rw [if_pos rfl, inV_any w1 hc'.1 e3 hc'.2]; exact k _ Hf H (.refl s) (.bl _)⟩)
      · split at hb
        · rename_i hc
          cases hb
          have hc' : (isLst y = true ∧ okD x = true) ∧ okD y = true := by simpa using hc
          have e4 := toPy_lst hx hc'.1.1
          have h5 : okD y = true := hc'.2
          refine .inl (.inr ⟨toPy x, toPyAll xs, (r1.all s).dp' hc'.1.2, by rw [← e4]; exact (r2.all s).dp' h5, hc'.1.2, by rw [← e4]; exact h5, ?_⟩)
          rw [any_py]; exact k _ Hf H (.refl s) (.bl _)
        · cases hb
    · split at hb
      · cases hb
        exact .inr ⟨_, _, r1.str, r2.str, k _ Hf H (.refl s) (.bl _)⟩
      · cases hb
  · cases e
/-! items -/
theorem atI_rp {K : PySem.W.Frag} {φ : Nat → Option Addr} {H : Hp} {xs : List D} {vs : List V} {i : Int} {d : D} (r : RpAll K φ H xs vs) (h : atI xs i = some d) : ∃ v, atI vs i = some v ∧ Rp K φ H d v := by
  unfold atI at h ⊢
  rw [r.length] at h
  cases q : ixN vs.length i with
  | none => rw [q] at h; cases h
  | some j =>
    rw [q] at h
    exact r.get h
theorem o_ix {K} : Op2 K (rIx K) ixD := fun φ Hf H x y d v u Q s r1 r2 e k => by
  unfold ixD at e; split at e
  · rename_i i
    have hu := r2.int
    subst hu
    split at e
    · obtain ⟨a, vs, e1, q1, w1⟩ := r1.lst s
      obtain ⟨z, h1, h2⟩ := atI_rp w1 e
      exact .inl ⟨a, vs, i, z, e1, rfl, .inl (.inl q1), h1, k z Hf H (.refl s) h2⟩
    · rename_i xs
      obtain ⟨p, vs, e1, e2, e3⟩ := r1.seq s (xs := xs) rfl
      obtain ⟨z, h1, h2⟩ := atI_rp e3 e
      rcases e2 with e2 | e2
      · exact .inl ⟨p, vs, i, z, e1, rfl, e2, h1, k z Hf H (.refl s) h2⟩
      · exact .inr (.inl ⟨p, vs, i, z, e1, rfl, e2, h1, k z Hf H (.refl s) h2⟩)
    · obtain ⟨a, vs, e1, q1, w1⟩ := r1.tup
      obtain ⟨z, h1, h2⟩ := atI_rp w1 e
      exact .inr (.inl ⟨a, vs, i, z, e1, rfl, SqT_same s q1, h1, k z Hf H (.refl s) h2⟩)
    · have hv := r1.str
      subst hv
      split at e
      · rename_i hl
        split at e
        · rename_i c hc
          cases e
          exact .inr (.inr ⟨_, i, c, rfl, rfl, hl, hc, k _ Hf H (.refl s) (.str _)⟩)
        · cases e
      · cases e
    · cases e
  · cases e
end
end FL
namespace FL
variable [HW]
open PySem L2

/-! ### slices -/
def FO (X : Cx) (O : List Nat) (e : Option Expr) (F : Env → Option (Option Int)) : Prop :=
  ∃ t : TO, PO X e t ∧ ∀ (φ : Nat → Option Addr) (Hf0 H0 : Hp) (ρ : Env) (σ : St) (Hf H : Hp) (o : Option Int) (Q : Option Int → Hp → Prop), SR X.K φ Hf0 H0 O ρ σ Hf H → F ρ = some o → (∀ Hf' H', Gr Hf H Hf' H' → Q o H') → t σ H Q
def pNo : Env → Option (Option Int) := fun _ => some none
def pYes (F : Env → Option D) : Env → Option (Option Int) := fun ρ => match F ρ with | some (.int i) => some (some i) | _ => none
def cutL (xs : List D) (lo hi : Option Int) : List D := (xs.drop (HT.sIx xs.length 0 lo)).take (HT.sIx xs.length xs.length hi - HT.sIx xs.length 0 lo)
def slD (x : D) (lo hi : Option Int) : Option D := match x with
  | .lst xs => some (.lst (cutL xs lo hi)) | .klst xs => some (.lst (cutL xs lo hi)) | .tup xs => some (.tup (cutL xs lo hi))
  | .str z => if z.length ≤ sizeLine then some (.str (cutS z lo hi)) else none | _ => none
def slN (x : D) (lo hi : Option Int) : Option D := match x with
  | .lst xs => some (.lst (cutL xs lo hi)) | .klst xs => some (.lst (cutL xs lo hi)) | _ => none
def eSl (f : D → Option Int → Option Int → Option D) (F : Env → Option D) (L U : Env → Option (Option Int)) : Env → Option D := fun ρ =>
  match F ρ with | some x => (match L ρ with | some l => (match U ρ with | some u => f x l u | none => none) | none => none) | none => none
section
variable {X : Cx} {O : List Nat} {e : Expr} {F : Env → Option D} {p2 pos : Pos} {lo hi : Option Expr} {L U : Env → Option (Option Int)}
theorem fo_no : FO X O none pNo := ⟨_, po_none, fun φ Hf0 H0 ρ σ Hf H o Q S h k => by cases h; exact k Hf H (.refl S.sub)⟩
theorem fo_yes (h : FE X O e F) : FO X O (some e) (pYes F) := ⟨_, po_some peW, fun φ Hf0 H0 ρ σ Hf H o Q S hF k => by
  unfold pYes at hF
  split at hF
  · rename_i i hi
    cases hF
    refine h φ Hf0 H0 ρ σ Hf H _ _ S hi fun v Hf1 H1 g r => ?_
    cases r
    exact ⟨i, rfl, k Hf1 H1 g⟩
  · cases hF⟩
theorem eSl_some {f : D → Option Int → Option Int → Option D} {ρ : Env} {d : D} (h : eSl f F L U ρ = some d) : ∃ x l u, F ρ = some x ∧ L ρ = some l ∧ U ρ = some u ∧ f x l u = some d := by
  unfold eSl at h
  cases h1 : F ρ with
  | none => rw [h1] at h; cases h
  | some x =>
    simp only [h1] at h
    cases h2 : L ρ with
    | none => simp only [h2] at h; cases h
    | some l =>
      simp only [h2] at h
      cases h3 : U ρ with
      | none => simp only [h3] at h; cases h
      | some u => simp only [h3] at h; exact ⟨x, l, u, rfl, rfl, rfl, h⟩
theorem cut_rp {K : PySem.W.Frag} {φ : Nat → Option Addr} {H : Hp} {xs : List D} {vs : List V} (r : RpAll K φ H xs vs) (lo hi : Option Int) : RpAll K φ H (cutL xs lo hi) (cutV vs lo hi) := by
  unfold cutL cutV
  rw [r.length]
  exact (r.drop _).take _
def rSlX (K : PySem.W.Frag) : V → Option Int → Option Int → Hp → VK → Prop := fun x lo hi H Q => (rSlL K x lo hi H Q ∨ rSlA K x lo hi H Q) ∨ rSlS x lo hi H Q
theorem sl_X : SlR X (rSlX X.K) := SlR.or (SlR.or sl_list sl_tupA) sl_str
theorem fe_sl (h : FB X O e F) (hl : FO X O lo L) (hu : FO X O hi U) : FE X O (.Subscript e (.Slice lo hi none p2) pos) (eSl slD F L U) := by
  obtain ⟨tl, pl, kl⟩ := hl
  obtain ⟨tu, pu, ku⟩ := hu
  intro φ Hf0 H0 ρ σ Hf H d Q S hF k
  obtain ⟨x, l, u, h1, h2, h3, h4⟩ := eSl_some hF
  refine toE (pe_slice sl_X peW pl pu) ?_
  refine h φ Hf0 H0 ρ σ Hf H x _ S h1 fun v Hf1 H1 g1 r1 => ?_
  refine kl φ Hf0 H0 ρ σ Hf1 H1 l _ (S.gr g1) h2 fun Hf2 H2 g2 => ?_
  refine ku φ Hf0 H0 ρ σ Hf2 H2 u _ ((S.gr g1).gr g2) h3 fun Hf3 H3 g3 => ?_
  have g := g1.trans (g2.trans g3)
  have r := r1.gr (g2.trans g3)
  unfold slD at h4
  split at h4
  · rename_i xs
    cases h4
    obtain ⟨p, vs, e1, e2, e3⟩ := r.lst g3.s
    refine .inl (.inl ⟨p, vs, e1, .inl (.inl e2), fun q hq => ?_⟩)
    have gn : Gr Hf3 H3 _ _ := .new (o := .lst (cutV vs l u)) g3.s hq
    exact k _ _ _ (g.trans gn) (.lst upd_same ((cut_rp e3 l u).mono gn.f))
  · rename_i xs
    cases h4
    rcases r with r | ⟨_, _, _, h, _⟩
    · cases r with
      | klst q r =>
        rename_i vs
        refine .inl (.inl ⟨_, vs, rfl, g3.s.seq q, fun q hq => ?_⟩)
        have gn : Gr Hf3 H3 _ _ := .new (o := .lst (cutV vs l u)) g3.s hq
        exact k _ _ _ (g.trans gn) (.lst upd_same ((cut_rp r l u).mono gn.f))
    · cases h
  · rename_i xs
    cases h4
    obtain ⟨p, vs, e1, e2, e3⟩ := r.tup
    refine .inl (.inr ⟨p, vs, e1, SqT_same g3.s e2, fun hw => ?_, fun _ q hq => ?_⟩)
    · have e4 : cutL xs l u = xs := by
        unfold cutL
        rw [e3.length, hw.1, hw.2]
        rw [List.drop_zero, ← e3.length]
        simp
      rw [e4] at k
      exact k _ _ _ g (e1 ▸ .tup e2 e3)
    · have gn : Gr Hf3 H3 _ _ := .new (o := .tup (cutV vs l u)) g3.s hq
      exact k _ _ _ (g.trans gn) (.tup (.inl (.inl upd_same)) ((cut_rp e3 l u).mono gn.f))
  · split at h4
    · rename_i hz
      cases h4
      have := r.str
      subst this
      exact .inr ⟨_, rfl, hz, k _ _ _ g (.str _)⟩
    · cases h4
  · cases h4
def revD (x : D) : Option D := match x with | .lst xs => some (.lst xs.reverse) | .klst xs => some (.lst xs.reverse) | _ => none
theorem fn_rev {k : Nat} {p1 p3 : Pos} (h : FB X O e F) : FN X O (.Subscript e (.Slice none none (some (.UnaryOp .USub (.Constant (.int 1) k p1) p2)) p3) pos) (e1 revD F) := by
  intro φ Hf0 H0 ρ σ Hf H d Q S hF k
  obtain ⟨x, h1, h2⟩ := e1_some hF
  refine toE (pe_revL peW) ?_
  refine h φ Hf0 H0 ρ σ Hf H x _ S h1 fun v Hf1 H1 g1 r1 => ?_
  have hs : ∃ xs, seqD x = some xs ∧ isLst x = true ∧ d = .lst xs.reverse := by
    unfold revD at h2; split at h2 <;> first | (cases h2; exact ⟨_, rfl, rfl, rfl⟩) | cases h2
  obtain ⟨xs, hx, hl, rfl⟩ := hs
  have hq : ∃ p vs, v = .ref p ∧ SqL X.K H1 p vs ∧ RpAll X.K φ Hf1 xs vs := by
    cases x <;> first | (cases hl) | skip
    · obtain ⟨p, vs, e1, e2, e3⟩ := r1.lst g1.s
      cases hx
      exact ⟨p, vs, e1, .inl (.inl e2), e3⟩
    · cases hx
      rcases r1 with r1 | ⟨_, _, _, h, _⟩
      · cases r1 with | klst q r => exact ⟨_, _, rfl, g1.s.seq q, r⟩
      · cases h
  obtain ⟨p, vs, e1, e2, e3⟩ := hq
  refine ⟨p, vs, e1, e2, fun q hq => ?_⟩
  have gn : Gr Hf1 H1 _ _ := .own (o := .lst vs.reverse) g1.s hq
  exact k q _ _ _ _ rfl (g1.trans gn) (g1.h.free hq) (g1.s.free hq) upd_same e3.reverse
end

end FL
namespace FL
variable [HW]
open PySem L2

/-! ### built-in calls by values -/
section
variable {X : Cx} {O : List Nat} {e : Expr} {es : List Expr} {x : Str} {p pos : Pos} {F : Env → Option D} {Fs : Env → Option (List D)} {bid T : String} {r : List V → Hp → VK → Prop} {f : List D → Option D}
theorem CallR.or {v : Value} {r' : List V → Hp → VK → Prop} (h : CallR X v r) (h' : CallR X v r') : CallR X v (fun xs H Q => r xs H Q ∨ r' xs H Q) := fun pins s σ H xs us Q I rl q => q.elim (h pins s σ H xs us Q I rl) (h' pins s σ H xs us Q I rl)
theorem fe_callB (hc : CallR X (.builtin bid) r) (hr : OpL X.K r f) (hg : Gl X x) (hm : X.mg x = none) (hv : bootBuiltins x = some (.builtin bid)) (ha : FBA X O (e :: es) Fs) (hn : x ≠ "__name__" := by decide +kernel) (hdb : (x == ("__debug__" : Str)) = false := by decide +kernel)
    (he : starEach (e :: es) X.env = (false, eval e X.env) :: starEach es X.env := by rfl) (hpl : (backTo pos (starEach es X.env)).any (·.1) = false := by rfl) : FE X O (.Call (.Name x p) (e :: es) [] pos) (eL f Fs) := by
  intro φ Hf0 H0 ρ σ Hf H d Q S hF k
  obtain ⟨xs, h1, h2⟩ := eL_some hF
  refine toE (pe_callB hc hg hm hv paW hn hdb he hpl) ?_
  exact ha φ Hf0 H0 ρ σ Hf H xs _ S h1 fun vs Hf1 H1 g1 r1 => hr φ Hf1 H1 xs d vs Q g1.s r1 h2 fun z Hf2 H2 g2 r2 => k z Hf2 H2 (g1.trans g2) r2
theorem fe_callTy (hc : CallR X (.type T) r) (hr : OpL X.K r f) (hg : Gl X x) (hm : X.mg x = none) (hv : bootBuiltins x = some (.type T)) (ha : FBA X O (e :: es) Fs) (hn : x ≠ "__name__" := by decide +kernel) (hdb : (x == ("__debug__" : Str)) = false := by decide +kernel)
    (he : starEach (e :: es) X.env = (false, eval e X.env) :: starEach es X.env := by rfl) (hpl : (backTo pos (starEach es X.env)).any (·.1) = false := by rfl) : FE X O (.Call (.Name x p) (e :: es) [] pos) (eL f Fs) := by
  intro φ Hf0 H0 ρ σ Hf H d Q S hF k
  obtain ⟨xs, h1, h2⟩ := eL_some hF
  refine toE (pe_callTy hc hg hm hv paW hn hdb he hpl) ?_
  exact ha φ Hf0 H0 ρ σ Hf H xs _ S h1 fun vs Hf1 H1 g1 r1 => hr φ Hf1 H1 xs d vs Q g1.s r1 h2 fun z Hf2 H2 g2 r2 => k z Hf2 H2 (g1.trans g2) r2
theorem fn_callTy (hc : CallR X (.type T) r) (hr : OpLN X.K r f) (hg : Gl X x) (hm : X.mg x = none) (hv : bootBuiltins x = some (.type T)) (ha : FBA X O (e :: es) Fs) (hn : x ≠ "__name__" := by decide +kernel) (hdb : (x == ("__debug__" : Str)) = false := by decide +kernel)
    (he : starEach (e :: es) X.env = (false, eval e X.env) :: starEach es X.env := by rfl) (hpl : (backTo pos (starEach es X.env)).any (·.1) = false := by rfl) : FN X O (.Call (.Name x p) (e :: es) [] pos) (eL f Fs) := by
  intro φ Hf0 H0 ρ σ Hf H d Q S hF k
  obtain ⟨xs, h1, h2⟩ := eL_some hF
  refine toE (pe_callTy hc hg hm hv paW hn hdb he hpl) ?_
  exact ha φ Hf0 H0 ρ σ Hf H xs _ S h1 fun vs Hf1 H1 g1 r1 => hr φ Hf1 H1 xs d vs Q g1.s r1 h2 fun a ys us H2 hd g2 q1 q2 r2 => k a ys us Hf1 H2 hd (g1.trans g2) (g1.h.free q1) (g1.s.free q1) q2 r2

/-! len, int, tuple, list, ord, any, all -/
def lenD : List D → Option D := fun xs => match xs with
  | [x] => (match seqD x with | some ys => some (.int ys.length) | none => (match x with | .str z => if z.length ≤ sizeLine then some (.int z.length) else none | _ => none))
  | _ => none
def intD : List D → Option D := fun xs => match xs with | [.int i] => some (.int i) | [.bl b] => some (.int (if b then 1 else 0)) | _ => none
def tupOf : List D → Option D := fun xs => match xs with | [x] => (match seqD x with | some ys => some (.tup ys) | none => none) | _ => none
def listOf : List D → Option D := fun xs => match xs with | [x] => (match seqD x with | some ys => some (.lst ys) | none => none) | _ => none
def ordD : List D → Option D := fun xs => match xs with | [.str x] => if x.length = 1 then some (.int (x.cps.getD 0 0 : Nat)) else none | _ => none
def allBl : List D → Option (List Bool)
  | [] => some [] | .bl b :: ds => (match allBl ds with | some bs => some (b :: bs) | none => none) | _ :: _ => none
def anyD : List D → Option D := fun xs => match xs with | [x] => if isLst x then (match seqD x with | some ys => (match allBl ys with | some bs => some (.bl (bs.any id)) | none => none) | none => none) else none | _ => none
def allD : List D → Option D := fun xs => match xs with | [x] => if isLst x then (match seqD x with | some ys => (match allBl ys with | some bs => some (.bl (bs.all id)) | none => none) | none => none) else none | _ => none
theorem RpbAll.one {K : PySem.W.Frag} {φ : Nat → Option Addr} {Hf H : Hp} {d : D} {vs : List V} (r : RpbAll K φ Hf H [d] vs) : ∃ v, vs = [v] ∧ Rpb K φ Hf H d v := by
  cases r with | cons r t => cases t; exact ⟨_, rfl, r⟩
theorem c_len : CallR X (.builtin "len") (fun xs H Q => (∃ p ys, xs = [.ref p] ∧ (SqL X.K H p ys ∨ SqT X.K H p ys) ∧ Q (.int ys.length) H) ∨ (∃ z, xs = [.str z] ∧ z.length ≤ sizeLine ∧ Q (.int z.length) H)) := CallR.or call_len_seq call_len_str
theorem l_len {K} : OpL K (fun xs H Q => (∃ p ys, xs = [.ref p] ∧ (SqL K H p ys ∨ SqT K H p ys) ∧ Q (.int ys.length) H) ∨ (∃ z, xs = [.str z] ∧ z.length ≤ sizeLine ∧ Q (.int z.length) H)) lenD := fun φ Hf H xs d vs Q s r e k => by
  unfold lenD at e
  split at e
  · obtain ⟨v, hv, rr⟩ := r.one; subst hv; clear r; have r := rr; clear rr
    split at e
    · rename_i ys hy
      cases e
      obtain ⟨p, ws, e1, e2, e3⟩ := r.seq s hy
      exact .inl ⟨p, ws, by rw [e1], e2, by rw [← e3.length]; exact k _ Hf H (.refl s) (.int _)⟩
    · split at e
      · split at e
        · rename_i hz; cases e
          have := r.str; subst this
          exact .inr ⟨_, rfl, hz, k _ Hf H (.refl s) (.int _)⟩
        · cases e
      · cases e
  · cases e
theorem l_int {K} : OpL K (fun xs H Q => (∃ i, xs = [.int i] ∧ Q (.int i) H) ∨ ∃ k, xs = [.bl k] ∧ Q (.int (if k then 1 else 0)) H) intD := fun φ Hf H xs d vs Q s r e k => by
  unfold intD at e
  split at e
  · cases e
    obtain ⟨v, hv, rr⟩ := r.one; subst hv; clear r; have r := rr; clear rr
    have := r.int; subst this
    exact .inl ⟨_, rfl, k _ Hf H (.refl s) (.int _)⟩
  · cases e
    obtain ⟨v, hv, rr⟩ := r.one; subst hv; clear r; have r := rr; clear rr
    cases r.scal_v rfl
    exact .inr ⟨_, rfl, k _ Hf H (.refl s) (.int _)⟩
  · cases e
theorem l_tup {K} : OpL K (fun xs H Q => ∃ p ys, xs = [.ref p] ∧ ((SqL K H p ys ∧ ∀ l, H l = none → Q (.ref l) (upd H l (.tup ys))) ∨ (SqT K H p ys ∧ Q (.ref p) H))) tupOf := fun φ Hf H xs d vs Q s r e k => by
  unfold tupOf at e
  split at e
  · rename_i x
    obtain ⟨v, hv, rr⟩ := r.one; subst hv; clear r; have r := rr; clear rr
    split at e
    · rename_i ys hy
      cases e
      have fin : ∀ p ws, v = .ref p → SqL K H p ws → RpAll K φ Hf ys ws → ∃ p ys, [v] = [V.ref p] ∧ ((SqL K H p ys ∧ ∀ l, H l = none → Q (.ref l) (upd H l (.tup ys))) ∨ (SqT K H p ys ∧ Q (.ref p) H)) := fun p ws e1 e2 e3 => by
        subst e1
        refine ⟨p, ws, rfl, .inl ⟨e2, fun l hl => ?_⟩⟩
        have gn : Gr Hf H _ _ := .new (o := .tup ws) s hl
        exact k _ _ _ gn (.tup (.inl (.inl upd_same)) (e3.mono gn.f))
      cases x with
      | tup zs =>
        cases hy
        obtain ⟨a, ws, e1, e2, e3⟩ := r.tup
        subst e1
        exact ⟨a, ws, rfl, .inr ⟨SqT_same s e2, k _ Hf H (.refl s) (.tup e2 e3)⟩⟩
      | lst zs =>
        cases hy
        obtain ⟨a, ws, e1, e2, e3⟩ := r.lst s
        exact fin a ws e1 (.inl (.inl e2)) e3
      | klst zs =>
        cases hy
        rcases r with r | ⟨_, _, _, h, _⟩
        · cases r with | klst q r => exact fin _ _ rfl (s.seq q) r
        · cases h
      | _ => cases hy
    · cases e
  · cases e
theorem l_list {K} : OpLN K (fun xs H Q => ∃ p ys, xs = [.ref p] ∧ (SqL K H p ys ∨ SqT K H p ys) ∧ ∀ l, H l = none → Q (.ref l) (upd H l (.lst ys))) listOf := fun φ Hf H xs d vs Q s r e k => by
  unfold listOf at e
  split at e
  · obtain ⟨v, hv, rr⟩ := r.one; subst hv; clear r; have r := rr; clear rr
    split at e
    · rename_i ys hy
      cases e
      obtain ⟨p, ws, e1, e2, e3⟩ := r.seq s hy
      refine ⟨p, ws, by rw [e1], e2, fun l hl => ?_⟩
      exact k l _ _ _ rfl (.own s hl) hl upd_same e3
    · cases e
  · cases e
theorem allBl_v {K : PySem.W.Frag} {φ : Nat → Option Addr} {H : Hp} : ∀ {ds : List D} {vs : List V} {bs : List Bool}, RpAll K φ H ds vs → allBl ds = some bs → vs = bs.map V.bl
  | _, _, _, .nil, h => by cases h; rfl
  | d :: ds, _, bs, .cons r t, h => by
    cases d <;> first | (simp only [allBl] at h; done) | skip
    all_goals first | (simp [allBl] at h; done) | skip
    rename_i b
    simp only [allBl] at h
    split at h
    · rename_i bs' hb
      cases h
      cases r
      rw [allBl_v t hb]; rfl
    · cases h
theorem isLst_sq {K : PySem.W.Frag} {φ : Nat → Option Addr} {Hf H : Hp} {x : D} {v : V} {ys : List D} (s : Same Hf H) (r : Rpb K φ Hf H x v) (hl : isLst x = true) (hy : seqD x = some ys) : ∃ p ws, v = .ref p ∧ SqL K H p ws ∧ RpAll K φ Hf ys ws := by
  cases x <;> first | (cases hl) | skip
  · cases hy
    obtain ⟨p, vs, e1, e2, e3⟩ := r.lst s
    exact ⟨p, vs, e1, .inl (.inl e2), e3⟩
  · cases hy
    rcases r with r | ⟨_, _, _, h, _⟩
    · cases r with | klst q r => exact ⟨_, _, rfl, s.seq q, r⟩
    · cases h
theorem l_all {K} : OpL K (rAll K) allD := fun φ Hf H xs d vs Q s r e k => by
  unfold allD at e
  split at e
  · obtain ⟨v, hv, rr⟩ := r.one; subst hv; clear r; have r := rr; clear rr
    split at e
    · rename_i hl
      split at e
      · rename_i ys hy
        split at e
        · rename_i bs hb
          cases e
          obtain ⟨p, ws, e1, e2, e3⟩ := isLst_sq s r hl hy
          have e4 := allBl_v e3 hb
          subst e4 e1
          exact ⟨p, bs, rfl, e2, k _ Hf H (.refl s) (.bl _)⟩
        · cases e
      · cases e
    · cases e
  · cases e
end
end FL
namespace FL
variable [HW]
open PySem L2

/-! ### built-in calls by values -/
section
variable {X : Cx} {O : List Nat} {e : Expr} {es : List Expr} {x : Str} {p pos : Pos} {F : Env → Option D} {Fs : Env → Option (List D)} {bid T : String} {r : List V → Hp → VK → Prop} {f : List D → Option D}
/-! isinstance(x, T) -/
def tyD : D → Option String | .non => some "NoneType" | .bl _ => some "bool" | .int _ => some "int" | .str _ => some "str" | .tup _ => some "tuple" | .lst _ => some "list" | .klst _ => some "list" | .obj _ => none | .ins _ _ _ => none | .dct _ _ => none | .dkt _ _ _ => none | .xtp _ => none
def isi (T : String) (t : String) : Bool := t == T || (t == "bool" && T == "int")
def isiD (T : String) (d : D) : Option D := match tyD d with | some t => some (.bl (isi T t)) | none => none
theorem isi_tab : (["tuple", "list", "bool", "int", "str"].all fun T => ["NoneType", "bool", "int", "str", "tuple", "list"].all fun t => kitB t T == some (isi T t)) = true := by decide +kernel
theorem kit_isi {K : PySem.W.Frag} {T t : String} {d : D} (hT : T ∈ ["tuple", "list", "bool", "int", "str"]) (h : tyD d = some t) : PySem.W.kitOne K (.type t) (.type T) = some (isi T t) := by
  have h2 : t ∈ ["NoneType", "bool", "int", "str", "tuple", "list"] := by
    cases d <;> first | (cases h; decide) | cases h
  exact kit_ty (by simpa using (List.all_eq_true.mp ((List.all_eq_true.mp isi_tab) T hT)) t h2)
theorem tyX_of {K : PySem.W.Frag} {φ : Nat → Option Addr} {H : Hp} {d : D} {v : V} {t : String} (r : Rp K φ H d v) (h : tyD d = some t) : TyX K H v (.type t) := by
  cases r <;> first | (cases h) | skip
  · exact .base .non
  · exact .base (.bl _)
  · exact .base (.int _)
  · exact .base (.str _)
  · rename_i q _
    rcases q with (q | ⟨o, q⟩) | ⟨o, its, n, q, hc, _⟩
    · exact .base (.tup q)
    · exact .fTuple q
    · exact .kTuple q hc
  · rename_i q _
    exact .base (.lst q)
  · rename_i q _
    rcases q with (q | ⟨o, q⟩) | ⟨o, its, n, q, hc, _⟩
    · exact .base (.lst q)
    · exact .base (.frz q)
    · exact .kList q hc
theorem fe_isi {y : Str} {py : Pos} (hT : T ∈ ["tuple", "list", "bool", "int", "str"]) (hg : Gl X x) (hm : X.mg x = none) (hv : bootBuiltins x = some (.builtin "isinstance")) (hg2 : Gl X y) (hm2 : X.mg y = none) (hv2 : bootBuiltins y = some (.type T)) (h : FB X O e F)
    (hn : x ≠ "__name__" := by decide +kernel) (hdb : (x == ("__debug__" : Str)) = false := by decide +kernel) (hn2 : y ≠ "__name__" := by decide +kernel) (hdb2 : (y == ("__debug__" : Str)) = false := by decide +kernel)
    (hs : starEach [e, .Name y py] X.env = (false, eval e X.env) :: starEach [.Name y py] X.env := by rfl) (hs2 : starEach [.Name y py] X.env = (false, eval (.Name y py) X.env) :: starEach [] X.env := by rfl)
    (hpl : (backTo pos (starEach [.Name y py] X.env)).any (·.1) = false := by rfl) : FE X O (.Call (.Name x p) [e, .Name y py] [] pos) (e1 (isiD T) F) := by
  intro φ Hf0 H0 ρ σ Hf H d Q S hF k
  obtain ⟨z, h1, h2⟩ := e1_some hF
  refine toE (pe_callB call_isi hg hm hv (pa_cons peW (pa_cons (pe_bltn hg2 hm2 hv2 (v := .ty T) rfl hn2 hdb2) pa_nil hs2) hs) hn hdb hs hpl) ?_
  refine h φ Hf0 H0 ρ σ Hf H z _ S h1 fun v Hf1 H1 g1 r1 => ?_
  unfold isiD at h2
  split at h2
  · rename_i t ht
    cases h2
    exact ⟨v, .ty T, .type t, .type T, isi T t, rfl, .ty T, tyX_of (r1.all g1.s) ht, kit_isi hT ht, k _ Hf1 H1 g1 (.bl _)⟩
  · cases h2
end
end FL
namespace FL
variable [HW]
open PySem L2

/-! ### targets -/
def wG (X : Cx) (tg : Expr) : TG := fun v σ H Q => Lk (∀ pins s u, Inv X pins σ H s → RelV v u → wpAny (model X.prog X.w) X.A (assign tg X.env u) (fun _ s' => ∃ σ' H', Inv X pins σ' H' s' ∧ Q σ' H') X.xe s)
def wGs (X : Cx) (ts : List Expr) : TGs := fun vs σ H Q => Lk (∀ pins s us, Inv X pins σ H s → Vals vs us → wpAny (model X.prog X.w) X.A (assignInOrder ((assignEach ts X.env).map (·.2)) us) (fun _ s' => ∃ σ' H', Inv X pins σ' H' s' ∧ Q σ' H') X.xe s)
def FG (X : Cx) (O O' : List Nat) (tgs : List Nat) (tg : Expr) (g : D → Env → Option Env) : Prop :=
  ∀ (φ : Nat → Option Addr) (Hf0 H0 : Hp) (ρ : Env) (σ : St) (Hf H : Hp) (d : D) (v : V) (ρ' : Env) (Q : St → Hp → Prop), SR X.K φ Hf0 H0 O ρ σ Hf H → Rp X.K φ Hf d v → g d ρ = some ρ' →
    (∀ σ', SR X.K φ Hf0 H0 O' ρ' σ' Hf H → (∀ vs : List Nat, (∀ i ∈ tgs, i ∈ vs) → wipe σ' vs = wipe σ vs) → Q σ' H) → wG X tg v σ H Q
def FGs (X : Cx) (O O' : List Nat) (tgs : List Nat) (ts : List Expr) (g : List D → Env → Option Env) : Prop :=
  ∀ (φ : Nat → Option Addr) (Hf0 H0 : Hp) (ρ : Env) (σ : St) (Hf H : Hp) (ds : List D) (vs : List V) (ρ' : Env) (Q : St → Hp → Prop), SR X.K φ Hf0 H0 O ρ σ Hf H → RpAll X.K φ Hf ds vs → g ds ρ = some ρ' →
    (∀ σ', SR X.K φ Hf0 H0 O' ρ' σ' Hf H → (∀ vs : List Nat, (∀ i ∈ tgs, i ∈ vs) → wipe σ' vs = wipe σ vs) → Q σ' H) → wGs X ts vs σ H Q
def gSet (i : Nat) : D → Env → Option Env := fun d ρ => some (ρ.set i (some d))
def gNil : List D → Env → Option Env := fun ds ρ => match ds with | [] => some ρ | _ => none
def gCons (g : D → Env → Option Env) (gs : List D → Env → Option Env) : List D → Env → Option Env := fun ds ρ => match ds with
  | d :: ds => (match g d ρ with | some ρ' => gs ds ρ' | none => none) | [] => none
def gTup (g : List D → Env → Option Env) : D → Env → Option Env := fun d ρ => match d with | .tup ds => g ds ρ | _ => none
section
variable {X : Cx} {O O' O2 : List Nat} {tgs tgs2 : List Nat} {tg : Expr} {ts : List Expr} {pos : Pos} {g : D → Env → Option Env} {gs : List D → Env → Option Env}
theorem pgW : PG X tg (wG X tg) := ⟨fun pins s σ H v u Q I r h => h.h pins s u I r⟩
theorem pgsW : PGs X ts (wGs X ts) := ⟨fun pins s σ H vs us Q I r h => h.h pins s us I r⟩
theorem toG {t : TG} (h : PG X tg t) {v : V} {σ : St} {H : Hp} {Q : St → Hp → Prop} (q : t v σ H Q) : wG X tg v σ H Q := ⟨fun pins s u I r => h.run pins s σ H v u Q I r q⟩
theorem toGs {t : TGs} (h : PGs X ts t) {v : List V} {σ : St} {H : Hp} {Q : St → Hp → Prop} (q : t v σ H Q) : wGs X ts v σ H Q := ⟨fun pins s u I r => h.run pins s σ H v u Q I r q⟩
theorem wipe_set {σ : St} {i : Nat} {x : Option V} : ∀ {vs : List Nat}, i ∈ vs → wipe (σ.set i x) vs = wipe σ vs
  | [], h => by simp at h
  | v :: vs, h => by
    unfold wipe
    by_cases hi : i ∈ vs
    · rw [wipe_set hi]
    · have e : i = v := by
        rcases List.mem_cons.mp h with e | e
        · exact e
        · exact absurd e hi
      subst e
      have comm : ∀ ws : List Nat, i ∉ ws → wipe (σ.set i x) ws = (wipe σ ws).set i x := by
        intro ws
        induction ws with
        | nil => intro _; rfl
        | cons w ws ih =>
          intro hw
          simp only [List.mem_cons, not_or] at hw
          show (wipe (σ.set i x) ws).set w none = ((wipe σ ws).set w none).set i x
          rw [ih hw.2, List.set_comm _ _ hw.1]
      rw [comm vs hi, List.set_set]
theorem fg_name {i : Nat} {x : Str} (hN : X.N.Nodup) (hi : X.N[i]? = some x) (hx : Loc X.env.scope x) (hf : X.fn x = true ∨ X.env.scope.names.lookup x = some .local := by first | exact .inl rfl | exact .inr rfl | assumption) : FG X O (O.filter (· != i)) [i] (.Name x pos) (gSet i) := by
  intro φ Hf0 H0 ρ σ Hf H d v ρ' Q S r e k
  cases e
  refine toG (pg_name hN hi hx hf) ?_
  exact k _ (S.set i r) fun vs h => wipe_set (h i (by simp))
theorem fgs_nil : FGs X O O [] [] gNil := by
  intro φ Hf0 H0 ρ σ Hf H ds vs ρ' Q S r e k
  unfold gNil at e
  split at e
  · cases e
    cases r
    exact toGs pgs_nil ⟨rfl, k σ S fun _ _ => rfl⟩
  · cases e
theorem fgs_cons (h1 : FG X O O2 tgs tg g) (h2 : FGs X O2 O' tgs2 ts gs) (hs : (assignEach (tg :: ts) X.env).map (·.2) = assign tg X.env :: (assignEach ts X.env).map (·.2) := by rfl) : FGs X O O' (tgs ++ tgs2) (tg :: ts) (gCons g gs) := by
  intro φ Hf0 H0 ρ σ Hf H ds vs ρ' Q S r e k
  unfold gCons at e
  split at e
  · rename_i d ds
    split at e
    · rename_i ρ1 e1
      cases r with
      | cons r rr =>
        refine toGs (pgs_cons pgW pgsW hs) ⟨_, _, rfl, ?_⟩
        refine h1 φ Hf0 H0 ρ σ Hf H d _ ρ1 _ S r e1 fun σ1 S1 w1 => ?_
        refine h2 φ Hf0 H0 ρ1 σ1 Hf H ds _ ρ' _ S1 rr e fun σ2 S2 w2 => ?_
        exact k σ2 S2 fun us hu => (w2 us fun i hi => hu i (List.mem_append_right _ hi)).trans (w1 us fun i hi => hu i (List.mem_append_left _ hi))
    · cases e
  · cases e
theorem fg_tup {k : Nat} {n : Nat} (hc : X.calm = true) (h : FGs X O O' tgs ts gs) (hn : (assignEach ts X.env).length = n := by rfl) (hlen : ∀ ds ρ ρ', gs ds ρ = some ρ' → ds.length = n)
    (hst : (assignEach ts X.env).findIdx? (·.1) = none := by rfl) : FG X O O' tgs (.Tuple ts k pos) (gTup gs) := by
  intro φ Hf0 H0 ρ σ Hf H d v ρ' Q S r e kk
  unfold gTup at e
  split at e
  · cases r with
    | tup q r =>
      refine toG (pg_tup hc pgsW hn hst) ⟨_, _, rfl, SqT_same S.sub q, by rw [← r.length]; exact hlen _ _ _ e, ?_⟩
      exact h φ Hf0 H0 ρ σ Hf H _ _ ρ' Q S r e kk
  · cases e
theorem gNil_len : ∀ ds ρ ρ', gNil ds ρ = some ρ' → ds.length = 0 := fun ds ρ ρ' h => by
  unfold gNil at h; split at h
  · rfl
  · cases h
theorem gCons_len {n : Nat} (h : ∀ ds ρ ρ', gs ds ρ = some ρ' → ds.length = n) : ∀ ds ρ ρ', gCons g gs ds ρ = some ρ' → ds.length = n + 1 := fun ds ρ ρ' e => by
  unfold gCons at e; split at e
  · split at e
    · rw [List.length_cons, h _ _ _ e]
    · cases e
  · cases e
end

/-! ### what is walked -/
def ItD (K : PySem.W.Frag) (φ : Nat → Option Addr) (Hf : Hp) (ds : List D) (J : It) : Prop :=
  ∀ (i : Nat) (Hf1 H1 : Hp), Same Hf Hf1 → Same Hf1 H1 → (ds.length ≤ i → J.stop i H1) ∧
    ∀ d, ds[i]? = some d → J.go i H1 ∧ ∀ x H2, J.yld i H1 x H2 → ∃ Hf2, Gr Hf1 H1 Hf2 H2 ∧ Rp K φ Hf2 d x
def ItB (K : PySem.W.Frag) (φ : Nat → Option Addr) (Hf H : Hp) (ds : List D) (J : It) : Prop :=
  ∀ (i : Nat) (Hf1 H1 : Hp), Gr Hf H Hf1 H1 → (ds.length ≤ i → J.stop i H1) ∧
    ∀ d, ds[i]? = some d → J.go i H1 ∧ ∀ x H2, J.yld i H1 x H2 → ∃ Hf2, Gr Hf1 H1 Hf2 H2 ∧ Rp K φ Hf2 d x
theorem ItD.b {K : PySem.W.Frag} {φ : Nat → Option Addr} {Hf H : Hp} {ds : List D} {J : It} (h : ItD K φ Hf ds J) : ItB K φ Hf H ds J := fun i Hf1 H1 g => h i Hf1 H1 g.f g.s
def wI (X : Cx) (tg iter : Expr) : TI := fun σ H R => Lk (∀ pins s, Inv X pins σ H s → wpAny (model X.prog X.w) X.A (eval iter X.env) (fun v s1 => wpAny (model X.prog X.w) X.A (pyIter v) (PIE X pins σ tg R) X.xe s1) X.xe s)
theorem piW {X : Cx} {tg iter : Expr} : PI X tg iter (wI X tg iter) := ⟨fun pins s σ H R I h => h.h pins s I⟩
theorem toI {X : Cx} {tg iter : Expr} {t : TI} (h : PI X tg iter t) {σ : St} {H : Hp} {R : It → Hp → Prop} (q : t σ H R) : wI X tg iter σ H R := ⟨fun pins s I => h.run pins s σ H R I q⟩
def FI (X : Cx) (O : List Nat) (tg iter : Expr) (F : Env → Option (List D)) : Prop :=
  ∀ (φ : Nat → Option Addr) (Hf0 H0 : Hp) (ρ : Env) (σ : St) (Hf H : Hp) (ds : List D) (R : It → Hp → Prop), SR X.K φ Hf0 H0 O ρ σ Hf H → F ρ = some ds → (∀ J Hf' H', Gr Hf H Hf' H' → ItD X.K φ Hf' ds J → R J H') → wI X tg iter σ H R
def FIB (X : Cx) (O : List Nat) (tg iter : Expr) (F : Env → Option (List D)) : Prop :=
  ∀ (φ : Nat → Option Addr) (Hf0 H0 : Hp) (ρ : Env) (σ : St) (Hf H : Hp) (ds : List D) (R : It → Hp → Prop), SR X.K φ Hf0 H0 O ρ σ Hf H → F ρ = some ds → (∀ J Hf' H', Gr Hf H Hf' H' → ItB X.K φ Hf' H' ds J → R J H') → wI X tg iter σ H R
def iSeq (p : D → Bool) (F : Env → Option D) : Env → Option (List D) := fun ρ => match F ρ with | some d => if p d then seqD d else none | none => none
def isTup : D → Bool | .tup _ => true | _ => false
def iStr (F : Env → Option D) : Env → Option (List D) := fun ρ => match F ρ with | some (.str z) => some (z.cps.toList.map fun c => .str ⟨#[c]⟩) | _ => none
def rngD (lo : Int) (n : Nat) : List D := (List.range n).map fun (k : Nat) => D.int (lo + (k : Int))
def iRng1 (F : Env → Option (List D)) : Env → Option (List D) := fun ρ => match F ρ with | some [.int j] => if -(2 ^ 62) ≤ j ∧ j < 2 ^ 62 then some (rngD 0 j.toNat) else none | _ => none
def iRng2 (F : Env → Option (List D)) : Env → Option (List D) := fun ρ => match F ρ with | some [.int i, .int j] => if -(2 ^ 62) ≤ i ∧ i < 2 ^ 62 ∧ -(2 ^ 62) ≤ j ∧ j < 2 ^ 62 then some (rngD i (j - i).toNat) else none | _ => none
def enumL : Nat → List D → List D
  | _, [] => [] | k, d :: ds => .tup [.int (k : Nat), d] :: enumL (k + 1) ds
def iEnum (F : Env → Option D) : Env → Option (List D) := fun ρ => match F ρ with | some d => if isLst d then (match seqD d with | some ds => some (enumL 0 ds) | none => none) else none | none => none
section
variable {X : Cx} {O : List Nat} {tg e a b : Expr} {p pos : Pos} {F G : Env → Option D} {Fs : Env → Option (List D)}
theorem itD_list {K : PySem.W.Frag} {φ : Nat → Option Addr} {Hf : Hp} {a : Addr} {ds : List D} {vs : List V} (q : SqL K Hf a vs) (r : RpAll K φ Hf ds vs) : ItD K φ Hf ds (Itl K a) := fun i Hf1 H1 s1 s2 => by
  have q1 := (s1.trans s2).seq q
  refine ⟨fun h => ⟨vs, q1, by rw [← r.length]; exact h⟩, fun d hd => ?_⟩
  obtain ⟨v, e1, r1⟩ := r.get hd
  refine ⟨⟨vs, v, q1, e1⟩, fun x H2 ⟨e2, e3⟩ => ?_⟩
  subst e2
  have := e3 vs q1
  rw [e1] at this
  cases this
  exact ⟨Hf1, .refl s2, r1.mono s1⟩
theorem itD_tup {K : PySem.W.Frag} {φ : Nat → Option Addr} {Hf : Hp} {a : Addr} {ds : List D} {vs : List V} (q : SqT K Hf a vs) (r : RpAll K φ Hf ds vs) : ItD K φ Hf ds (Itt K a) := fun i Hf1 H1 s1 s2 => by
  have q1 := SqT_same (s1.trans s2) q
  refine ⟨fun h => ⟨vs, q1, by rw [← r.length]; exact h⟩, fun d hd => ?_⟩
  obtain ⟨v, e1, r1⟩ := r.get hd
  refine ⟨⟨vs, v, q1, e1⟩, fun x H2 ⟨e2, e3⟩ => ?_⟩
  subst e2
  have := e3 vs q1
  rw [e1] at this
  cases this
  exact ⟨Hf1, .refl s2, r1.mono s1⟩
theorem itB_list {K : PySem.W.Frag} {φ : Nat → Option Addr} {Hf H : Hp} {a : Addr} {ds : List D} {vs : List V} (q : SqL K H a vs) (r : RpAll K φ Hf ds vs) : ItB K φ Hf H ds (Itl K a) := fun i Hf1 H1 g => by
  have q1 := g.h.seq q
  refine ⟨fun h => ⟨vs, q1, by rw [← r.length]; exact h⟩, fun d hd => ?_⟩
  obtain ⟨v, e1, r1⟩ := r.get hd
  refine ⟨⟨vs, v, q1, e1⟩, fun x H2 ⟨e2, e3⟩ => ?_⟩
  subst e2
  have := e3 vs q1
  rw [e1] at this
  cases this
  exact ⟨Hf1, .refl g.s, r1.mono g.f⟩
theorem iSeq_some {pp : D → Bool} {ρ : Env} {ds : List D} (h : iSeq pp F ρ = some ds) : ∃ d, F ρ = some d ∧ pp d = true ∧ seqD d = some ds := by
  unfold iSeq at h
  split at h
  · rename_i d hd
    split at h
    · rename_i hp; exact ⟨d, hd, hp, h⟩
    · cases h
  · cases h
theorem Rp.lst_f {K : PySem.W.Frag} {φ : Nat → Option Addr} {Hf : Hp} {d : D} {v : V} {ds : List D} (r : Rp K φ Hf d v) (h1 : isLst d = true) (h2 : seqD d = some ds) : ∃ a vs, v = .ref a ∧ SqL K Hf a vs ∧ RpAll K φ Hf ds vs := by
  cases r <;> first | (cases h1) | skip
  · rename_i q r; cases h2; exact ⟨_, _, rfl, .inl (.inl q), r⟩
  · rename_i q r; cases h2; exact ⟨_, _, rfl, q, r⟩
theorem fi_list (h : FE X O e F) : FI X O tg e (iSeq isLst F) := by
  intro φ Hf0 H0 ρ σ Hf H ds R S hF k
  obtain ⟨d, h1, h2, h3⟩ := iSeq_some hF
  refine toI (pi_list peW) ?_
  refine h φ Hf0 H0 ρ σ Hf H d _ S h1 fun v Hf1 H1 g1 r1 => ?_
  obtain ⟨a, vs, e1, q, r⟩ := r1.lst_f h2 h3
  exact ⟨a, e1, ⟨vs, g1.s.seq q⟩, k _ Hf1 H1 g1 (itD_list q r)⟩
theorem fib_of (h : FI X O tg e Fs) : FIB X O tg e Fs := fun φ Hf0 H0 ρ σ Hf H ds R S hF k => h φ Hf0 H0 ρ σ Hf H ds R S hF fun J Hf1 H1 g i => k J Hf1 H1 g i.b
theorem fib_list (h : FB X O e F) : FIB X O tg e (iSeq isLst F) := by
  intro φ Hf0 H0 ρ σ Hf H ds R S hF k
  obtain ⟨d, h1, h2, h3⟩ := iSeq_some hF
  refine toI (pi_list peW) ?_
  refine h φ Hf0 H0 ρ σ Hf H d _ S h1 fun v Hf1 H1 g1 r1 => ?_
  obtain ⟨p, ws, e1, e2, e3⟩ := isLst_sq g1.s r1 h2 h3
  exact ⟨p, e1, ⟨ws, e2⟩, k _ Hf1 H1 g1 (itB_list e2 e3)⟩
theorem fi_tup (h : FE X O e F) : FI X O tg e (iSeq isTup F) := by
  intro φ Hf0 H0 ρ σ Hf H ds R S hF k
  obtain ⟨d, h1, h2, h3⟩ := iSeq_some hF
  refine toI (pi_tup peW) ?_
  refine h φ Hf0 H0 ρ σ Hf H d _ S h1 fun v Hf1 H1 g1 r1 => ?_
  cases r1 <;> first | (cases h2) | skip
  rename_i q r
  cases h3
  exact ⟨_, rfl, ⟨_, SqT_same g1.s q⟩, k _ Hf1 H1 g1 (itD_tup q r)⟩
theorem itD_rng {K : PySem.W.Frag} {φ : Nat → Option Addr} {Hf : Hp} {lo : Int} {n : Nat} : ItD K φ Hf (rngD lo n) (Itr lo n) := fun i Hf1 H1 s1 s2 => by
  unfold rngD
  refine ⟨fun h => by show n ≤ i; simpa using h, fun d hd => ?_⟩
  rw [List.getElem?_map] at hd
  cases hq : (List.range n)[i]? with
  | none => rw [hq] at hd; cases hd
  | some c =>
    rw [hq] at hd; cases hd
    obtain ⟨h1, h2⟩ := List.getElem?_eq_some_iff.mp hq
    have h3 : i < n := by simpa using h1
    have h4 : c = i := by simpa using h2.symm
    subst h4
    exact ⟨h3, fun x H2 ⟨e1, e2⟩ => by subst e1 e2; exact ⟨Hf1, .refl s2, .int _⟩⟩
theorem fi_rng1 (hg : Gl X "range") (hm : X.mg "range" = none) (h : FA X O [a] Fs) (hs : starEach [a] X.env = [(false, eval a X.env)] := by rfl) : FI X O tg (.Call (.Name "range" p) [a] [] pos) (iRng1 Fs) := by
  intro φ Hf0 H0 ρ σ Hf H ds R S hF k
  unfold iRng1 at hF
  split at hF
  · rename_i j hj
    split at hF
    · rename_i hb
      cases hF
      refine toI (pi_range1 hg hm paW hs) ?_
      refine h φ Hf0 H0 ρ σ Hf H _ _ S hj fun vs Hf1 H1 g1 r1 => ?_
      cases r1 with
      | cons r t =>
        cases t
        cases r
        exact ⟨j, rfl, hb.1, hb.2, k _ Hf1 H1 g1 itD_rng⟩
    · cases hF
  · cases hF
end

/-! ### list comprehensions -/
def wipeE (ρ : Env) : List Nat → Env
  | [] => ρ
  | v :: vs => (wipeE ρ vs).set v none
def compL (g : D → Env → Option Env) (T : Env → Option Bool) (E : Env → Option D) (ρ : Env) : List D → Option (List D)
  | [] => some []
  | d :: ds => match g d ρ with
    | none => none
    | some ρ2 => match T ρ2 with
      | none => none
      | some false => compL g T E ρ ds
      | some true => match E ρ2 with
        | none => none
        | some y => match compL g T E ρ ds with | none => none | some ys => some (y :: ys)
def eComp (vs : List Nat) (Fi : Env → Option (List D)) (g : D → Env → Option Env) (T : Env → Option Bool) (E : Env → Option D) : Env → Option D := fun ρ =>
  match Fi ρ with | some ds => if ds.length ≤ sizeLine then (match compL g T E (wipeE ρ vs) ds with | some ys => some (.lst ys) | none => none) else none | none => none
def tYesE : Env → Option Bool := fun _ => some true
theorem wipeE_len (ρ : Env) : ∀ vs : List Nat, (wipeE ρ vs).length = ρ.length
  | [] => rfl
  | v :: vs => by unfold wipeE; rw [List.length_set, wipeE_len ρ vs]
theorem wipeE_some {ρ : Env} {i : Nat} {x : D} : ∀ {vs : List Nat}, (wipeE ρ vs)[i]? = some (some x) → ρ[i]? = some (some x) ∧ i ∉ vs
  | [], h => ⟨h, by simp⟩
  | v :: vs, h => by
    unfold wipeE at h
    by_cases hi : v = i
    · subst hi
      by_cases hv : v < (wipeE ρ vs).length
      · rw [List.getElem?_set_self hv] at h; cases h
      · rw [List.getElem?_eq_none (by simpa using hv)] at h; cases h
    · rw [List.getElem?_set_ne hi] at h
      obtain ⟨h1, h2⟩ := wipeE_some h
      exact ⟨h1, by simp only [List.mem_cons, not_or]; exact ⟨fun e => hi e.symm, h2⟩⟩
theorem SR.wipe {K : PySem.W.Frag} {φ : Nat → Option Addr} {Hf0 H0 Hf H : Hp} {O : List Nat} {ρ : Env} {σ : St} (S : SR K φ Hf0 H0 O ρ σ Hf H) (vs : List Nat) : SR K φ Hf0 H0 O (wipeE ρ vs) (L2.wipe σ vs) Hf H := by
  refine ⟨by rw [wipeE_len, wipe_length]; exact S.len, S.sub, S.gf, S.gh, S.gn, fun i d e n => ?_, fun i d e m => ?_, fun i j d e a h1 h2 m1 m2 hne q1 => ?_⟩
  · obtain ⟨e1, hn⟩ := wipeE_some e
    obtain ⟨v, e2, r⟩ := S.val i d e1 n
    exact ⟨v, by rw [wipe_out hn]; exact e2, r⟩
  · obtain ⟨e1, hn⟩ := wipeE_some e
    obtain ⟨a, xs, us, q1, q2, q3⟩ := S.own i d e1 m
    exact ⟨a, xs, us, q1, by rw [wipe_out hn]; exact q2, q3⟩
  · obtain ⟨e1, hn1⟩ := wipeE_some h1
    obtain ⟨e2, hn2⟩ := wipeE_some h2
    rw [wipe_out hn1] at q1
    rw [wipe_out hn2]
    exact S.ne i j d e a e1 e2 m1 m2 hne q1
theorem wipe_wipe {σ : St} {vs : List Nat} : L2.wipe (L2.wipe σ vs) vs = L2.wipe σ vs := by
  refine List.ext_getElem? fun i => ?_
  by_cases h : i ∈ vs
  · have z : ∀ (τ : St), (L2.wipe τ vs)[i]? = if i < τ.length then some none else none := by
      intro τ
      clear σ
      induction vs with
      | nil => simp at h
      | cons v vs ih =>
        show ((L2.wipe τ vs).set v none)[i]? = _
        by_cases hv : v = i
        · subst hv
          by_cases hl : v < τ.length
          · rw [List.getElem?_set_self (by rw [wipe_length]; exact hl), if_pos hl]
          · rw [List.getElem?_eq_none (by rw [List.length_set, wipe_length]; omega), if_neg hl]
        · rw [List.getElem?_set_ne hv]
          rcases List.mem_cons.mp h with e | e
          · exact absurd e.symm hv
          · exact ih e
    rw [z, z, wipe_length]
  · rw [wipe_out h]
section
variable {X : Cx} {O O2 : List Nat} {tg iter elt : Expr} {scope : Scope} {own : List (Str × Nat)} {pos : Pos}
def uE (X : Cx) (scope : Scope) (e : Expr) : TE := fun σ H Q => ∀ (s : Shared) (H0 : Hp) (C : Addr) (cl : List (Str × Addr)) (fp : List Addr), wE (X.blk s H0 scope (compEnvC scope cl C X.env) fp) e σ H Q
def uT (X : Cx) (scope : Scope) (e : Expr) : TT := fun σ H Q => ∀ (s : Shared) (H0 : Hp) (C : Addr) (cl : List (Str × Addr)) (fp : List Addr), wT (X.blk s H0 scope (compEnvC scope cl C X.env) fp) e σ H Q
def uG (X : Cx) (scope : Scope) (e : Expr) : TG := fun v σ H Q => ∀ (s : Shared) (H0 : Hp) (C : Addr) (cl : List (Str × Addr)) (fp : List Addr), wG (X.blk s H0 scope (compEnvC scope cl C X.env) fp) e v σ H Q
theorem lc_go {wi : TI} {tt : TT} {Fi : Env → Option (List D)} {g : D → Env → Option Env} {T : Env → Option Bool} {E : Env → Option D} {tgs vs : List Nat}
    (hw : ∀ (σ : St) (H : Hp) (R : It → Hp → Prop), wI X tg iter σ H R → wi σ H R)
    (hi : FIB X O tg iter Fi) (hg : ∀ s H C cl fp, FG (X.blk s H scope (compEnvC scope cl C X.env) fp) O O2 tgs tg g) (htg : ∀ i ∈ tgs, i ∈ vs)
    (ht : ∀ (φ : Nat → Option Addr) (Hf0 H0 : Hp) (ρ : Env) (σ : St) (Hf H : Hp) (b : Bool) (Q : Bool → Hp → Prop), SR X.K φ Hf0 H0 O2 ρ σ Hf H → T ρ = some b → (∀ Hf' H', Gr Hf H Hf' H' → Q b H') → tt σ H Q)
    (he : ∀ s H C cl fp, FE (X.blk s H scope (compEnvC scope cl C X.env) fp) O2 elt E)
    {φ : Nat → Option Addr} {Hf0 H0 : Hp} {ρ : Env} {σ : St} {Hf H : Hp} {d : D} {Q : VK} (S : SR X.K φ Hf0 H0 O ρ σ Hf H) (hF : eComp vs Fi g T E ρ = some d)
    (k : ∀ a xs us Hf' H', d = .lst xs → Gr Hf H Hf' H' → H a = none → Hf' a = none → H' a = some (.lst us) → RpAll X.K φ Hf' xs us → Q (.ref a) H') : tLc wi (uG X scope tg) tt (uE X scope elt) vs σ H Q := by
  unfold eComp at hF
  split at hF
  · rename_i ds hds
    split at hF
    · rename_i hlen
      split at hF
      · rename_i ys hys
        cases hF
        refine hw σ H _ (hi φ Hf0 H0 ρ σ Hf H ds _ S hds fun J Hf1 H1 g1 itb => ?_)
        intro Dn hDn
        refine ⟨fun i m H2 => m = ds.length - i ∧ i ≤ ds.length ∧ ∃ Hf2 acc us rest, Gr Hf1 H1 Hf2 H2 ∧ Hf2 Dn = none ∧ H2 Dn = some (.lst us) ∧ RpAll X.K φ Hf2 acc us ∧ acc.length ≤ i ∧ compL g T E (wipeE ρ vs) (ds.drop i) = some rest ∧ acc ++ rest = ys,
          ⟨ds.length, by simp, Nat.zero_le _, Hf1, [], [], ys, .own g1.s hDn, g1.s.free hDn, upd_same, .nil, Nat.le_refl _, by simpa using hys, rfl⟩, ?_⟩
        rintro i m H2 ⟨rfl, hil, Hf2, acc, us, rest, g2, hf2, hh2, r2, hal, hrest, rfl⟩
        by_cases hlt : i < ds.length
        · right
          have hget : ds[i]? = some ds[i] := List.getElem?_eq_getElem hlt
          obtain ⟨hgo, hyld⟩ := (itb i Hf2 H2 g2).2 _ hget
          refine ⟨hgo, fun H' => ∃ Hf3 acc' us' rest', Gr Hf1 H1 Hf3 H' ∧ Hf3 Dn = none ∧ H' Dn = some (.lst us') ∧ RpAll X.K φ Hf3 acc' us' ∧ acc'.length ≤ i + 1 ∧ compL g T E (wipeE ρ vs) (ds.drop (i + 1)) = some rest' ∧ acc' ++ rest' = acc ++ rest,
            fun H' ⟨Hf3, acc', us', rest', a1, a2, a3, a4, a5, a6, a7⟩ => ⟨ds.length - (i + 1), by omega, rfl, hlt, Hf3, acc', us', rest', a1, a2, a3, a4, a5, a6, a7⟩, fun x H3 hy => ?_⟩
          obtain ⟨Hf3, g3, r3⟩ := hyld x H3 hy
          have g13 := g2.trans g3
          have S3 := ((S.gr g1).gr g13).wipe vs
          rw [List.drop_eq_getElem_cons hlt] at hrest
          unfold compL at hrest
          split at hrest
          · cases hrest
          · rename_i ρ2 hρ2
            intro s0 h0 C0 cl0 fp0
            refine hg s0 h0 C0 cl0 fp0 φ Hf0 H0 _ _ Hf3 H3 _ x ρ2 _ S3 r3 hρ2 fun σ2 S4 w4 => ⟨(w4 vs htg).trans wipe_wipe, ?_⟩
            split at hrest
            · cases hrest
            · rename_i hT
              refine ht φ Hf0 H0 ρ2 σ2 Hf3 H3 false _ S4 hT fun Hf4 H4 g4 => ?_
              refine iteF ⟨Hf4, acc, us, rest, g13.trans g4, ?_, ?_, (r2.mono g3.f).mono g4.f, by omega, hrest, rfl⟩
              · exact (g3.trans g4).n _ _ hh2 hf2
              · exact (g3.trans g4).h _ _ hh2
            · rename_i hT
              split at hrest
              · cases hrest
              · rename_i y hy2
                split at hrest
                · cases hrest
                · rename_i ys2 hys2
                  cases hrest
                  refine ht φ Hf0 H0 ρ2 σ2 Hf3 H3 true _ S4 hT fun Hf4 H4 g4 => iteT ?_
                  intro s1 h1 C1 cl1 fp1
                  refine he s1 h1 C1 cl1 fp1 φ Hf0 H0 ρ2 σ2 Hf4 H4 y _ (S4.gr g4) hy2 fun v Hf5 H5 g5 r5 => ?_
                  have g35 := g3.trans (g4.trans g5)
                  have hh5 := g35.h _ _ hh2
                  have hf5 := g35.n _ _ hh2 hf2
                  refine ⟨us, hh5, by rw [← r2.length]; omega, Hf5, acc ++ [y], us ++ [v], ys2, ?_, hf5, upd_same, ((r2.mono g35.f).append (.one r5)), by rw [List.length_append, List.length_singleton]; omega, hys2, by simp⟩
                  have gg := g2.trans g35
                  refine ⟨gg.f, fun b o e => ?_, fun b o e => ?_, gg.n⟩
                  · rw [upd_ne (ne_of_none e hDn)]; exact gg.h _ _ e
                  · rw [upd_ne (ne_of_none e hf5)]; exact gg.s _ _ e
        · left
          have hie : i = ds.length := by omega
          refine ⟨(itb i Hf2 H2 g2).1 (by omega), ?_⟩
          subst hie
          rw [List.drop_length] at hrest
          cases hrest
          rw [List.append_nil] at *
          exact k Dn _ us Hf2 H2 rfl (g1.trans g2) (g1.h.free hDn) hf2 hh2 r2
      · cases hF
    · cases hF
  · cases hF
theorem fn_lc {Fi : Env → Option (List D)} {g : D → Env → Option Env} {E : Env → Option D} {tgs : List Nat} (hc : X.calm = true) (hN : X.N.Nodup) (ok : BlkOk X.N X.env.scope scope own)
    (hi : FIB X O tg iter Fi) (hg : ∀ s H C cl fp, FG (X.blk s H scope (compEnvC scope cl C X.env) fp) O O2 tgs tg g) (he : ∀ s H C cl fp, FE (X.blk s H scope (compEnvC scope cl C X.env) fp) O2 elt E)
    (htg : (tgs.all fun i => (own.map (·.2)).contains i) = true) (hs : ∀ x, foldedSetIterable iter X.env x = pure x := by intro _; rfl) : FN X O (.ListComp elt [⟨tg, iter, [], 0⟩] scope pos) (eComp (own.map (·.2)) Fi g tYesE E) := by
  intro φ Hf0 H0 ρ σ Hf H d Q S hF k
  refine toE (pe_lc (wi := wI X tg iter) (g := uG X scope tg) (tt := tYes) (te := uE X scope elt) hc hN piW ok (fun s H C cl fp => ⟨fun pins s' σ H' v u Q I r h => (h s H C cl fp).h pins s' u I r⟩) (fun _ _ _ _ _ => pts_nil) (fun s H C cl fp => ⟨fun pins s' σ H' Q I h => (h s H C cl fp).h pins s' I⟩) hs) ?_
  exact lc_go (fun _ _ _ h => h) hi hg (fun i hi => by simpa using (List.all_eq_true.mp htg) i hi) (fun φ Hf0 H0 ρ σ Hf H b Q S h k => by cases h; exact k Hf H (.refl S.sub)) he S hF k
theorem fn_lcIf {c : Expr} {T : Env → Option Bool} {Fi : Env → Option (List D)} {g : D → Env → Option Env} {E : Env → Option D} {tgs : List Nat} (hc : X.calm = true) (hN : X.N.Nodup) (ok : BlkOk X.N X.env.scope scope own)
    (hi : FIB X O tg iter Fi) (hg : ∀ s H C cl fp, FG (X.blk s H scope (compEnvC scope cl C X.env) fp) O O2 tgs tg g) (ht : ∀ s H C cl fp, FT (X.blk s H scope (compEnvC scope cl C X.env) fp) O2 c T) (he : ∀ s H C cl fp, FE (X.blk s H scope (compEnvC scope cl C X.env) fp) O2 elt E)
    (htg : (tgs.all fun i => (own.map (·.2)).contains i) = true) (hs : ∀ x, foldedSetIterable iter X.env x = pure x := by intro _; rfl) : FN X O (.ListComp elt [⟨tg, iter, [c], 0⟩] scope pos) (eComp (own.map (·.2)) Fi g T E) := by
  intro φ Hf0 H0 ρ σ Hf H d Q S hF k
  refine toE (pe_lc (wi := wI X tg iter) (g := uG X scope tg) (tt := uT X scope c) (te := uE X scope elt) hc hN piW ok (fun s H C cl fp => ⟨fun pins s' σ H' v u Q I r h => (h s H C cl fp).h pins s' u I r⟩) (fun s H C cl fp => pts_one ⟨fun pins s' σ H' Q I h => (h s H C cl fp).h pins s' I⟩) (fun s H C cl fp => ⟨fun pins s' σ H' Q I h => (h s H C cl fp).h pins s' I⟩) hs) ?_
  exact lc_go (fun _ _ _ h => h) hi hg (fun i hi => by simpa using (List.all_eq_true.mp htg) i hi) (fun φ Hf0 H0 ρ σ Hf H b Q S h k s0 h0 C0 cl0 fp0 => ht s0 h0 C0 cl0 fp0 φ Hf0 H0 ρ σ Hf H b Q S h k) he S hF k
end
end FL
namespace FL
variable [HW]
open PySem L2

/-! ### statements -/
inductive Out where
  | nx (ρ : Env) | rt (d : D) | bk (ρ : Env) | ct (ρ : Env)
def RtK (K : PySem.W.Frag) (φ : Nat → Option Addr) (Hf0 H0 : Hp) (fr : Bool) (d : D) (rt : VK) : Prop := match fr with
  | false => ∀ v Hf' H', Gr Hf0 H0 Hf' H' → Rp K φ Hf' d v → rt v H'
  | true => ∀ a xs vs Hf' H', d = .lst xs → Gr Hf0 H0 Hf' H' → H0 a = none → Hf' a = none → H' a = some (.lst vs) → RpAll K φ Hf' xs vs → rt (.ref a) H'
def Post (K : PySem.W.Frag) (φ : Nat → Option Addr) (Hf0 H0 : Hp) (fr : Bool) (L O : List Nat) (Hf : Hp) (Dn : Ends) : Out → Prop
  | .nx ρ => ∀ σ' Hf' H', Same Hf Hf' → SR K φ Hf0 H0 O ρ σ' Hf' H' → Dn.nx σ' H'
  | .rt d => RtK K φ Hf0 H0 fr d Dn.rt
  | .bk ρ => ∀ σ' Hf' H', Same Hf Hf' → SR K φ Hf0 H0 L ρ σ' Hf' H' → Dn.bk σ' H'
  | .ct ρ => ∀ σ' Hf' H', Same Hf Hf' → SR K φ Hf0 H0 L ρ σ' Hf' H' → Dn.ct σ' H'
theorem Post.mono {K : PySem.W.Frag} {φ : Nat → Option Addr} {Hf0 H0 : Hp} {fr : Bool} {L O : List Nat} {Hf Hf1 : Hp} {Dn : Ends} (s : Same Hf Hf1) : ∀ {out : Out}, Post K φ Hf0 H0 fr L O Hf Dn out → Post K φ Hf0 H0 fr L O Hf1 Dn out
  | .nx _, h => fun σ' Hf' H' s' => h σ' Hf' H' (s.trans s')
  | .rt _, h => h
  | .bk _, h => fun σ' Hf' H' s' => h σ' Hf' H' (s.trans s')
  | .ct _, h => fun σ' Hf' H' s' => h σ' Hf' H' (s.trans s')
def FS (X : Cx) (fr : Bool) (L O O' : List Nat) (st : Stmt) (G : Env → Option Out) : Prop :=
  ∀ (φ : Nat → Option Addr) (Hf0 H0 : Hp) (ρ : Env) (σ : St) (Hf H : Hp) (out : Out) (Dn : Ends), SR X.K φ Hf0 H0 O ρ σ Hf H → G ρ = some out → Post X.K φ Hf0 H0 fr L O' Hf Dn out → wS X st Dn σ H
def FSs (X : Cx) (fr : Bool) (L O O' : List Nat) (sts : List Stmt) (G : Env → Option Out) : Prop :=
  ∀ (φ : Nat → Option Addr) (Hf0 H0 : Hp) (ρ : Env) (σ : St) (Hf H : Hp) (out : Out) (Dn : Ends), SR X.K φ Hf0 H0 O ρ σ Hf H → G ρ = some out → Post X.K φ Hf0 H0 fr L O' Hf Dn out → wSs X sts Dn σ H
def sNil : Env → Option Out := fun ρ => some (.nx ρ)
def sSeq (F G : Env → Option Out) : Env → Option Out := fun ρ => match F ρ with | some (.nx ρ') => G ρ' | o => o
def sX (F : Env → Option D) : Env → Option Out := fun ρ => match F ρ with | some _ => some (.nx ρ) | none => none
def sRet (F : Env → Option D) : Env → Option Out := fun ρ => match F ρ with | some d => some (.rt d) | none => none
def sIf (C : Env → Option Bool) (F G : Env → Option Out) : Env → Option Out := fun ρ => match C ρ with | some true => F ρ | some false => G ρ | none => none
def sSet (i : Nat) (F : Env → Option D) : Env → Option Out := fun ρ => match F ρ with | some d => some (.nx (ρ.set i (some d))) | none => none
def sAsg (g : D → Env → Option Env) (F : Env → Option D) : Env → Option Out := fun ρ => match F ρ with | some d => (match g d ρ with | some ρ' => some (.nx ρ') | none => none) | none => none
def sMut (i : Nat) (f : List D → List D → Option (List D)) (Fs : Env → Option (List D)) : Env → Option Out := fun ρ =>
  match Fs ρ with | some ds => (match eVar i ρ with | some (.lst xs) => (match f xs ds with | some ys => some (.nx (ρ.set i (some (.lst ys)))) | none => none) | _ => none) | none => none
def loopF (g : D → Env → Option Env) (G : Env → Option Out) : List D → Env → Option Out
  | [], ρ => some (.nx ρ)
  | d :: ds, ρ => match g d ρ with
    | none => none
    | some ρ1 => match G ρ1 with
      | some (.nx ρ2) => loopF g G ds ρ2
      | some (.ct ρ2) => loopF g G ds ρ2
      | some (.bk ρ2) => some (.nx ρ2)
      | some (.rt d) => some (.rt d)
      | none => none
def sFor (Fi : Env → Option (List D)) (g : D → Env → Option Env) (G : Env → Option Out) : Env → Option Out := fun ρ => match Fi ρ with | some ds => loopF g G ds ρ | none => none
def sWhile (n : Nat) (C : Env → Option Bool) (G : Env → Option Out) : Env → Option Out := match n with
  | 0 => fun _ => none
  | n + 1 => fun ρ => match C ρ with
    | some true => (match G ρ with
      | some (.nx ρ2) => sWhile n C G ρ2
      | some (.ct ρ2) => sWhile n C G ρ2
      | some (.bk ρ2) => some (.nx ρ2)
      | some (.rt d) => some (.rt d)
      | none => none)
    | some false => some (.nx ρ)
    | none => none
section
variable {X : Cx} {fr : Bool} {L O O' O1 O2 : List Nat} {st : Stmt} {sts : List Stmt} {e tg : Expr} {es : List Expr} {pos : Pos} {F : Env → Option D} {Fs : Env → Option (List D)} {G G2 : Env → Option Out} {g : D → Env → Option Env} {tgs : List Nat}
theorem fss_nil : FSs X fr L O O [] sNil := fun φ Hf0 H0 ρ σ Hf H out Dn S h P => by
  cases h
  exact toSs pss_nil (P σ Hf H (Same.refl _) S)
theorem fss_cons (h : FS X fr L O O1 st G) (t : FSs X fr L O1 O' sts G2) : FSs X fr L O O' (st :: sts) (sSeq G G2) := fun φ Hf0 H0 ρ σ Hf H out Dn S hF P => by
  refine toSs (pss_cons psW pssW) ?_
  unfold sSeq at hF
  split at hF
  · rename_i ρ' h1
    exact h φ Hf0 H0 ρ σ Hf H _ _ S h1 fun σ1 Hf1 H1 s1 S1 => t φ Hf0 H0 ρ' σ1 Hf1 H1 out Dn S1 hF (P.mono s1)
  · rename_i hne
    refine h φ Hf0 H0 ρ σ Hf H out _ S hF ?_
    cases out with
    | nx ρ' => exact absurd hF (hne ρ')
    | _ => exact P
theorem fs_frz (h : FS X fr L O1 O' st G) (hL : O1.all (O.contains ·) = true) : FS X fr L O O' st G := fun φ Hf0 H0 ρ σ Hf H out Dn S hF P => by
  obtain ⟨Hf1, s1, S1⟩ := S.weak O1 hL
  exact h φ Hf0 H0 ρ σ Hf1 H out Dn S1 hF (P.mono s1)
theorem fss_to (h : FSs X fr L O O1 sts G) (hL : O'.all (O1.contains ·) = true) : FSs X fr L O O' sts G := fun φ Hf0 H0 ρ σ Hf H out Dn S hF P => by
  refine h φ Hf0 H0 ρ σ Hf H out Dn S hF ?_
  cases out with
  | nx ρ' => exact fun σ' Hf' H' s' S' => let ⟨Hf2, s2, S2⟩ := S'.weak O' hL; P σ' Hf2 H' (s'.trans s2) S2
  | _ => exact P
theorem fs_to (h : FS X fr L O O1 st G) (hL : O'.all (O1.contains ·) = true) : FS X fr L O O' st G := fun φ Hf0 H0 ρ σ Hf H out Dn S hF P => by
  refine h φ Hf0 H0 ρ σ Hf H out Dn S hF ?_
  cases out with
  | nx ρ' => exact fun σ' Hf' H' s' S' => let ⟨Hf2, s2, S2⟩ := S'.weak O' hL; P σ' Hf2 H' (s'.trans s2) S2
  | _ => exact P
theorem fs_ret (h : FE X O e F) : FS X false L O O' (.Return (some e) pos) (sRet F) := fun φ Hf0 H0 ρ σ Hf H out Dn S hF P => by
  unfold sRet at hF
  split at hF
  · rename_i d hd
    cases hF
    exact toS (ps_ret peW) (h φ Hf0 H0 ρ σ Hf H d _ S hd fun v Hf1 H1 g1 r1 => P v Hf1 H1 (S.from0.trans g1) r1)
  · cases hF
theorem fs_if {c : Expr} {T : Env → Option Bool} {a b : List Stmt} (h : FT X O c T) (h1 : FSs X fr L O O' a G) (h2 : FSs X fr L O O' b G2) : FS X fr L O O' (.If c a b pos) (sIf T G G2) := fun φ Hf0 H0 ρ σ Hf H out Dn S hF P => by
  refine toS (ps_if ptW pssW pssW) ?_
  unfold sIf at hF
  split at hF
  · rename_i hb
    exact h φ Hf0 H0 ρ σ Hf H true _ S hb fun Hf1 H1 g1 => iteT (h1 φ Hf0 H0 ρ σ Hf1 H1 out Dn (S.gr g1) hF (P.mono g1.f))
  · rename_i hb
    exact h φ Hf0 H0 ρ σ Hf H false _ S hb fun Hf1 H1 g1 => iteF (h2 φ Hf0 H0 ρ σ Hf1 H1 out Dn (S.gr g1) hF (P.mono g1.f))
  · cases hF
theorem fs_set {i : Nat} {x : Str} {p2 : Pos} (hN : X.N.Nodup) (hi : X.N[i]? = some x) (hx : Loc X.env.scope x) (h : FE X O e F) (hs : swapsWith e (some (.Name x p2)) pos.line X.env = pure false := by rfl) (hf : X.fn x = true ∨ X.env.scope.names.lookup x = some .local := by first | exact .inl rfl | exact .inr rfl | assumption) :
    FS X fr L O (O.filter (· != i)) (.Assign [.Name x p2] e pos) (sSet i F) := fun φ Hf0 H0 ρ σ Hf H out Dn S hF P => by
  unfold sSet at hF
  split at hF
  · rename_i d hd
    cases hF
    exact toS (ps_set hN hi hx peW hs hf) (h φ Hf0 H0 ρ σ Hf H d _ S hd fun v Hf1 H1 g1 r1 => P _ Hf1 H1 g1.f ((S.gr g1).set i r1))
  · cases hF
theorem SR.apart {K : PySem.W.Frag} {φ : Nat → Option Addr} {Hf0 H0 Hf H : Hp} {ρ : Env} {σ : St} {a : Addr} (S : SR K φ Hf0 H0 O ρ σ Hf H) (h : H a = none) : ∀ j d, ρ[j]? = some (some d) → j ∈ O → σ[j]? ≠ some (some (.ref a)) := fun j d hj m e => by
  obtain ⟨b, xs, vs, e1, e2, e3, e4, e5, r⟩ := S.own j d hj m
  rw [e] at e2
  cases e2
  rw [h] at e3
  cases e3
theorem fs_setNew {i : Nat} {x : Str} {p2 : Pos} (hN : X.N.Nodup) (hi : X.N[i]? = some x) (hx : Loc X.env.scope x) (h : FN X O e F) (hs : swapsWith e (some (.Name x p2)) pos.line X.env = pure false := by rfl) (hf : X.fn x = true ∨ X.env.scope.names.lookup x = some .local := by first | exact .inl rfl | exact .inr rfl | assumption) :
    FS X fr L O (i :: O.filter (· != i)) (.Assign [.Name x p2] e pos) (sSet i F) := fun φ Hf0 H0 ρ σ Hf H out Dn S hF P => by
  unfold sSet at hF
  split at hF
  · rename_i d hd
    cases hF
    refine toS (ps_set hN hi hx peW hs hf) (h φ Hf0 H0 ρ σ Hf H d _ S hd fun a xs vs Hf1 H1 e1 g1 q1 q2 q3 r1 => ?_)
    subst e1
    exact P _ Hf1 H1 g1.f ((S.gr g1).setOwn i q3 q2 (S.gh.free q1) (S.apart q1) r1)
  · cases hF
theorem fs_asg (h : FE X O e F) (hg : FG X O O' tgs tg g) (hs : swapsWithSole [tg] e pos.line X.env = pure false := by rfl) (hw : swappedStores [tg] e X.env = pure none := by rfl)
    (h1 : (assignEach [tg] X.env).map (·.2) = [assign tg X.env] := by rfl) : FS X fr L O O' (.Assign [tg] e pos) (sAsg g F) := fun φ Hf0 H0 ρ σ Hf H out Dn S hF P => by
  unfold sAsg at hF
  split at hF
  · rename_i d hd
    split at hF
    · rename_i ρ' hρ
      cases hF
      refine toS (ps_asg peW pgW hs hw h1) (h φ Hf0 H0 ρ σ Hf H d _ S hd fun v Hf1 H1 g1 r1 => ?_)
      exact hg φ Hf0 H0 ρ σ Hf1 H1 d v ρ' _ (S.gr g1) r1 hρ fun σ' S' _ => P σ' Hf1 H1 g1.f S'
    · cases hF
  · cases hF
/-! name = [.. for ..] -/
theorem fs_setLc {i : Nat} {y : Str} {py spos : Pos} {iter elt : Expr} {scope : Scope} {own : List (Str × Nat)} {Fi : Env → Option (List D)} {E : Env → Option D} (hc : X.calm = true) (hN : X.N.Nodup) (hy : X.N[i]? = some y) (hyl : X.env.scope.names.lookup y = some .local)
    (hsw : swapsWith (.ListComp elt [⟨tg, iter, [], 0⟩] scope pos) (some (.Name y py)) spos.line X.env = pure true) (ok : BlkOk X.N X.env.scope scope own)
    (hi : FIB X O tg iter Fi) (hg : ∀ s H C cl fp, FG (X.blk s H scope (compEnvC scope cl C X.env) fp) O O2 tgs tg g) (he : ∀ s H C cl fp, FE (X.blk s H scope (compEnvC scope cl C X.env) fp) O2 elt E)
    (htg : (tgs.all fun i => (own.map (·.2)).contains i) = true) (hs : ∀ x, foldedSetIterable iter X.env x = pure x := by intro _; rfl) : FS X fr L O (i :: O.filter (· != i)) (.Assign [.Name y py] (.ListComp elt [⟨tg, iter, [], 0⟩] scope pos) spos) (sSet i (eComp (own.map (·.2)) Fi g tYesE E)) := fun φ Hf0 H0 ρ σ Hf H out Dn S hF P => by
  unfold sSet at hF
  split at hF
  · rename_i d hd
    cases hF
    refine toS (ps_setLc (wi := wI X tg iter) (g := uG X scope tg) (tt := tYes) (te := uE X scope elt) hc hN hy hyl hsw piW ok (fun s H C cl fp => ⟨fun pins s' σ H' v u Q I r h => (h s H C cl fp).h pins s' u I r⟩) (fun _ _ _ _ _ => pts_nil) (fun s H C cl fp => ⟨fun pins s' σ H' Q I h => (h s H C cl fp).h pins s' I⟩) hs) ?_
    refine lc_go (fun _ _ _ h => h) hi hg (fun i hi => by simpa using (List.all_eq_true.mp htg) i hi) (fun φ Hf0 H0 ρ σ Hf H b Q S h k => by cases h; exact k Hf H (.refl S.sub)) he S hd fun a xs vs Hf1 H1 e1 g1 q1 q2 q3 r1 => ?_
    subst e1
    exact P _ Hf1 H1 g1.f ((S.gr g1).setOwn i q3 q2 (S.gh.free q1) (S.apart q1) r1)
  · cases hF
theorem fs_setLcIf {i : Nat} {y : Str} {py spos : Pos} {iter elt c : Expr} {scope : Scope} {own : List (Str × Nat)} {Fi : Env → Option (List D)} {T : Env → Option Bool} {E : Env → Option D} (hc : X.calm = true) (hN : X.N.Nodup) (hy : X.N[i]? = some y) (hyl : X.env.scope.names.lookup y = some .local)
    (hsw : swapsWith (.ListComp elt [⟨tg, iter, [c], 0⟩] scope pos) (some (.Name y py)) spos.line X.env = pure true) (ok : BlkOk X.N X.env.scope scope own)
    (hi : FIB X O tg iter Fi) (hg : ∀ s H C cl fp, FG (X.blk s H scope (compEnvC scope cl C X.env) fp) O O2 tgs tg g) (ht : ∀ s H C cl fp, FT (X.blk s H scope (compEnvC scope cl C X.env) fp) O2 c T) (he : ∀ s H C cl fp, FE (X.blk s H scope (compEnvC scope cl C X.env) fp) O2 elt E)
    (htg : (tgs.all fun i => (own.map (·.2)).contains i) = true) (hs : ∀ x, foldedSetIterable iter X.env x = pure x := by intro _; rfl) : FS X fr L O (i :: O.filter (· != i)) (.Assign [.Name y py] (.ListComp elt [⟨tg, iter, [c], 0⟩] scope pos) spos) (sSet i (eComp (own.map (·.2)) Fi g T E)) := fun φ Hf0 H0 ρ σ Hf H out Dn S hF P => by
  unfold sSet at hF
  split at hF
  · rename_i d hd
    cases hF
    refine toS (ps_setLc (wi := wI X tg iter) (g := uG X scope tg) (tt := uT X scope c) (te := uE X scope elt) hc hN hy hyl hsw piW ok (fun s H C cl fp => ⟨fun pins s' σ H' v u Q I r h => (h s H C cl fp).h pins s' u I r⟩) (fun s H C cl fp => pts_one ⟨fun pins s' σ H' Q I h => (h s H C cl fp).h pins s' I⟩) (fun s H C cl fp => ⟨fun pins s' σ H' Q I h => (h s H C cl fp).h pins s' I⟩) hs) ?_
    refine lc_go (fun _ _ _ h => h) hi hg (fun i hi => by simpa using (List.all_eq_true.mp htg) i hi) (fun φ Hf0 H0 ρ σ Hf H b Q S h k s0 h0 C0 cl0 fp0 => ht s0 h0 C0 cl0 fp0 φ Hf0 H0 ρ σ Hf H b Q S h k) he S hd fun a xs vs Hf1 H1 e1 g1 q1 q2 q3 r1 => ?_
    subst e1
    exact P _ Hf1 H1 g1.f ((S.gr g1).setOwn i q3 q2 (S.gh.free q1) (S.apart q1) r1)
  · cases hF
theorem SR.mut {K : PySem.W.Frag} {φ : Nat → Option Addr} {Hf0 H0 Hf H : Hp} {ρ : Env} {σ : St} {i : Nat} {xs ys : List D} {ws : List V} (S : SR K φ Hf0 H0 O ρ σ Hf H) (hi : ρ[i]? = some (some (.lst xs))) (hO : i ∈ O) {a : Addr} (ha : σ[i]? = some (some (.ref a))) (r : RpAll K φ Hf ys ws) :
    SR K φ Hf0 H0 O (ρ.set i (some (.lst ys))) σ Hf (upd H a (.lst ws)) := by
  obtain ⟨b, xs', vs, e1, e2, e3, e4, e5, r0⟩ := S.own i _ hi hO
  rw [ha] at e2; cases e2
  have hil : i < ρ.length := (List.getElem?_eq_some_iff.mp hi).1
  have back : ∀ {j d}, (ρ.set i (some (.lst ys)))[j]? = some (some d) → j ≠ i → ρ[j]? = some (some d) := fun {j d} h hn => by rw [List.getElem?_set_ne (Ne.symm hn)] at h; exact h
  have some' : ∀ {j d}, (ρ.set i (some (.lst ys)))[j]? = some (some d) → ∃ d', ρ[j]? = some (some d') := fun {j d} h => by
    by_cases hj : j = i
    · subst hj; exact ⟨_, hi⟩
    · exact ⟨d, back h hj⟩
  refine ⟨by rw [List.length_set]; exact S.len, fun c o e => ?_, S.gf, fun c o e => ?_, S.gn, fun j d hj hn => ?_, fun j d hj hm => ?_, fun j k d e c hj hk mj mk hne q => ?_⟩
  · rw [upd_ne (ne_of_none e e4)]; exact S.sub _ _ e
  · rw [upd_ne (ne_of_none e e5)]; exact S.gh _ _ e
  · have hji : j ≠ i := fun z => hn (z ▸ hO)
    exact S.val j d (back hj hji) hn
  · by_cases hji : j = i
    · subst hji
      rw [List.getElem?_set_self hil] at hj; cases hj
      exact ⟨a, ys, ws, rfl, ha, upd_same, e4, e5, r⟩
    · obtain ⟨c, zs, us, q1, q2, q3, q4, q5, q6⟩ := S.own j d (back hj hji) hm
      have hca : c ≠ a := by
        rintro rfl
        exact S.ne i j _ d c hi (back hj hji) hO hm (Ne.symm hji) ha q2
      exact ⟨c, zs, us, q1, q2, by rw [upd_ne hca]; exact q3, q4, q5, q6⟩
  · obtain ⟨d1, z1⟩ := some' hj
    obtain ⟨d2, z2⟩ := some' hk
    exact S.ne j k d1 d2 c z1 z2 mj mk hne q
theorem fs_mut {i : Nat} {x : Str} {name : Str} {bid : String} {xpos apos cpos : Pos} {r : V → List V → Hp → VK → Prop} {f : List D → List D → Option (List D)} (hN : X.N[i]? = some x) (hv : Vis X.env.scope x) (hO : O.contains i = true)
    (slot : Slot "list" name bid) (hty : typeOf (.builtin bid) = pure (.type "method_descriptor")) (hm : MtR X bid r)
    (hr : ∀ (φ : Nat → Option Addr) (Hf H : Hp) (a : Addr) (xs ds ys : List D) (vs us : List V) (Q : VK), Same Hf H → H a = some (.lst vs) → RpAll X.K φ Hf xs vs → RpAll X.K φ Hf ds us → f xs ds = some ys → (∀ z ws, RpAll X.K φ Hf ys ws → Q z (upd H a (.lst ws))) → r (.ref a) us H Q)
    (ha : FA X O (e :: es) Fs) (hd : (x == ("__debug__" : Str)) = false := by decide +kernel) (hcd : (x == ("__classdict__" : Str)) = false := by decide +kernel)
    (hbase : attributeBase (.Name x xpos) name X.env (eval (.Name x xpos) X.env) = eval (.Name x xpos) X.env := by rfl)
    (hfew : ((backTo cpos (starEach (e :: es) X.env)).all (fun x => !x.1) && (backToKw cpos (keywordEach [] X.env)).all (fun x => x.1.isSome)
      && decide ((e :: es).length + ([] : List Keyword).length + (if ([] : List Keyword).isEmpty then 0 else 1) < 30)) = true := by rfl)
    (hsx : swapsWith (.Call (.Attribute (.Name x xpos) name apos) (e :: es) [] cpos) none pos.line X.env = pure false := by rfl) (hline : (apos.endLine == cpos.line) = true := by rfl) (hs : starEach (e :: es) X.env = (false, eval e X.env) :: starEach es X.env := by rfl) (hplain : (backTo cpos (starEach es X.env)).any (·.1) = false := by rfl) :
    FS X fr L O O (.Expr (.Call (.Attribute (.Name x xpos) name apos) (e :: es) [] cpos) pos) (sMut i f Fs) := fun φ Hf0 H0 ρ σ Hf H out Dn S hF P => by
  unfold sMut at hF
  split at hF
  · rename_i ds hds
    split at hF
    · rename_i xs hxs
      split at hF
      · rename_i ys hys
        cases hF
        have hq : ρ[i]? = some (some (.lst xs)) := by
          unfold eVar at hxs
          split at hxs
          · rename_i d' h; cases hxs; exact h
          · cases hxs
        have hO' : i ∈ O := by simpa using hO
        obtain ⟨a, xs', vs, e1, e2, e3, e4, e5, r0⟩ := S.own i _ hq hO'
        cases e1
        refine toS (ps_expr (pe_bm PySem.F.plainAttrs_list slot hty hm (pe_var hN hv hd hcd) paW hbase hfew hline hs hplain) hsx) ?_
        refine ⟨_, e2, .inl ⟨rfl, vs, .inl (.inl e3)⟩, ?_⟩
        refine ha φ Hf0 H0 ρ σ Hf H ds _ S hds fun us Hf1 H1 g1 r1 => ?_
        refine hr φ Hf1 H1 a xs ds ys vs us _ g1.s (g1.h _ _ e3) (r0.mono g1.f) r1 hys fun z ws rw' => ?_
        exact P σ Hf1 _ g1.f ((S.gr g1).mut hq hO' e2 rw')
      · cases hF
    · cases hF
  · cases hF
def appendF : List D → List D → Option (List D) := fun xs ds => match ds with | [d] => if xs.length < sizeLine then some (xs ++ [d]) else none | _ => none
theorem r_append {K : PySem.W.Frag} : ∀ (φ : Nat → Option Addr) (Hf H : Hp) (a : Addr) (xs ds ys : List D) (vs us : List V) (Q : VK), Same Hf H → H a = some (.lst vs) → RpAll K φ Hf xs vs → RpAll K φ Hf ds us → appendF xs ds = some ys → (∀ z ws, RpAll K φ Hf ys ws → Q z (upd H a (.lst ws))) → rAppend (.ref a) us H Q :=
  fun φ Hf H a xs ds ys vs us Q s h r q e k => by
    unfold appendF at e
    split at e
    · split at e
      · rename_i hl
        cases e
        cases q with
        | cons q t =>
          cases t
          exact ⟨a, vs, _, rfl, rfl, h, by rw [← r.length]; exact hl, k _ _ (r.append (.one q))⟩
      · cases e
    · cases e
def insertF : List D → List D → Option (List D) := fun xs ds => match ds with | [.int i, d] => if xs.length < sizeLine ∧ 0 ≤ i ∧ i < 2 ^ 63 then some (xs.take i.toNat ++ [d] ++ xs.drop i.toNat) else none | _ => none
def popAtF : List D → List D → Option (List D) := fun xs ds => match ds with | [.int i] => if -(2 ^ 63) ≤ i ∧ i < 2 ^ 63 then (match ixN xs.length i with | some k => some (xs.eraseIdx k) | none => none) else none | _ => none
def sPut (i : Nat) (Fi F : Env → Option D) : Env → Option Out := fun ρ => match F ρ with
  | some d => (match Fi ρ with
    | some (.int k) => (match eVar i ρ with | some (.lst xs) => (match ixN xs.length k with | some j => some (.nx (ρ.set i (some (.lst (xs.set j d))))) | none => none) | _ => none)
    | _ => none)
  | none => none
theorem fs_put {i : Nat} {x : Str} {ix : Expr} {xpos spos : Pos} {Fi : Env → Option D} (hN : X.N[i]? = some x) (hv : Vis X.env.scope x) (hO : O.contains i = true) (h : FE X O e F) (hi : FE X O ix Fi)
    (hd : (x == ("__debug__" : Str)) = false := by decide +kernel) (hcd : (x == ("__classdict__" : Str)) = false := by decide +kernel)
    (hsub : ∀ v, assign (.Subscript (.Name x xpos) ix spos) X.env v = (do
      let ov ← holding [v] (eval (.Name x xpos) X.env)
      let iv ← holding [v, ov] (eval ix X.env)
      standAt spos
      holding [v, ov, iv] (setItem ov iv v)
      release [v, ov, iv] []) := by intro _; rfl)
    (hs : swapsWithSole [.Subscript (.Name x xpos) ix spos] e pos.line X.env = pure false := by rfl) (hw : swappedStores [.Subscript (.Name x xpos) ix spos] e X.env = pure none := by rfl)
    (h1 : (assignEach [.Subscript (.Name x xpos) ix spos] X.env).map (·.2) = [assign (.Subscript (.Name x xpos) ix spos) X.env] := by rfl) :
    FS X fr L O O (.Assign [.Subscript (.Name x xpos) ix spos] e pos) (sPut i Fi F) := fun φ Hf0 H0 ρ σ Hf H out Dn S hF P => by
  unfold sPut at hF
  split at hF
  · rename_i d hd'
    split at hF
    · rename_i k hk
      split at hF
      · rename_i xs hxs
        split at hF
        · rename_i j hj
          cases hF
          have hq : ρ[i]? = some (some (.lst xs)) := by
            unfold eVar at hxs
            split at hxs
            · rename_i d' h; cases hxs; exact h
            · cases hxs
          have hO' : i ∈ O := by simpa using hO
          obtain ⟨a, xs', vs, e1, e2, e3, e4, e5, r0⟩ := S.own i _ hq hO'
          cases e1
          refine toS (ps_asg peW (pg_sub (pe_var hN hv hd hcd) peW set_list hsub) hs hw h1) ?_
          refine h φ Hf0 H0 ρ σ Hf H d _ S hd' fun v Hf1 H1 g1 r1 => ?_
          refine ⟨_, e2, ?_⟩
          refine hi φ Hf0 H0 ρ σ Hf1 H1 _ _ (S.gr g1) hk fun z Hf2 H2 g2 r2 => ?_
          cases r2
          have g := g1.trans g2
          refine ⟨a, vs, k, j, rfl, rfl, g.h _ _ e3, by rw [← r0.length]; exact hj, ?_⟩
          exact P σ Hf2 _ g.f ((S.gr g).mut hq hO' e2 ((r0.mono g.f).set j (r1.mono g2.f)))
        · cases hF
      · cases hF
    · cases hF
  · cases hF
/-! loops -/
theorem fs_for {iter : Expr} {body : List Stmt} {Fi : Env → Option (List D)} (hp : PassesOwn (model X.prog X.w) X.A X.env X.xe) (hc : X.calm = true) (hi : FI X O tg iter Fi) (hg : FG X O O1 tgs tg g) (hb : FSs X fr O O1 O body G) (hs : ∀ x, foldedSetIterable iter X.env x = pure x := by intro _; rfl) : FS X fr L O O (.For tg iter body [] pos) (sFor Fi g G) := fun φ Hf0 H0 ρ σ Hf H out Dn S hF P => by
  unfold sFor at hF
  split at hF
  · rename_i ds hds
    refine toS (ps_for hp hc piW pgW pssW hs) ?_
    refine hi φ Hf0 H0 ρ σ Hf H ds _ S hds fun J Hf1 H1 g1 itd => ?_
    refine ⟨fun i m σ2 H2 => m = ds.length - i ∧ i ≤ ds.length ∧ ∃ ρ2 Hf2, Same Hf1 Hf2 ∧ SR X.K φ Hf0 H0 O ρ2 σ2 Hf2 H2 ∧ loopF g G (ds.drop i) ρ2 = some out, ⟨ds.length, by simp, Nat.zero_le _, ρ, Hf1, Same.refl _, S.gr g1, by simpa using hF⟩, ?_⟩
    rintro i m σ2 H2 ⟨rfl, hil, ρ2, Hf2, s2, S2, hl⟩
    by_cases hlt : i < ds.length
    · right
      have hget : ds[i]? = some ds[i] := List.getElem?_eq_getElem hlt
      obtain ⟨hgo, hyld⟩ := (itd i Hf2 H2 s2 S2.sub).2 _ hget
      rw [List.drop_eq_getElem_cons hlt] at hl
      unfold loopF at hl
      split at hl
      · cases hl
      · rename_i ρ3 hρ3
        refine ⟨hgo, fun σ' H' => ∃ ρ' Hf', Same Hf1 Hf' ∧ SR X.K φ Hf0 H0 O ρ' σ' Hf' H' ∧ loopF g G (ds.drop (i + 1)) ρ' = some out, fun σ' H' ⟨ρ', Hf', a1, a2, a3⟩ => ⟨ds.length - (i + 1), by omega, rfl, hlt, ρ', Hf', a1, a2, a3⟩, fun x H3 hy => ?_⟩
        obtain ⟨Hf3, g3, r3⟩ := hyld x H3 hy
        have s3 := s2.trans g3.f
        refine hg φ Hf0 H0 ρ2 σ2 Hf3 H3 _ x ρ3 _ (S2.gr g3) r3 hρ3 fun σ4 S4 _ => ?_
        split at hl
        · rename_i ρ4 h4
          exact hb φ Hf0 H0 ρ3 σ4 Hf3 H3 _ _ S4 h4 fun σ' Hf' H' s' S' => ⟨ρ4, Hf', s3.trans s', S', hl⟩
        · rename_i ρ4 h4
          exact hb φ Hf0 H0 ρ3 σ4 Hf3 H3 _ _ S4 h4 fun σ' Hf' H' s' S' => ⟨ρ4, Hf', s3.trans s', S', hl⟩
        · rename_i ρ4 h4
          cases hl
          exact hb φ Hf0 H0 ρ3 σ4 Hf3 H3 _ _ S4 h4 fun σ' Hf' H' s' S' => P σ' Hf' H' (g1.f.trans (s3.trans s')) S'
        · rename_i d h4
          cases hl
          exact hb φ Hf0 H0 ρ3 σ4 Hf3 H3 _ _ S4 h4 P
        · cases hl
    · left
      have hie : i = ds.length := by omega
      subst hie
      rw [List.drop_length] at hl
      cases hl
      exact ⟨(itd _ Hf2 H2 s2 S2.sub).1 (Nat.le_refl _), P σ2 Hf2 H2 (g1.f.trans s2) S2⟩
  · cases hF
end

/-! ### defs -/
def spF (K : PySem.W.Frag) (fr : Bool) (n : Nat) (m : List D → Option D) : Sp := fun vs H Q _ => ∃ (φ : Nat → Option Addr) (Hf : Hp) (ds : List D) (d : D), Same Hf H ∧ RpAll K φ Hf ds vs ∧ ds.length = n ∧ m ds = some d ∧ RtK K φ Hf H fr d Q
def envOf (N n : Nat) (ds : List D) : Env := ds.map some ++ List.replicate (N - n) none
def runD (fr : Bool) (N n : Nat) (G : Env → Option Out) (ds : List D) : Option D := match G (envOf N n ds) with
  | some (.rt d) => some d
  | some (.nx _) => if fr then none else some .non
  | _ => none
end FL
namespace FL
variable [HW]
open PySem L2

/-! ### a def that makes new things alone, called by its name -/
structure CalK (P : Program) (w : World) (K : PySem.W.Frag) (mg : Str → Option Value) (base : Heap) (k : Nat) (x : Str) (fr : Bool) (n : Nat) (m : List D → Option D) : Prop where
  ok : ∃ (f : Addr) (fd : FuncData) (ps : List Str), FnOk P w K mg base CX0 k f fd ps (spF K fr n m) ∧ mg x = some (.ref f) ∧ PySem.W.keepIn K (.ref f) = true ∧ Binds K fd ps []
abbrev DefAt (K : PySem.W.Frag) (x : Str) (st : Stmt) (a : Addr) : Prop := ∃ fd, FunD K x x (defArgs st) (defBody st) (defScope st) [] [] a fd
section
variable {P : Program} {w : World} {K : PySem.W.Frag} {mg : Str → Option Value} {base : Heap} {k : Nat} {a : Addr} {ps N : List Str} {x : Str} {st : Stmt} {m : List D → Option D} {G : Env → Option Out}
theorem RpAll.val {φ : Nat → Option Addr} {H : Hp} {ds : List D} {vs : List V} (r : RpAll K φ H ds vs) (n : Nat) : ∀ (i : Nat) (d : D), (ds.map some ++ List.replicate n none)[i]? = some (some d) → ∃ v, (vs.map some ++ List.replicate n none)[i]? = some (some v) ∧ Rp K φ H d v := fun i d e => by
  by_cases hi : i < ds.length
  · rw [List.getElem?_append_left (by simpa using hi)] at e
    rw [List.getElem?_append_left (by rw [List.length_map, ← r.length]; exact hi)]
    rw [List.getElem?_map] at e ⊢
    cases hq : ds[i]? with
    | none => rw [hq] at e; cases e
    | some d' =>
      rw [hq] at e; cases e
      obtain ⟨v, h1, h2⟩ := r.get hq
      exact ⟨v, by rw [h1]; rfl, h2⟩
  · rw [List.getElem?_append_right (by simpa using hi), List.length_map, List.getElem?_replicate] at e
    split at e <;> cases e
theorem fnOk_of {fd : FuncData} {N' n : Nat} (F : FunD K x x (defArgs st) (defBody st) (defScope st) [] [] a fd) (S : FnScope N ps (defScope st)) (hN : N' = N.length) (hn : n = ps.length) {fr : Bool} (O' : List Nat)
    (hb : ∀ (cdv : Value) (A : Around) (outer : List PySem.Env) (s : Shared) (H : Hp) (E : XK), Room k (A.deeper (PyProof.Rows.envOfC x (defScope st) s.heap.objs.size a cdv)) →
      FSs (cxOf CX0 P w K mg base N x (defScope st) a cdv A outer s H E).nox fr [] [] O' (defBody st) G) : FnOk P w K mg base CX0 (k + 1) a fd ps (spF K fr n (runD fr N' n G)) := by
  subst hN hn
  refine FunD.ok F S (fun vs H Q E h => ?_) (fun cdv A outer s H vs Q E hr h => ?_)
  · obtain ⟨φ, Hf, ds, d, _, r, hl, _⟩ := h
    rw [← r.length]; exact hl
  · obtain ⟨φ, Hf, ds, d, hs, r, hl, hm, hk⟩ := h
    refine ⟨_, PSs.nox pssW, ?_⟩
    have hvl : vs.length = ps.length := by rw [← r.length]; exact hl
    unfold L2.start
    rw [hvl]
    unfold runD envOf at hm
    have S0 : SR K φ Hf H [] (ds.map some ++ List.replicate (N.length - ps.length) none) (vs.map some ++ List.replicate (N.length - ps.length) none) Hf H :=
      ⟨by simp [r.length], hs, Same.refl _, Same.refl _, fun _ _ _ z => z, fun i d e _ => r.val _ i d e, fun i d _ m => absurd m (by simp), fun i j _ _ _ _ _ m => absurd m (by simp)⟩
    split at hm
    · rename_i d' h'
      cases hm
      exact hb cdv A outer s H E hr φ Hf H _ _ Hf H _ _ S0 h' hk
    · rename_i ρ' h'
      cases fr with
      | false =>
        cases hm
        exact hb cdv A outer s H E hr φ Hf H _ _ Hf H _ _ S0 h' fun σ' Hf' H' s' S' => hk _ Hf' H' S'.from0 .non
      | true => cases hm
    · cases hm
theorem calK_of {N' n : Nat} (Dd : DefAt K x st a) (g : mg x = some (.ref a)) (S : FnScope N ps (defScope st)) (hN : N' = N.length) (hn : n = ps.length)
    (hbind : ∀ (kV doc pm : Value) (an : Option Addr) (cdv ct : Value) (us : List Value), us.length = ps.length → bindArgs (PySem.W.fnOf x x (defArgs st) (defBody st) (defScope st) .none kV doc pm an cdv ct) ⟨us, []⟩ = pure (ps.zip us))
    {fr : Bool} (O' : List Nat)
    (hb : ∀ (cdv : Value) (A : Around) (outer : List PySem.Env) (s : Shared) (H : Hp) (E : XK), Room k (A.deeper (PyProof.Rows.envOfC x (defScope st) s.heap.objs.size a cdv)) →
      FSs (cxOf CX0 P w K mg base N x (defScope st) a cdv A outer s H E).nox fr [] [] O' (defBody st) G) : CalK P w K mg base (k + 1) x fr n (runD fr N' n G) := by
  obtain ⟨fd, F⟩ := Dd
  exact ⟨a, fd, ps, fnOk_of F S hN hn O' hb, g, F.kp, FunD.bindsN F hbind⟩
theorem calK_zero {fr : Bool} {n : Nat} (Dd : DefAt K x st a) (g : mg x = some (.ref a)) (hbind : ∀ (kV doc pm : Value) (an : Option Addr) (cdv ct : Value) (us : List Value), us.length = ps.length → bindArgs (PySem.W.fnOf x x (defArgs st) (defBody st) (defScope st) .none kV doc pm an cdv ct) ⟨us, []⟩ = pure (ps.zip us)) : CalK P w K mg base k x fr n (fun _ => none) := by
  obtain ⟨fd, F⟩ := Dd
  exact ⟨a, fd, ps, ⟨fun vs H Q E ⟨_, _, _, _, _, _, _, h, _⟩ => (nomatch h), fun A outer s H args us vs Q E _ _ _ _ ⟨_, _, _, _, _, _, _, h, _⟩ => (nomatch h)⟩, g, F.kp, FunD.bindsN F hbind⟩
theorem CalK.mono {j : Nat} {fr : Bool} {n : Nat} (c : CalK P w K mg base j x fr n m) (h : j ≤ k) : CalK P w K mg base k x fr n m := by
  obtain ⟨f, fd, ps, F, q⟩ := c.ok
  exact ⟨f, fd, ps, F.mono h, q⟩
end
section
variable {X : Cx} {O : List Nat} {es : List Expr} {e : Expr} {x : Str} {p pos : Pos} {Fs : Env → Option (List D)} {k j : Nat} {n : Nat} {m : List D → Option D}
def mL (n : Nat) (m : List D → Option D) : List D → Option D := fun ds => if ds.length = n then m ds else none
theorem fe_call (c : CalK X.prog X.w X.K X.mg X.base j x false n m) (hr : Room k X.A) (hk : j ≤ k) (hg : Gl X x) (ha : FA X O (e :: es) Fs) (hdb : (x == ("__debug__" : Str)) = false := by decide +kernel) (he : starEach (e :: es) X.env = (false, eval e X.env) :: starEach es X.env := by rfl)
    (hpl : (backTo pos (starEach es X.env)).any (·.1) = false := by rfl) : FE X O (.Call (.Name x p) (e :: es) [] pos) (eL (mL n m) Fs) := by
  obtain ⟨f, fd, ps, F, hm, hkp, hb⟩ := c.ok
  intro φ Hf0 H0 ρ σ Hf H d Q S hF k'
  obtain ⟨ds, h1, h2⟩ := eL_some hF
  unfold mL at h2
  split at h2
  · rename_i hl
    refine toE (pe_call F (hr.mono hk) hg hm hkp hb .nil pass0 paW hdb he hpl) ?_
    refine ha φ Hf0 H0 ρ σ Hf H ds _ S h1 fun vs Hf1 H1 g1 r1 => ?_
    refine ⟨φ, Hf1, ds, d, g1.s, by rw [List.append_nil]; exact r1, hl, h2, fun v Hf2 H2 g2 r2 => k' v Hf2 H2 (g1.trans g2) r2⟩
  · cases h2
theorem u64 {A : Around} (h : Room k A) : A.units + 64 < cLine := h.units
theorem u65 {A : Around} (h : Room k A) : A.units + 65 < cLine := by have := h.un; omega
end

/-! ### constants of the module -/
mutual
def cB (K : PySem.W.Frag) : D → Value → Bool
  | .non, .none => true
  | .bl b, .bool c => b == c
  | .int i, .int j _ => decide (i = j)
  | .str x, .str y _ => decide (x = y)
  | .tup ds, .ref a => (match K.lookup a with
    | some ⟨.type c, _, .seq its _, _⟩ => decide (c = "tuple") && (decide (its.size ≤ sizeLine) && cBs K ds its.toList)
    | _ => false)
  | .klst ds, .ref a => (match K.lookup a with
    | some ⟨.type c, none, .seq its _, _⟩ => decide (c = "list") && (decide (its.size ≤ sizeLine) && cBs K ds its.toList)
    | _ => false)
  | _, _ => false
def cBs (K : PySem.W.Frag) : List D → List Value → Bool
  | [], [] => true
  | d :: ds, u :: us => cB K d u && cBs K ds us
  | _, _ => false
end
mutual
theorem cB_ok {K : PySem.W.Frag} : ∀ {d : D} {u : Value}, cB K d u = true → ∃ v, RelV v u ∧ RpK K d v
  | .non, u, h => by
    cases u <;> simp only [cB] at h <;> try (cases h)
    exact ⟨.non, rfl, fun _ _ => .non⟩
  | .bl b, u, h => by
    cases u <;> simp only [cB] at h <;> try (cases h)
    rename_i c
    have : b = c := by simpa using h
    subst this
    exact ⟨.bl b, rfl, fun _ _ => .bl b⟩
  | .int i, u, h => by
    cases u <;> simp only [cB] at h <;> try (cases h)
    rename_i j t
    have : i = j := of_decide_eq_true h
    subst this
    exact ⟨.int i, ⟨t, rfl⟩, fun _ _ => .int i⟩
  | .str x, u, h => by
    cases u <;> simp only [cB] at h <;> try (cases h)
    rename_i y t
    have : x = y := of_decide_eq_true h
    subst this
    exact ⟨.str x, ⟨t, rfl⟩, fun _ _ => .str x⟩
  | .tup ds, u, h => by
    cases u <;> simp only [cB] at h <;> try (cases h)
    rename_i a
    split at h
    · rename_i c od its n sl hq
      rw [Bool.and_eq_true, Bool.and_eq_true] at h
      obtain ⟨h1, h2, h3⟩ := h
      obtain ⟨vs, r1, r2⟩ := cBs_ok h3
      exact ⟨.ref a, rfl, fun φ H => .tup (.inr ⟨_, its, n, hq, congrArg Value.type (of_decide_eq_true h1), rfl, of_decide_eq_true h2, r1⟩) (r2 φ H)⟩
    · cases h
  | .klst ds, u, h => by
    cases u <;> simp only [cB] at h <;> try (cases h)
    rename_i a
    split at h
    · rename_i c its n sl hq
      rw [Bool.and_eq_true, Bool.and_eq_true] at h
      obtain ⟨h1, h2, h3⟩ := h
      obtain ⟨vs, r1, r2⟩ := cBs_ok h3
      exact ⟨.ref a, rfl, fun φ H => .klst (.inr ⟨_, its, n, hq, congrArg Value.type (of_decide_eq_true h1), rfl, rfl, of_decide_eq_true h2, r1⟩) (r2 φ H)⟩
    · cases h
  | .lst ds, u, h => by cases u <;> simp only [cB] at h <;> cases h
  | .obj i, u, h => by cases u <;> simp only [cB] at h <;> cases h
  | .ins c fs ds, u, h => by cases u <;> simp only [cB] at h <;> cases h
  | .dct fs ds, u, h => by cases u <;> simp only [cB] at h <;> cases h
  | .dkt fz fs ds, u, h => by cases u <;> simp only [cB] at h <;> cases h
theorem cBs_ok {K : PySem.W.Frag} : ∀ {ds : List D} {us : List Value}, cBs K ds us = true → ∃ vs, Vals vs us ∧ ∀ φ H, RpAll K φ H ds vs
  | [], [], _ => ⟨[], .nil, fun _ _ => .nil⟩
  | d :: ds, u :: us, h => by
    simp only [cBs, Bool.and_eq_true] at h
    obtain ⟨v, r1, r2⟩ := cB_ok h.1
    obtain ⟨vs, q1, q2⟩ := cBs_ok h.2
    exact ⟨v :: vs, .cons r1 q1, fun φ H => .cons (r2 φ H) (q2 φ H)⟩
  | [], _ :: _, h => by simp [cBs] at h
  | _ :: _, [], h => by simp [cBs] at h
end
def conB (K : PySem.W.Frag) (x : Str) (d : D) : Bool := match PySem.W.nsIn K mainGlobals x with
  | some (some u) => cB K d u
  | _ => false
def ConAt (K : PySem.W.Frag) (mg : Str → Option Value) (x : Str) (d : D) : Prop := ∃ u v, mg x = some u ∧ RelV v u ∧ RpK K d v
theorem conB_ok {K : PySem.W.Frag} {h : Heap} {mg : Str → Option Value} (X : K.In h) (G : h.Ns mainGlobals mg) {x : Str} {d : D} (c : conB K x d = true) : ConAt K mg x d := by
  unfold conB at c
  split at c
  · rename_i u hu
    obtain ⟨v, r1, r2⟩ := cB_ok c
    exact ⟨u, v, PySem.W.mg_of X G hu, r1, r2⟩
  · cases c

/-! ### the head's facts, and one more Bool -/
def obsF (n : Nat) (fa : List He.Fa) (fn : List He.DefD) (ex : PySem.W.Frag → Bool) (g : Addr → Option Obj) : He.AlD × Bool := (He.obsD fa fn (He.frG g (He.asD g n)), ex (He.frG g (He.asD g n)))
def SaysF (fa : List He.Fa) (fn : List He.DefD) (ex : PySem.W.Frag → Bool) (K : PySem.W.Frag) : Prop := He.SaysD fa fn K ∧ ex K = true
def hookF (n : Nat) (fa : List He.Fa) (fn : List He.DefD) (ex : PySem.W.Frag → Bool) : PySem.W.Hook where
  α := He.AlD × Bool
  obs := fun s => obsF n fa fn ex s.heap.get?
  val := fun _ => (He.valD fn, true)
  says := fun _ h => ∃ K : PySem.W.Frag, K.In h ∧ SaysF fa fn ex K
  of := fun _ _ e => ⟨_, He.frG_in, congrArg (fun z : He.AlD × Bool => z.1) e, congrArg (fun z : He.AlD × Bool => z.2) e⟩
  keeps := fun _ _ _ ⟨K, hK, c⟩ k => ⟨K, PySem.W.Frag.In.keeps hK k, c⟩
theorem defAt_of {K : PySem.W.Frag} {fa : List He.Fa} {fn : List He.DefD} (c : He.SaysD fa fn K) {x : Str} {st : Stmt} (i : Nat) (h : fn[i]? = some ⟨(x, none), x, x, defArgs st, defBody st, defScope st, [], []⟩) : DefAt K x st (He.ga K x) := c.def_ i h

/-! ### the law's end -/
theorem law_sp {K : PySem.W.Frag} {m : List D → Option D} (hm : ∀ ns : List Int, ns.length ≤ 63 → m [.klst (ns.map D.int)] = some (.bl true)) :
    ∀ (H : Hp) (a : Addr) (ns : List Int), ns.length ≤ 63 → L2.Only H → SqL K H a (ns.map V.int) → spF K false 1 m [.ref a] H (fun v _ => v = .bl true) fun _ _ _ => False := fun H a ns hl _ hS => by
  have r : RpAll K (fun _ => none) H (ns.map D.int) (ns.map V.int) := by
    induction ns with
    | nil => exact .nil
    | cons n ns ih =>
      have : ∀ l : List Int, RpAll K (fun _ => none) H (l.map D.int) (l.map V.int) := fun l => by
        induction l with
        | nil => exact .nil
        | cons z l ih2 => exact .cons (.int z) ih2
      exact this (n :: ns)
  exact ⟨fun _ => none, H, [.klst (ns.map D.int)], .bl true, Same.refl _, .cons (.klst hS r) .nil, rfl, hm ns hl, fun v Hf' H' g r => by cases r; rfl⟩
end FL
namespace FL
variable [HW]
open PySem L2
def negD : D → Option D | .int i => some (.int (-i)) | _ => none
section
variable {X : Cx} {O : List Nat} {a b e : Expr} {pos : Pos} {F G : Env → Option D}
end
end FL
namespace FL
variable [HW]
open PySem L2
/-! ### names that nobody reads any more -/
def sForget (vs : List Nat) (G : Env → Option Out) : Env → Option Out := fun ρ => G (wipeE ρ vs)
theorem SR.forget {K : PySem.W.Frag} {φ : Nat → Option Addr} {Hf0 H0 Hf H : Hp} {O : List Nat} {ρ : Env} {σ : St} (S : SR K φ Hf0 H0 O ρ σ Hf H) (vs : List Nat) : SR K φ Hf0 H0 O (wipeE ρ vs) σ Hf H :=
  ⟨by rw [wipeE_len]; exact S.len, S.sub, S.gf, S.gh, S.gn, fun i d e n => S.val i d (wipeE_some e).1 n, fun i d e m => S.own i d (wipeE_some e).1 m, fun i j d e a h1 h2 m1 m2 hne q1 => S.ne i j d e a (wipeE_some h1).1 (wipeE_some h2).1 m1 m2 hne q1⟩
theorem fss_forget {X : Cx} {fr : Bool} {L O O' : List Nat} {sts : List Stmt} {G : Env → Option Out} (vs : List Nat) (h : FSs X fr L O O' sts G) : FSs X fr L O O' sts (sForget vs G) := fun φ Hf0 H0 ρ σ Hf H out Dn S hF P =>
  h φ Hf0 H0 (wipeE ρ vs) σ Hf H out Dn (S.forget vs) hF P
end FL
namespace FL
variable [HW]
open PySem L2 PyProof.Rows
/-! ### xs.extend(a tuple) -/
section
open PySem.SeqAt PySem.AutoSeq1 PySem.MeetsSeq2 PySem.MeetsSeq3 PySem.MeetsSeq
end
section
variable {X : Cx} {O : List Nat}
def rExtT (K : PySem.W.Frag) : V → List V → Hp → VK → Prop := fun v vs H Q => ∃ a t xs zs, v = .ref a ∧ vs = [.ref t] ∧ H a = some (.lst xs) ∧ SqT K H t zs ∧ xs.length + zs.length ≤ sizeLine ∧ Q .non (upd H a (.lst (xs ++ zs)))
def extendF : List D → List D → Option (List D) := fun xs ds => match ds with | [.tup zs] => if xs.length + zs.length ≤ sizeLine then some (xs ++ zs) else none | _ => none
end
end FL
namespace FL
variable [HW]
open PySem
/-! ### a mirror run by hand, a statement at a time -/
section
variable {F : Env → Option D} {G A B : Env → Option Out} {i : Nat} {ρ ρ' : Env} {C : Env → Option Bool} {d : D}
theorem runD_rt {fr : Bool} {N n : Nat} {ds : List D} (h : G (envOf N n ds) = some (.rt d)) : runD fr N n G ds = some d := by
  unfold runD
  rw [h]
theorem seq_set {o : Option Out} (h : F ρ = some d) (k : G (ρ.set i (some d)) = o) : sSeq (sSet i F) G ρ = o := by
  unfold sSeq sSet
  rw [h]; exact k
theorem seq_t {o : Option Out} (h : C ρ = some true) (k : sSeq A G ρ = o) : sSeq (sIf C A B) G ρ = o := by
  unfold sSeq sIf at *
  rw [h]; exact k
theorem seq_f {o : Option Out} (h : C ρ = some false) (k : sSeq B G ρ = o) : sSeq (sIf C A B) G ρ = o := by
  unfold sSeq sIf at *
  rw [h]; exact k
theorem seq_if {o : Option Out} {b : Bool} (h : C ρ = some b) (k1 : b = true → sSeq A G ρ = o) (k2 : b = false → sSeq B G ρ = o) : sSeq (sIf C A B) G ρ = o := by
  cases b with
  | true => exact seq_t h (k1 rfl)
  | false => exact seq_f h (k2 rfl)
theorem seq_as {o : Option Out} (k : sSeq A (sSeq B G) ρ = o) : sSeq (sSeq A B) G ρ = o := by
  unfold sSeq at *
  cases h : A ρ with
  | none => rw [h] at k; simpa using k
  | some z => cases z <;> (rw [h] at k; simpa using k)
theorem seq_nil {o : Option Out} (k : G ρ = o) : sSeq sNil G ρ = o := k
theorem seq_fg {vs : List Nat} {o : Option Out} (k : G (wipeE ρ vs) = o) : sForget vs G ρ = o := k
theorem seq_ret (h : F ρ = some d) : sSeq (sRet F) G ρ = some (.rt d) := by
  unfold sSeq sRet
  rw [h]
theorem seq_for {Fi : Env → Option (List D)} {g : D → Env → Option Env} {ds : List D} {o : Option Out} (h : Fi ρ = some ds) (k : loopF g B ds ρ = some (.nx ρ')) (k2 : G ρ' = o) : sSeq (sFor Fi g B) G ρ = o := by
  unfold sSeq sFor
  rw [h]
  simp only [k]
  exact k2
theorem not_val {C : Env → Option Bool} {ρ : Env} {b : Bool} (h : C ρ = some b) : tNot C ρ = some (!b) := by
  unfold tNot
  rw [h]
theorem loop_nx {g : D → Env → Option Env} {I : Nat → Env → Prop} : ∀ (ds : List D) (j : Nat) (ρ : Env), (∀ (i : Nat) (ρ : Env) (d : D), I (j + i) ρ → ds[i]? = some d → ∃ ρ1 ρ2, g d ρ = some ρ1 ∧ B ρ1 = some (.nx ρ2) ∧ I (j + i + 1) ρ2) → I j ρ → ∃ ρ', loopF g B ds ρ = some (.nx ρ') ∧ I (j + ds.length) ρ'
  | [], j, ρ, _, h => ⟨ρ, rfl, h⟩
  | d :: ds, j, ρ, hs, h => by
    obtain ⟨ρ1, ρ2, e1, e2, h2⟩ := hs 0 ρ d h rfl
    obtain ⟨ρ', e3, h3⟩ := loop_nx ds (j + 1) ρ2 (fun i ρ d hi hd => by
      have e : j + 1 + i = j + (i + 1) := by omega
      rw [e] at hi ⊢
      exact hs (i + 1) ρ d hi (by simpa using hd)) h2
    refine ⟨ρ', ?_, by rw [List.length_cons, show j + (ds.length + 1) = j + 1 + ds.length by omega]; exact h3⟩
    unfold loopF
    rw [e1]
    simp only [e2]
    exact e3
theorem rngD_get {lo : Int} {n i : Nat} {d : D} (h : (rngD lo n)[i]? = some d) : i < n ∧ d = .int (lo + (i : Int)) := by
  unfold rngD at h
  rw [List.getElem?_map] at h
  cases hq : (List.range n)[i]? with
  | none => rw [hq] at h; cases h
  | some c =>
    rw [hq] at h; cases h
    obtain ⟨h1, h2⟩ := List.getElem?_eq_some_iff.mp hq
    have h3 : i < n := by simpa using h1
    have h4 : c = i := by simpa using h2.symm
    subst h4
    exact ⟨h3, rfl⟩
theorem rngD_len {lo : Int} {n : Nat} : (rngD lo n).length = n := by simp [rngD]
theorem atI_nat {α : Type} {xs : List α} {k : Nat} {x : α} (h : xs[k]? = some x) : L2.atI xs (k : Int) = some x := by
  have hk := (List.getElem?_eq_some_iff.mp h).1
  unfold L2.atI L2.ixN
  rw [if_pos (by omega), if_pos (by omega)]
  simpa using h
end

theorem eL_val {f : List D → Option D} {Fs : Env → Option (List D)} {ρ : Env} {ds : List D} {o : Option D} (h : Fs ρ = some ds) (k : f ds = o) : eL f Fs ρ = o := by
  unfold eL
  rw [h]; exact k
theorem e2_val {f : D → D → Option D} {F G : Env → Option D} {ρ : Env} {x y : D} {o : Option D} (h1 : F ρ = some x) (h2 : G ρ = some y) (k : f x y = o) : e2 f F G ρ = o := by
  unfold e2
  rw [h1, h2]; exact k
theorem aCons_val {F : Env → Option D} {G : Env → Option (List D)} {ρ : Env} {d : D} {ds : List D} (h1 : F ρ = some d) (h2 : G ρ = some ds) : aCons F G ρ = some (d :: ds) := by
  unfold aCons
  rw [h1, h2]
theorem mL_val {n : Nat} {m : List D → Option D} {ds : List D} {o : Option D} (h : ds.length = n) (k : m ds = o) : mL n m ds = o := by
  unfold mL
  rw [if_pos h]; exact k
theorem tB_val {f : D → Option Bool} {F : Env → Option D} {ρ : Env} {x : D} {o : Option Bool} (h1 : F ρ = some x) (k : f x = o) : tB f F ρ = o := by
  unfold tB
  rw [h1]; exact k
/-! ### are two trees the same: the law's own -/
def isSameG (r : List D → Option D) : FL.Env → Option Out :=
    (sSeq (sIf (tOr (tB truD (e1 (isiD "tuple") (eVar 1))) (tB truD (e1 (isiD "list") (eVar 1))))
      (sSeq (sIf (tAnd (tB truD (e1 (isiD "tuple") (eVar 1))) (tNot (tB truD (e1 (isiD "tuple") (eVar 0)))))
      (sSeq (sRet (eC (.bl false)))
    sNil)
      sNil)
    (sSeq (sIf (tAnd (tB truD (e1 (isiD "list") (eVar 1))) (tNot (tB truD (e1 (isiD "list") (eVar 0)))))
      (sSeq (sRet (eC (.bl false)))
    sNil)
      sNil)
    (sSeq (sIf (tB blD (e2 neD (eL lenD (aCons (eVar 0) aNil)) (eL lenD (aCons (eVar 1) aNil))))
      (sSeq (sRet (eC (.bl false)))
    sNil)
      sNil)
    (sSeq (sFor (iRng1 (aCons (eL lenD (aCons (eVar 1) aNil)) aNil)) (gSet 2)
      (sSeq (sIf (tNot (tB truD (eL (mL 2 r) (aCons (e2 ixD (eVar 0) (eVar 2)) (aCons (e2 ixD (eVar 1) (eVar 2)) aNil)))))
      (sSeq (sRet (eC (.bl false)))
    sNil)
      sNil)
    sNil))
    (sSeq (sRet (eC (.bl true)))
    sNil)))))
      sNil)
    (sForget [2] (sSeq (sIf (tB blD (e2 isD (eVar 1) (eC .non)))
      (sSeq (sRet (e2 isD (eVar 0) (eC .non)))
    sNil)
      sNil)
    (sSeq (sIf (tB truD (e1 (isiD "bool") (eVar 1)))
      (sSeq (sRet (eAnd (e1 (isiD "bool") (eVar 0)) (e2 eqD (eVar 0) (eVar 1))))
    sNil)
      sNil)
    (sSeq (sIf (tB truD (e1 (isiD "int") (eVar 1)))
      (sSeq (sRet (eAnd (e1 (isiD "int") (eVar 0)) (eAnd (e1 notD (e1 (isiD "bool") (eVar 0))) (e2 eqD (eVar 0) (eVar 1)))))
    sNil)
      sNil)
    (sSeq (sRet (eAnd (e1 (isiD "str") (eVar 0)) (e2 eqD (eVar 0) (eVar 1))))
    sNil))))))
def isSame : Nat → List D → Option D
  | 0 => fun _ => none
  | n + 1 => runD false 3 2 (isSameG (isSame n))
def okS : Nat → D → Bool
  | 0, _ => false
  | _ + 1, .obj _ => false
  | _ + 1, .ins _ _ _ => false
  | _ + 1, .dct _ _ => false
  | _ + 1, .dkt _ _ _ => false
  | _ + 1, .xtp _ => false
  | n + 1, .tup xs => decide (xs.length < 1000000) && xs.all (okS n)
  | n + 1, .lst xs => decide (xs.length < 1000000) && xs.all (okS n)
  | n + 1, .klst xs => decide (xs.length < 1000000) && xs.all (okS n)
  | _ + 1, _ => true
theorem sEq_self (x : Str) : sEq x x = true := by simp [sEq]
theorem isSame_seq {n : Nat} {d : D} {xs : List D} (hx : seqD d = some xs) (hlen : xs.length < 1000000) (ih : ∀ x ∈ xs, isSame n [x, x] = some (.bl true))
    (c1 : tOr (tB truD (e1 (isiD "tuple") (eVar 1))) (tB truD (e1 (isiD "list") (eVar 1))) [some d, some d, none] = some true)
    (c2 : tAnd (tB truD (e1 (isiD "tuple") (eVar 1))) (tNot (tB truD (e1 (isiD "tuple") (eVar 0)))) [some d, some d, none] = some false)
    (c3 : tAnd (tB truD (e1 (isiD "list") (eVar 1))) (tNot (tB truD (e1 (isiD "list") (eVar 0)))) [some d, some d, none] = some false)
    (hix : ∀ k : Nat, ixD d (.int (k : Int)) = L2.atI xs (k : Int)) : isSame (n + 1) [d, d] = some (.bl true) := by
  have hl : lenD [d] = some (.int xs.length) := by unfold lenD; simp [hx]
  refine runD_rt ?_
  show isSameG (isSame n) [some d, some d, none] = _
  unfold isSameG
  refine seq_t c1 (seq_as (seq_f c2 (seq_nil (seq_as (seq_f c3 (seq_nil (seq_as (seq_f ?_ (seq_nil (seq_as ?_)))))))))) 
  · simp [tB, e2, eL, aCons, aNil, eVar, hl, neD, eqB, scEq, blD]
  · have hr : iRng1 (aCons (eL lenD (aCons (eVar 1) aNil)) aNil) [some d, some d, none] = some (rngD 0 xs.length) := by
      have hb : -(2 ^ 62 : Int) ≤ (xs.length : Int) ∧ (xs.length : Int) < 2 ^ 62 := by omega
      simp [iRng1, aCons, aNil, eL, eVar, hl]
      omega
    obtain ⟨ρ', e1', h'⟩ := loop_nx (g := gSet 2) (B := (sSeq (sIf (tNot (tB truD (eL (mL 2 (isSame n)) (aCons (e2 ixD (eVar 0) (eVar 2)) (aCons (e2 ixD (eVar 1) (eVar 2)) aNil))))) (sSeq (sRet (eC (.bl false))) sNil) sNil) sNil))
      (I := fun _ ρ => ∃ z, ρ = [some d, some d, z]) (rngD 0 xs.length) 0 [some d, some d, none] (fun i ρ x hI hd => by
        obtain ⟨z, rfl⟩ := hI
        obtain ⟨hi, rfl⟩ := rngD_get hd
        have hg : xs[i]? = some xs[i] := List.getElem?_eq_getElem hi
        have ha := atI_nat hg
        refine ⟨_, [some d, some d, some (.int (0 + (i : Int)))], rfl, ?_, _, rfl⟩
        have ht : tNot (tB truD (eL (mL 2 (isSame n)) (aCons (e2 ixD (eVar 0) (eVar 2)) (aCons (e2 ixD (eVar 1) (eVar 2)) aNil)))) [some d, some d, some (.int (0 + (i : Int)))] = some false := by
          have hz : (0 + (i : Int)) = (i : Int) := by omega
          simp only [tNot, tB, eL, aCons, aNil, e2, eVar, List.getElem?_cons_zero, List.getElem?_cons_succ, hz, hix, ha, mL, List.length, Nat.zero_add, Nat.reduceAdd, ↓reduceIte, ih _ (List.getElem_mem hi), truD, Bool.not_true]
        exact seq_f ht rfl) ⟨none, rfl⟩
    obtain ⟨z, rfl⟩ := h'
    exact seq_for hr e1' (seq_as (seq_ret rfl))
theorem isSame_refl : ∀ (n : Nat) (d : D), okS n d = true → isSame n [d, d] = some (.bl true)
  | 0, _, h => by cases h
  | n + 1, .non, _ => by kernel_rfl
  | n + 1, .bl b, _ => by cases b <;> kernel_rfl
  | n + 1, .int i, _ => by
    have e : isSame (n + 1) [.int i, .int i] = some (.bl (i == i)) := by kernel_rfl
    rw [e]; simp
  | n + 1, .str x, _ => by
    have e : isSame (n + 1) [.str x, .str x] = some (.bl (sEq x x)) := by kernel_rfl
    rw [e, sEq_self]
  | n + 1, .tup xs, h => by
    have h' : xs.length < 1000000 ∧ ∀ x ∈ xs, okS n x = true := by simpa [okS] using h
    exact isSame_seq (xs := xs) rfl h'.1 (fun x hx => isSame_refl n x (h'.2 x hx)) (by kernel_rfl) (by kernel_rfl) (by kernel_rfl) (fun _ => rfl)
  | n + 1, .lst xs, h => by
    have h' : xs.length < 1000000 ∧ ∀ x ∈ xs, okS n x = true := by simpa [okS] using h
    exact isSame_seq (xs := xs) rfl h'.1 (fun x hx => isSame_refl n x (h'.2 x hx)) (by kernel_rfl) (by kernel_rfl) (by kernel_rfl) (fun _ => rfl)
  | n + 1, .klst xs, h => by
    have h' : xs.length < 1000000 ∧ ∀ x ∈ xs, okS n x = true := by simpa [okS] using h
    exact isSame_seq (xs := xs) rfl h'.1 (fun x hx => isSame_refl n x (h'.2 x hx)) (by kernel_rfl) (by kernel_rfl) (by kernel_rfl) (fun _ => rfl)
  | n + 1, .obj i, h => by cases h
  | n + 1, .ins c fs xs, h => by cases h
  | n + 1, .dct fs xs, h => by cases h
  | n + 1, .dkt fz fs xs, h => by cases h
  | n + 1, .xtp xs, h => by cases h

/-! ### the script's cells -/
def cellG : FL.Env → Option Out :=
    (sSeq (sIf (tB blD (e2 ltD (eVar 1) (eL lenD (aCons (eVar 0) aNil))))
      (sSeq (sRet (eL intD (aCons (e2 ixD (eVar 0) (eVar 1)) aNil)))
    sNil)
      sNil)
    (sForget [0, 1] (sSeq (sRet (eC (.int 0)))
    sNil)))
def cellM : List D → Option D := runD false 2 2 cellG
def scr (ns : List Int) : D := .klst (ns.map D.int)
theorem cell_eq (ns : List Int) (k : Nat) : cellM [scr ns, .int k] = some (.int (ns.getD k 0)) := by
  have hl : (ns.map D.int).length = ns.length := List.length_map ..
  by_cases h : k < ns.length
  · have h2 : (k : Int) < (ns.length : Int) := by omega
    have h3 : L2.atI (ns.map D.int) (k : Int) = some (.int (ns.getD k 0)) := atI_nat (by simp [h])
    simp [scr, cellM, runD, cellG, envOf, sSeq, sIf, tB, e2, ltD, eL, lenD, aCons, aNil, eVar, seqD, sRet, intD, ixD, blD, h2, h3]
  · have h2 : ¬ (k : Int) < (ns.length : Int) := by omega
    have h4 : ns.getD k 0 = 0 := by simp [Nat.le_of_not_lt h]
    rw [h4]
    simp [scr, cellM, runD, cellG, envOf, sSeq, sIf, tB, e2, ltD, eL, lenD, aCons, aNil, eVar, seqD, sRet, intD, ixD, blD, h2, sNil, sForget, wipeE, eC]

/-! ### a drawn standing -/
def spotG : FL.Env → Option Out :=
    (sSeq (sSet 1 (e2 modD (eL intD (aCons (eVar 0) aNil)) (eC (.int 200))))
    (sForget [0] (sSeq (sSet 2 (eL tupD (aCons (e2 modD (e2 fdivD (eVar 1) (eC (.int 2))) (eC (.int 10))) (aCons (e2 eqD (e2 modD (e2 fdivD (eVar 1) (eC (.int 20))) (eC (.int 2))) (eC (.int 1))) (aCons (e2 eqD (e2 modD (e2 fdivD (eVar 1) (eC (.int 40))) (eC (.int 2))) (eC (.int 1))) aNil)))))
    (sSeq (sIf (tB blD (e2 eqD (e2 fdivD (eVar 1) (eC (.int 80))) (eC (.int 2))))
      (sSeq (sSet 2 (eC .non))
    sNil)
      sNil)
    (sSeq (sRet (eL tupD (aCons (eVar 2) (aCons (e2 eqD (e2 modD (eVar 1) (eC (.int 2))) (eC (.int 1))) aNil))))
    sNil)))))
def spotM : List D → Option D := runD false 3 1 spotG
def IsFld (F : D) : Prop := F = .non ∨ ∃ (v : Int) (c g : Bool), F = .tup [.int v, .bl c, .bl g] ∧ 0 ≤ v ∧ v < 10
end FL
namespace FL
variable [HW]
open PySem
section
variable {F G : Env → Option D} {ρ : Env} {i j : Int}
theorem int_v (h : F ρ = some (.int i)) : eL intD (aCons F aNil) ρ = some (.int i) := eL_val (aCons_val h rfl) rfl
theorem mod_v (c : Int) (hc : 0 < c) (h : F ρ = some (.int i)) : e2 modD F (eC (.int c)) ρ = some (.int (i % c)) := e2_val h rfl (by unfold modD; simp [hc])
theorem fdiv_v (c : Int) (hc : 0 < c ∧ c < 1073741824) (h : F ρ = some (.int i)) : e2 fdivD F (eC (.int c)) ρ = some (.int (i / c)) := e2_val h rfl (by unfold fdivD; simp [hc])
theorem add_v (h : F ρ = some (.int i)) (h2 : G ρ = some (.int j)) : e2 addD F G ρ = some (.int (i + j)) := e2_val h h2 rfl
theorem sub_v (h : F ρ = some (.int i)) (h2 : G ρ = some (.int j)) : e2 subD F G ρ = some (.int (i - j)) := e2_val h h2 rfl
theorem mul_v (h : F ρ = some (.int i)) (h2 : G ρ = some (.int j)) (hb : (-(2 ^ 64) < i ∧ i < 2 ^ 64) ∨ (-(2 ^ 64) < j ∧ j < 2 ^ 64)) : e2 mulD F G ρ = some (.int (i * j)) := e2_val h h2 (by show (if _ then _ else _) = _; rw [if_pos hb])
theorem gt_v (h : F ρ = some (.int i)) (h2 : G ρ = some (.int j)) : tB blD (e2 gtD F G) ρ = some (decide (j < i)) := tB_val (e2_val h h2 rfl) rfl
theorem ge_v (h : F ρ = some (.int i)) (h2 : G ρ = some (.int j)) : tB blD (e2 geD F G) ρ = some (decide (j ≤ i)) := tB_val (e2_val h h2 rfl) rfl
theorem eq_v (h : F ρ = some (.int i)) (h2 : G ρ = some (.int j)) : e2 eqD F G ρ = some (.bl (i == j)) := e2_val h h2 rfl
theorem teq_v (h : F ρ = some (.int i)) (h2 : G ρ = some (.int j)) : tB blD (e2 eqD F G) ρ = some (i == j) := tB_val (eq_v h h2) rfl
theorem var_v {k : Nat} {d : D} (h : ρ[k]? = some (some d)) : eVar k ρ = some d := by unfold eVar; rw [h]
theorem seq_mut {f : List D → List D → Option (List D)} {Fs : Env → Option (List D)} {k : Nat} {xs ys ds : List D} {G : Env → Option Out} {o : Option Out} (h1 : Fs ρ = some ds) (h2 : ρ[k]? = some (some (.lst xs))) (h3 : f xs ds = some ys) (kk : G (ρ.set k (some (.lst ys))) = o) : sSeq (sMut k f Fs) G ρ = o := by
  unfold sSeq sMut
  rw [h1, var_v h2]
  simp only [h3]
  exact kk
end
/-! ### the draws of a cell -/
def drawsG : FL.Env → Option Out :=
    (sSeq (sSet 2 (eL lstD aNil))
    (sSeq (sSet 3 (eC (.int 0)))
    (sSeq (sIf (tB blD (e2 geD (eVar 0) (e2 powD (eC (.int 10)) (eC (.int 18)))))
      (sSeq (sSet 3 (e2 subD (eVar 0) (e2 powD (eC (.int 10)) (eC (.int 18)))))
    sNil)
      sNil)
    (sSeq (sFor (iRng1 (aCons (eVar 1) aNil)) (gSet 4)
      (sSeq (sSet 5 (e2 modD (eL intD (aCons (e2 addD (e2 addD (eVar 0) (e2 mulD (eC (.int 7919)) (eVar 4))) (eC (.int 13))) aNil)) (eC (.int 2147483647))))
    (sSeq (sSet 5 (e2 modD (eL intD (aCons (e2 addD (e2 mulD (eVar 5) (eVar 5)) (e2 mulD (eC (.int 48271)) (eVar 4))) aNil)) (eC (.int 2147483629))))
    (sSeq (sSet 5 (e2 modD (eL intD (aCons (e2 addD (e2 mulD (eVar 5) (eC (.int 69621))) (e2 fdivD (eVar 5) (eC (.int 1009)))) aNil)) (eC (.int 1000003))))
    (sSeq (sIf (tB blD (e2 gtD (eVar 3) (eC (.int 0))))
      (sSeq (sSet 5 (e2 modD (eL intD (aCons (eVar 3) aNil)) (eC (.int 1000003))))
    (sSeq (sSet 3 (e2 fdivD (eVar 3) (eC (.int 1000003))))
    sNil))
      sNil)
    (sSeq (sMut 2 appendF (aCons (eVar 5) aNil))
    sNil))))))
    (sForget [0, 1, 3, 4, 5] (sSeq (sRet (eVar 2))
    sNil))))))
def drawsM : List D → Option D := runD false 6 2 drawsG
theorem draws_turn {z : Int} {n : D} {acc : List Int} {rest k : Int} {x : Option D} (hacc : acc.length < 1000) :
    ∃ (r' m' : Int), 0 ≤ m' ∧ m' < 1000003 ∧
      (sSeq (sSet 5 (e2 modD (eL intD (aCons (e2 addD (e2 addD (eVar 0) (e2 mulD (eC (.int 7919)) (eVar 4))) (eC (.int 13))) aNil)) (eC (.int 2147483647))))
    (sSeq (sSet 5 (e2 modD (eL intD (aCons (e2 addD (e2 mulD (eVar 5) (eVar 5)) (e2 mulD (eC (.int 48271)) (eVar 4))) aNil)) (eC (.int 2147483629))))
    (sSeq (sSet 5 (e2 modD (eL intD (aCons (e2 addD (e2 mulD (eVar 5) (eC (.int 69621))) (e2 fdivD (eVar 5) (eC (.int 1009)))) aNil)) (eC (.int 1000003))))
    (sSeq (sIf (tB blD (e2 gtD (eVar 3) (eC (.int 0))))
      (sSeq (sSet 5 (e2 modD (eL intD (aCons (eVar 3) aNil)) (eC (.int 1000003))))
    (sSeq (sSet 3 (e2 fdivD (eVar 3) (eC (.int 1000003))))
    sNil))
      sNil)
    (sSeq (sMut 2 appendF (aCons (eVar 5) aNil))
    sNil))))) [some (.int z), some n, some (.lst (acc.map D.int)), some (.int rest), some (.int k), x]
      = some (.nx [some (.int z), some n, some (.lst ((acc ++ [m']).map D.int)), some (.int r'), some (.int k), some (.int m')]) := by
  generalize e1 : (z + 7919 * k + 13) % 2147483647 = m1
  have b1 : 0 ≤ m1 ∧ m1 < 2147483647 := by subst e1; exact ⟨Int.emod_nonneg _ (by decide), Int.emod_lt_of_pos _ (by decide)⟩
  generalize e2' : (m1 * m1 + 48271 * k) % 2147483629 = m2
  have b2 : 0 ≤ m2 ∧ m2 < 2147483629 := by subst e2'; exact ⟨Int.emod_nonneg _ (by decide), Int.emod_lt_of_pos _ (by decide)⟩
  generalize e3 : (m2 * 69621 + m2 / 1009) % 1000003 = m3
  have b3 : 0 ≤ m3 ∧ m3 < 1000003 := by subst e3; exact ⟨Int.emod_nonneg _ (by decide), Int.emod_lt_of_pos _ (by decide)⟩
  have app : ∀ m : Int, appendF (acc.map D.int) [.int m] = some ((acc ++ [m]).map D.int) := fun m => by
    show (if (acc.map D.int).length < sizeLine then some (acc.map D.int ++ [D.int m]) else none) = _
    rw [if_pos (by rw [List.length_map, PySem.sizeLine_eq]; omega)]
    simp
  by_cases hr : 0 < rest
  · refine ⟨rest / 1000003, rest % 1000003, Int.emod_nonneg _ (by decide), Int.emod_lt_of_pos _ (by decide), ?_⟩
    refine seq_set (d := .int m1) (by subst e1; exact mod_v _ (by decide) (int_v (add_v (add_v rfl (mul_v rfl rfl (.inl ⟨by decide, by decide⟩))) rfl))) ?_
    refine seq_set (d := .int m2) (by subst e2'; exact mod_v _ (by decide) (int_v (add_v (mul_v rfl rfl (.inl ⟨by omega, by omega⟩)) (mul_v rfl rfl (.inl ⟨by decide, by decide⟩))))) ?_
    refine seq_set (d := .int m3) (by subst e3; exact mod_v _ (by decide) (int_v (add_v (mul_v rfl rfl (.inl ⟨by omega, by omega⟩)) (fdiv_v _ (by decide) rfl)))) ?_
    refine seq_t ((gt_v rfl rfl).trans (by simp [hr])) ?_
    refine seq_as (seq_set (d := .int (rest % 1000003)) (mod_v _ (by decide) (int_v rfl)) (seq_as (seq_set (d := .int (rest / 1000003)) (fdiv_v _ (by decide) rfl) (seq_nil ?_))))
    exact seq_mut (ds := [.int (rest % 1000003)]) (aCons_val rfl rfl) rfl (app _) rfl
  · refine ⟨rest, m3, b3.1, b3.2, ?_⟩
    refine seq_set (d := .int m1) (by subst e1; exact mod_v _ (by decide) (int_v (add_v (add_v rfl (mul_v rfl rfl (.inl ⟨by decide, by decide⟩))) rfl))) ?_
    refine seq_set (d := .int m2) (by subst e2'; exact mod_v _ (by decide) (int_v (add_v (mul_v rfl rfl (.inl ⟨by omega, by omega⟩)) (mul_v rfl rfl (.inl ⟨by decide, by decide⟩))))) ?_
    refine seq_set (d := .int m3) (by subst e3; exact mod_v _ (by decide) (int_v (add_v (mul_v rfl rfl (.inl ⟨by omega, by omega⟩)) (fdiv_v _ (by decide) rfl)))) ?_
    refine seq_f ((gt_v rfl rfl).trans (by simp [hr])) (seq_nil ?_)
    exact seq_mut (ds := [.int m3]) (aCons_val rfl rfl) rfl (app _) rfl
theorem draws_form (z : Int) (n : Nat) (hn : n < 1000) : ∃ ds : List Int, drawsM [.int z, .int (n : Int)] = some (.lst (ds.map D.int)) ∧ ds.length = n ∧ ∀ d ∈ ds, 0 ≤ d ∧ d < 1000003 := by
  have loop : ∀ rest : Int, ∃ (ds : List Int) (ρ' : FL.Env), loopF (gSet 4) (sSeq (sSet 5 (e2 modD (eL intD (aCons (e2 addD (e2 addD (eVar 0) (e2 mulD (eC (.int 7919)) (eVar 4))) (eC (.int 13))) aNil)) (eC (.int 2147483647))))
    (sSeq (sSet 5 (e2 modD (eL intD (aCons (e2 addD (e2 mulD (eVar 5) (eVar 5)) (e2 mulD (eC (.int 48271)) (eVar 4))) aNil)) (eC (.int 2147483629))))
    (sSeq (sSet 5 (e2 modD (eL intD (aCons (e2 addD (e2 mulD (eVar 5) (eC (.int 69621))) (e2 fdivD (eVar 5) (eC (.int 1009)))) aNil)) (eC (.int 1000003))))
    (sSeq (sIf (tB blD (e2 gtD (eVar 3) (eC (.int 0))))
      (sSeq (sSet 5 (e2 modD (eL intD (aCons (eVar 3) aNil)) (eC (.int 1000003))))
    (sSeq (sSet 3 (e2 fdivD (eVar 3) (eC (.int 1000003))))
    sNil))
      sNil)
    (sSeq (sMut 2 appendF (aCons (eVar 5) aNil))
    sNil))))) (rngD 0 n) [some (.int z), some (.int (n : Int)), some (.lst []), some (.int rest), none, none] = some (.nx ρ') ∧ ds.length = n ∧ (∀ d ∈ ds, 0 ≤ d ∧ d < 1000003) ∧ ∃ r x4 x5, ρ' = [some (.int z), some (.int (n : Int)), some (.lst (ds.map D.int)), some (.int r), x4, x5] := fun rest => by
    obtain ⟨ρ', e, h⟩ := loop_nx (g := gSet 4) (I := fun i ρ => i ≤ n ∧ ∃ (acc : List Int) (r : Int) (x4 x5 : Option D), ρ = [some (.int z), some (.int (n : Int)), some (.lst (acc.map D.int)), some (.int r), x4, x5] ∧ acc.length = i ∧ ∀ d ∈ acc, 0 ≤ d ∧ d < 1000003) (rngD 0 n) 0 [some (.int z), some (.int (n : Int)), some (.lst []), some (.int rest), none, none]
      (fun i ρ d hI hd => by
        obtain ⟨hi0, acc, r, x4, x5, rfl, hl, hb⟩ := hI
        obtain ⟨hi, rfl⟩ := rngD_get hd
        obtain ⟨r', m', h1, h2, h3⟩ := draws_turn (z := z) (n := .int (n : Int)) (acc := acc) (rest := r) (k := 0 + (i : Int)) (x := x5) (by omega)
        refine ⟨_, _, rfl, h3, by omega, acc ++ [m'], r', _, _, rfl, by rw [List.length_append, hl]; simp, fun d hd => ?_⟩
        rcases List.mem_append.mp hd with q | q
        · exact hb d q
        · have : d = m' := by simpa using q
          subst this; exact ⟨h1, h2⟩) ⟨Nat.zero_le _, [], rest, none, none, rfl, rfl, fun _ h => absurd h (by simp)⟩
    obtain ⟨_, acc, r, x4, x5, rfl, hl, hb⟩ := h
    rw [rngD_len, Nat.zero_add] at hl
    exact ⟨acc, _, e, hl, hb, r, x4, x5, rfl⟩
  have hr : iRng1 (aCons (eVar 1) aNil) = fun ρ => iRng1 (aCons (eVar 1) aNil) ρ := rfl
  have rng : ∀ rest : Int, iRng1 (aCons (eVar 1) aNil) [some (.int z), some (.int (n : Int)), some (.lst []), some (.int rest), none, none] = some (rngD 0 n) := fun rest => by
    have hb : -(2 ^ 62 : Int) ≤ (n : Int) ∧ (n : Int) < 2 ^ 62 := by omega
    simp [iRng1, aCons, aNil, eVar]
    omega
  have tail : ∀ rest : Int, ∃ ds : List Int, ((sSeq (sFor (iRng1 (aCons (eVar 1) aNil)) (gSet 4)
      (sSeq (sSet 5 (e2 modD (eL intD (aCons (e2 addD (e2 addD (eVar 0) (e2 mulD (eC (.int 7919)) (eVar 4))) (eC (.int 13))) aNil)) (eC (.int 2147483647))))
    (sSeq (sSet 5 (e2 modD (eL intD (aCons (e2 addD (e2 mulD (eVar 5) (eVar 5)) (e2 mulD (eC (.int 48271)) (eVar 4))) aNil)) (eC (.int 2147483629))))
    (sSeq (sSet 5 (e2 modD (eL intD (aCons (e2 addD (e2 mulD (eVar 5) (eC (.int 69621))) (e2 fdivD (eVar 5) (eC (.int 1009)))) aNil)) (eC (.int 1000003))))
    (sSeq (sIf (tB blD (e2 gtD (eVar 3) (eC (.int 0))))
      (sSeq (sSet 5 (e2 modD (eL intD (aCons (eVar 3) aNil)) (eC (.int 1000003))))
    (sSeq (sSet 3 (e2 fdivD (eVar 3) (eC (.int 1000003))))
    sNil))
      sNil)
    (sSeq (sMut 2 appendF (aCons (eVar 5) aNil))
    sNil))))))
    (sForget [0, 1, 3, 4, 5] (sSeq (sRet (eVar 2))
    sNil)))) [some (.int z), some (.int (n : Int)), some (.lst []), some (.int rest), none, none] = some (.rt (.lst (ds.map D.int))) ∧ ds.length = n ∧ ∀ d ∈ ds, 0 ≤ d ∧ d < 1000003 := fun rest => by
    obtain ⟨ds, ρ', e, hl, hb, r, x4, x5, rfl⟩ := loop rest
    exact ⟨ds, seq_for (rng rest) e (seq_fg (seq_ret rfl)), hl, hb⟩
  by_cases hz : (1000000000000000000 : Int) ≤ z
  · obtain ⟨ds, e, hl, hb⟩ := tail (z - 1000000000000000000)
    refine ⟨ds, runD_rt ?_, hl, hb⟩
    refine seq_set (d := .lst []) (by kernel_rfl) (seq_set (d := .int 0) rfl ?_)
    refine seq_t ((ge_v (i := z) (j := 1000000000000000000) rfl (by kernel_rfl)).trans (by simp [hz])) ?_
    exact seq_as (seq_set (d := .int (z - 1000000000000000000)) (sub_v (i := z) (j := 1000000000000000000) rfl (by kernel_rfl)) (seq_nil e))
  · obtain ⟨ds, e, hl, hb⟩ := tail 0
    refine ⟨ds, runD_rt ?_, hl, hb⟩
    refine seq_set (d := .lst []) (by kernel_rfl) (seq_set (d := .int 0) rfl ?_)
    exact seq_f ((ge_v (i := z) (j := 1000000000000000000) rfl (by kernel_rfl)).trans (by simp [hz])) (seq_nil e)
end FL
namespace FL
variable [HW]
open PySem
/-! ### a drawn event -/
def itemR : FL.Env → Option Out :=
    (sSeq (sIf (tB blD (e2 eqD (eVar 2) (eC (.int 0))))
      (sSeq (sRet (eL tupD (aCons (eL tupD (aCons (eC (.str "look")) (aCons (eVar 1) aNil))) (aCons (e2 ixD (eL lstD (aCons (eC .non) (aCons (eVar 5) (aCons (eVar 5) aNil)))) (e2 modD (e2 fdivD (eVar 3) (eC (.int 80))) (eC (.int 3)))) aNil))))
    sNil)
      sNil)
    (sSeq (sIf (tB blD (e2 eqD (eVar 2) (eC (.int 1))))
      (sSeq (sRet (eL tupD (aCons (eL tupD (aCons (eC (.str "get")) (aCons (eVar 1) aNil))) (aCons (e2 ixD (eL lstD (aCons (eC .non) (aCons (eVar 4) (aCons (eVar 4) aNil)))) (e2 modD (e2 fdivD (eVar 3) (eC (.int 80))) (eC (.int 3)))) aNil))))
    sNil)
      sNil)
    (sSeq (sIf (tB blD (e2 eqD (eVar 2) (eC (.int 2))))
      (sSeq (sRet (eL tupD (aCons (eL tupD (aCons (eC (.str "set")) (aCons (eVar 1) (aCons (eVar 4) aNil)))) (aCons (eVar 6) aNil))))
    sNil)
      sNil)
    (sSeq (sIf (tB blD (e2 eqD (eVar 2) (eC (.int 3))))
      (sSeq (sRet (eL tupD (aCons (eL tupD (aCons (eC (.str "define")) (aCons (eVar 1) (aCons (eVar 4) (aCons (e2 ixD (eVar 5) (eC (.int 1))) (aCons (e2 ixD (eVar 5) (eC (.int 2))) aNil)))))) (aCons (eVar 6) aNil))))
    sNil)
      sNil)
    (sForget [4, 5] (sSeq (sIf (tB blD (e2 eqD (eVar 2) (eC (.int 4))))
      (sSeq (sRet (eL tupD (aCons (eL tupD (aCons (eC (.str "has")) (aCons (eVar 1) aNil))) (aCons (eVar 6) aNil))))
    sNil)
      sNil)
    (sSeq (sIf (tB blD (e2 eqD (eVar 2) (eC (.int 5))))
      (sSeq (sRet (eL tupD (aCons (eL tupD (aCons (eC (.str "take")) (aCons (eVar 1) aNil))) (aCons (eVar 6) aNil))))
    sNil)
      sNil)
    (sForget [1] (sSeq (sIf (tB blD (e2 eqD (eVar 2) (eC (.int 6))))
      (sSeq (sSet 7 (eL lstD (aCons (eC (.int 1)) (aCons (eC (.int 2)) (aCons (eC (.int 4)) (aCons (eC (.int 8)) (aCons (eC (.int 16)) (aCons (eC (.int 32)) (aCons (eC (.int 64)) (aCons (eC (.int 128)) aNil))))))))))
    (sSeq (sSet 8 (eComp [9] (iStr (eC (.str "abcdefgh"))) (gSet 9) (tB blD (e2 eqD (e2 modD (eL intD (aCons (e2 fdivD (eVar 3) (e2 ixD (eVar 7) (e2 subD (eL ordD (aCons (eVar 9) aNil)) (eC (.int 97))))) aNil)) (eC (.int 2))) (eC (.int 1)))) (eVar 9)))
    (sSeq (sIf (tB blD (e2 eqD (e2 modD (e2 fdivD (eVar 3) (eC (.int 256))) (eC (.int 2))) (eC (.int 1))))
      (sSeq (sSet 8 (e1 revD (eVar 8)))
    sNil)
      sNil)
    (sSeq (sRet (eL tupD (aCons (eL tupD (aCons (eC (.str "names")) aNil)) (aCons (eL tupOf (aCons (eVar 8) aNil)) aNil))))
    sNil))))
      sNil)
    (sForget [3, 7, 8] (sSeq (sRet (eL tupD (aCons (e2 ixD (eL lstD (aCons (eL tupD (aCons (eC (.str "shut")) aNil)) (aCons (eL tupD (aCons (eC (.str "isshut")) aNil)) aNil))) (e2 subD (eVar 2) (eC (.int 7)))) (aCons (eVar 6) aNil))))
    sNil)))))))))))
def itemG : FL.Env → Option Out :=
    (sSeq (sSet 2 (e2 modD (eL intD (aCons (eVar 0) aNil)) (eC (.int 9))))
    (sSeq (sSet 3 (e2 fdivD (eL intD (aCons (eVar 0) aNil)) (eC (.int 9))))
    (sForget [0] (sSeq (sSet 4 (e2 modD (eVar 3) (eC (.int 10))))
    (sSeq (sSet 5 (eL tupD (aCons (eVar 4) (aCons (e2 eqD (e2 modD (e2 fdivD (eVar 3) (eC (.int 10))) (eC (.int 2))) (eC (.int 1))) (aCons (e2 eqD (e2 modD (e2 fdivD (eVar 3) (eC (.int 20))) (eC (.int 2))) (eC (.int 1))) aNil)))))
    (sSeq (sSet 6 (e2 eqD (e2 modD (e2 fdivD (eVar 3) (eC (.int 40))) (eC (.int 2))) (eC (.int 1)))) itemR))))))
def itemM : List D → Option D := runD false 10 2 itemG
def letters : List Str := (["a", "b", "c", "d", "e", "f", "g", "h"] : List String).map Str.ofString
inductive IsEv (L : Str) : D → Prop
  | look {F : D} : IsFld F → IsEv L (.tup [.tup [.str "look", .str L], F])
  | get0 : IsEv L (.tup [.tup [.str "get", .str L], .non])
  | get {v : Int} : 0 ≤ v → v < 10 → IsEv L (.tup [.tup [.str "get", .str L], .int v])
  | set {v : Int} {y : Bool} : 0 ≤ v → v < 10 → IsEv L (.tup [.tup [.str "set", .str L, .int v], .bl y])
  | define {v : Int} {c g y : Bool} : 0 ≤ v → v < 10 → IsEv L (.tup [.tup [.str "define", .str L, .int v, .bl c, .bl g], .bl y])
  | has {y : Bool} : IsEv L (.tup [.tup [.str "has", .str L], .bl y])
  | take {y : Bool} : IsEv L (.tup [.tup [.str "take", .str L], .bl y])
  | names {zs : List Str} : (∀ z ∈ zs, z ∈ letters) → zs.length ≤ 8 → IsEv L (.tup [.tup [.str "names"], .tup (zs.map D.str)])
  | shut {y : Bool} : IsEv L (.tup [.tup [.str "shut"], .bl y])
  | isshut {y : Bool} : IsEv L (.tup [.tup [.str "isshut"], .bl y])
theorem comp_v {vs : List Nat} {Fi : Env → Option (List D)} {g : D → Env → Option Env} {T : Env → Option Bool} {E : Env → Option D} {ρ : Env} {ds ys : List D} (h : Fi ρ = some ds) (hl : ds.length ≤ sizeLine) (k : compL g T E (wipeE ρ vs) ds = some ys) : eComp vs Fi g T E ρ = some (.lst ys) := by
  unfold eComp
  rw [h]
  simp only [hl, if_true, k]
theorem inB_strs (M : Str) (zs : List Str) : inB (.str M) (.tup (zs.map D.str)) = some ((zs.map D.str).any fun z => deq z (.str M)) := by
  have h : (zs.map D.str).all flatD = true := by
    induction zs with
    | nil => rfl
    | cons z zs ih => exact ih
  show (if (flatD (.str M) && (zs.map D.str).all flatD) = true then _ else _) = _
  rw [h]
  rfl
end FL
namespace FL
variable [HW]
open PySem L2 PySem.Spec PyProof.Rows
/-! ### list comprehensions with any number of clauses -/
section
variable {P : Program} {W : World} {B : Around} {elt : Expr} {gens : List Comprehension} {scope : Scope} {pos : Pos} {n : Nat} {it out : Value} {env : PySem.Env} {c : Comprehension} {st : Shared}
def Behind (P : Program) (W : World) (B : Around) (elt : Expr) (gens : List Comprehension) (scope : Scope) (pos : Pos) (env : PySem.Env) (out : Value) (n : Nat) (K : Shared → Prop) (E : Value → Shared → Prop) (st : Shared) : Prop :=
  match gens[n]? with
  | some d => d.is_async = 0 ∧ (∀ x, foldedSetIterable d.iter env x = pure x) ∧
      wpAny (model P W) B (eval d.iter env) (fun x s1 => wpAny (model P W) B (pyIter x) (fun i s2 =>
        codeAny (model P W) B (.compStart (.ListComp elt gens scope pos) n i out env) (fun r s' => match r with | .ok _ => K s' | .error _ => False) s2) E s1) E st
  | none => wpAny (model P W) B (eval elt env) (fun y s1 => wpAny (model P W) B (call (.builtin "list.append") [out, y]) (fun _ s' => K s') E s1) E st
theorem turn_n {Post : Fin → Shared → Prop} {E : Value → Shared → Prop} (hg : gens[n]? = some c) (ha : c.is_async = 0)
    (h : wpAny (model P W) B (pyNext it) (fun r s1 => match r with
      | none => Post (.done .next) s1
      | some v => wpAny (model P W) B (letOwnedTupleGo c.target it v) (fun _ s2 => wpAny (model P W) B (assign c.target env v) (fun _ s3 =>
          wpAny (model P W) B (forIn c.ifs true fun c r => if r = true then do let ok ← isTrue c env (eval c env); pure (ForInStep.yield ok) else pure (ForInStep.yield r)) (fun ok s4 =>
            if ok = true then Behind P W B elt gens scope pos env out (n + 1) (Post (.again (.compLoop (.ListComp elt gens scope pos) n it out env))) E s4
            else Post (.again (.compLoop (.ListComp elt gens scope pos) n it out env)) s4) E s3) E s2) E s1) E st) :
    wpAny (model P W) B (compTurn (.ListComp elt gens scope pos) n it out env) Post E st := by
  unfold compTurn
  simp only [hg, ha]
  have same : ∀ e s, E e s → E e s := fun _ _ z => z
  apply wpAny_bind; apply wpAny_standAt; apply wpAny_bind
  refine wpAny_mono h (fun r s1 h1 => ?_) same
  match r, h1 with
  | none, h1 => exact wpAny_pure h1
  | some v, h1 =>
    apply wpAny_bind
    refine wpAny_mono h1 (fun _ s2 h2 => ?_) same
    apply wpAny_bind
    refine wpAny_mono h2 (fun _ s3 h3 => ?_) same
    apply wpAny_bind
    refine wpAny_mono h3 (fun ok s4 h4 => ?_) same
    cases ok
    · exact wpAny_pure h4
    · simp only [if_true] at h4 ⊢
      clear h h1 h2 h3
      unfold Behind at h4
      cases hd : gens[n + 1]? with
      | none =>
        rw [hd] at h4
        simp only at h4 ⊢
        apply wpAny_bind; apply wpAny_bind
        refine wpAny_mono h4 (fun y s5 h5 => ?_) same
        apply wpAny_bind
        exact wpAny_mono h5 (fun _ s6 h6 => wpAny_pure (wpAny_pure h6)) same
      | some d =>
        rw [hd] at h4
        simp only at h4 ⊢
        obtain ⟨hz, hs, h4⟩ := h4
        simp only [hz]
        apply wpAny_bind
        refine wpAny_mono h4 (fun x s5 h5 => ?_) same
        apply wpAny_bind; apply wpAny_standAt; apply wpAny_bind
        refine wpAny_of_eq (hs x) ?_
        apply wpAny_bind; apply wpAny_holding
        refine wpAny_mono h5 (fun i s6 h6 => ?_) same
        apply wpAny_bind
        apply wpAny_runOwn (hnb := by decide)
        rw [Around.mark_none]
        refine codeAny_mono h6 fun r s' hr => ?_
        match r, hr with
        | .ok _, hr => first | exact wpAny_pure hr | exact wpAny_bind (wpAny_pure (wpAny_pure hr))
        | .error _, hr => exact False.elim hr
theorem start_n {R : Result → Shared → Prop} (hg : gens[n]? = some c) (ha : c.is_async = 0) (h0 : codeAny (model P W) B (.compLoop (.ListComp elt gens scope pos) n it out env) R st)
    (h : ∀ E, wpAny (model P W) B (pyIter it) (fun i s' => codeAny (model P W) B (.compLoop (.ListComp elt gens scope pos) n i out env) R s') E st) : codeAny (model P W) B (.compStart (.ListComp elt gens scope pos) n it out env) R st := by
  apply codeAny_of_tree
  change wpAny _ _ ((compStart (.ListComp elt gens scope pos) n it out env).onRaise (fun x => do noteFrame x env; standAt theWindowsPlace)) _ _ st
  apply wpAny_notedAt
  have e1 : (clausesOf (.ListComp elt gens scope pos))[n]? = some c := hg
  unfold compStart
  simp only [e1, ha, Option.elim]
  change wpAny _ _ (ask >>= _) _ _ st
  apply wpAny_bind; apply wpAny_askSetting; apply wpAny_ite
  split
  · first | exact wpAny_pure ⟨rfl, h0⟩ | exact wpAny_bind (wpAny_pure (wpAny_pure ⟨rfl, h0⟩))
  · apply wpAny_bind; apply wpAny_rule
    first | apply wpAny_bind | (change wpAny _ _ (standAt c.iter.pos >>= _) _ _ st; apply wpAny_bind)
    apply wpAny_standAt
    apply wpAny_bind
    exact wpAny_mono (h _) (fun i s' z => wpAny_pure ⟨rfl, z⟩) fun _ _ z => z
end
structure Lv where
  wi : TI
  g : TG
  tt : TT
  vs : List Nat
def Walk (l : Lv) (Go : (Hp → Prop) → L2.St → Hp → Prop) (J : It) (Stop : Hp → Prop) (σ : L2.St) (H0 : Hp) : Prop :=
  ∃ W : Nat → Nat → Hp → Prop, (∃ m, W 0 m H0) ∧ ∀ j k H, W j k H →
    (J.stop j H ∧ Stop H) ∨ (J.go j H ∧ ∃ Nx : Hp → Prop, (∀ H', Nx H' → ∃ k', k' < k ∧ W (j + 1) k' H') ∧ ∀ x H', J.yld j H x H' → l.g x (wipe σ l.vs) H' fun σ3 H5 => wipe σ3 l.vs = wipe σ l.vs ∧ l.tt σ3 H5 fun b H6 =>
      if b = true then Go Nx σ3 H6 else Nx H6)
def tIn (te : TE) (D : Addr) : List Lv → (Hp → Prop) → L2.St → Hp → Prop
  | [], Nx, σ, H => te σ H fun y H7 => ∃ acc, H7 D = some (.lst acc) ∧ acc.length < sizeLine ∧ Nx (upd H7 D (.lst (acc ++ [y])))
  | l :: ls, Nx, σ, H => l.wi σ H fun J H4 => Walk l (tIn te D ls) J Nx σ H4
def LvOk (B : Cx) (c : Comprehension) (l : Lv) : Prop := c.is_async = 0 ∧ (∀ x, foldedSetIterable c.iter B.env x = pure x) ∧ PI B c.target c.iter l.wi ∧ PG B c.target l.g ∧ PTs B c.ifs l.tt
inductive Lvs (B : Cx) : List Nat → List Comprehension → List Lv → Prop
  | nil {vs} : Lvs B vs [] []
  | cons {vs c l cs ls} : LvOk B c l → (∀ i ∈ l.vs, i ∈ vs) → Lvs B l.vs cs ls → Lvs B vs (c :: cs) (l :: ls)
structure At (B : Cx) (pins : List (Addr × Obj)) (σ : L2.St) (tn : Nat → Heap → Prop) (fp : List Addr) (i : Nat) (H : Hp) (s : Shared) : Prop where
  inv : Inv B pins σ H s
  tn : tn i s.heap
  no : ∀ b ∈ fp, H b = none
section
variable {X : Cx} {elt : Expr} {gens : List Comprehension} {scope : Scope} {pos : Pos} {ce : PySem.Env} {D : Addr} {te : TE} {s3 : Shared} {H3 : Hp} {fp : List Addr}
theorem At.ends {B : Cx} {pins : List (Addr × Obj)} {σ τ : L2.St} {tg : Expr} {J : It} {Q : Program} {W : World} {K : PySem.W.Frag} {it : Addr} {own : List Addr} {tn : Nat → Heap → Prop} {i : Nat} {mid s' : Shared} {H' : Hp} (T : Turn Q W K tg J own it tn) (hm : tn i mid.heap)
    (I : Inv B (pins ++ pinsAt own mid.heap) τ H' s') (hl : σ.length = τ.length) (hk : ∀ (a : Nat) v, σ[a]? = some (some v) → τ[a]? = some (some v)) : At B pins σ tn own i H' s' := by
  have still : ∀ b ∈ own, ∀ o, mid.heap.get? b = some o → s'.heap.get? b = some o ∧ H' b = none := by
    intro b hb o ho
    have w := I.pin (b, o) (List.mem_append.mpr (.inr (List.mem_append.mpr (.inr (mem_pinsAt hb ho)))))
    exact ⟨w.1, w.2.1⟩
  constructor
  · exact I.unpinned.weak hl hk
  · exact T.keep _ _ _ hm fun b hb o ho => (still b hb o ho).1
  · intro b hb
    rcases T.obj _ _ hm b hb with ⟨o, ho, -⟩
    exact (still b hb o ho).2
theorem loop_n {j : Nat} {c : Comprehension} {l : Lv} {ls : List Lv} {pins : List (Addr × Obj)} {σ : L2.St} {Stop : Hp → Prop} {it : Addr} {own : List Addr} {tn : Nat → Heap → Prop} {J : It} {H : Hp} {s : Shared} {R : Result → Shared → Prop} (hc : X.calm = true)
    (hg : gens[j]? = some c) (ha : c.is_async = 0) (pg : PG (X.blk s3 H3 scope ce fp) c.target l.g) (pt : PTs (X.blk s3 H3 scope ce fp) c.ifs l.tt)
    (rest : ∀ {pins : List (Addr × Obj)} {σ : L2.St} {H : Hp} {s : Shared} {Nx : Hp → Prop} {K : Shared → Prop} {E : Value → Shared → Prop}, Inv (X.blk s3 H3 scope ce fp) pins σ H s → tIn te D ls Nx σ H → (∀ H' s', Inv (X.blk s3 H3 scope ce fp) pins (wipe σ l.vs) H' s' → Nx H' → K s') → Behind X.prog X.w X.A elt gens scope pos ce (.ref D) (j + 1) K E s)
    (T : Turn X.prog X.w X.K c.target J own it tn)
    (stat : ∀ {H' s'}, Inv (X.blk s3 H3 scope ce fp) pins (wipe σ l.vs) H' s' → (∀ b ∈ own, H' b = none) → ∀ b ∈ own, FpOk (X.blk s3 H3 scope ce fp) pins H' b)
    (walk : Walk l (tIn te D ls) J Stop σ H) (here : At (X.blk s3 H3 scope ce fp) pins (wipe σ l.vs) tn own 0 H s)
    (hdone : ∀ H' s', Inv (X.blk s3 H3 scope ce fp) pins (wipe σ l.vs) H' s' → Stop H' → R (.ok .next) s') :
    codeAny (model X.prog X.w) X.A (.compLoop (.ListComp elt gens scope pos) j (.ref it) (.ref D) ce) R s := by
  rcases walk with ⟨W, ⟨m, w0⟩, turn⟩
  apply codeAny_loop rfl (fun k s' => ∃ i H', At (X.blk s3 H3 scope ce fp) pins (wipe σ l.vs) tn own i H' s' ∧ W i k H') _ m ⟨0, H, here, w0⟩
  rintro k s' ⟨i, Hi, here, wk⟩
  change wpAny _ X.A ((compTurn (.ListComp elt gens scope pos) j (.ref it) (.ref D) ce).onRaise (fun x => do noteFrame x ce; theTreesLotGoes x)) _ _ s'
  apply wpAny_noted
  apply turn_n hg ha
  have fpok := stat here.inv here.no
  rcases turn i k Hi wk with ⟨stop, fin⟩ | ⟨go, Nx, down, item⟩
  · refine thnF (T.done (X.blk s3 H3 scope ce fp) rfl rfl rfl hc i pins s' _ Hi (fun _ _ => False) here.inv fpok here.tn stop) ?_
    rintro _ s1 ⟨rfl, I1⟩
    exact hdone Hi s1 I1 fin
  · refine thnF (T.item (X.blk s3 H3 scope ce fp) rfl rfl rfl hc i pins s' _ Hi (fun _ _ => False) here.inv fpok here.tn go) ?_
    rintro _ s1 ⟨u, rfl, q1⟩
    refine thnF q1 ?_
    rintro _ mid ⟨x, Hm, Im, rx, yx, tm, nm⟩
    have pinned := Im.pinned (stat Im nm) (T.obj _ _ tm)
    refine thnF (pg.run _ mid _ Hm x u _ pinned rx (item x Hm yx)) ?_
    rintro _ s2 ⟨τ, H2, I2, same, q2⟩
    refine thnF (pt.run _ s2 τ H2 _ I2 q2) ?_
    rintro b s4 ⟨H4, I4, q4⟩
    have len : (wipe σ l.vs).length = τ.length := by rw [← same, wipe_length]
    cases b
    · simp only [Bool.false_eq_true, ↓reduceIte] at q4 ⊢
      rcases down H4 q4 with ⟨k', lt, wk'⟩
      exact ⟨trivial, k', lt, i + 1, H4, At.ends T tm I4 len fun a v e => (wipe_some (same ▸ e)).1, wk'⟩
    · simp only [↓reduceIte] at q4 ⊢
      refine rest I4 q4 fun H5 s5 I5 q5 => ?_
      rcases down H5 q5 with ⟨k', lt, wk'⟩
      exact ⟨trivial, k', lt, i + 1, H5, At.ends T tm I5 (len.trans (wipe_length τ l.vs).symm) fun a v e => same ▸ e, wk'⟩
theorem rest_n (hc : X.calm = true) (henv : (X.blk s3 H3 scope ce fp).env = ce) (pe : PE (X.blk s3 H3 scope ce fp) elt te) : ∀ {ls : List Lv} {cs : List Comprehension} {vs : List Nat} {j : Nat}, Lvs (X.blk s3 H3 scope ce fp) vs cs ls → gens.drop j = cs →
    ∀ {pins : List (Addr × Obj)} {σ : L2.St} {H : Hp} {s : Shared} {Nx : Hp → Prop} {K : Shared → Prop} {E : Value → Shared → Prop}, Inv (X.blk s3 H3 scope ce fp) pins σ H s → tIn te D ls Nx σ H → (∀ H' s', Inv (X.blk s3 H3 scope ce fp) pins (wipe σ vs) H' s' → Nx H' → K s') → Behind X.prog X.w X.A elt gens scope pos ce (.ref D) j K E s
  | [], cs, vs, j, L, hd, pins, σ, H, s, Nx, K, E, I, q, hK => by
    cases L
    have hj : gens[j]? = none := List.getElem?_eq_none (by simpa using hd)
    unfold Behind
    rw [hj]
    refine thnF (pe.run _ s σ H _ I q) ?_
    rintro v s1 ⟨y, H1, I1, ry, acc, hD, room, nx⟩
    exact app_ok (X := X.blk s3 H3 scope ce fp) I1 hD room ry fun s2 I2 => hK _ s2 (I2.weak (wipe_length _ _) fun a v e => (wipe_some e).1) nx
  | l :: ls, _, vs, j, .cons (c := c) (cs := cs) ⟨ha, hs, pi, pg, pt⟩ sub more, hd, pins, σ, H, s, Nx, K, E, I, q, hK => by
    have hj : gens[j]? = some c := by
      have := congrArg List.head? hd
      rwa [List.head?_drop] at this
    have hd' : gens.drop (j + 1) = cs := by
      have := congrArg List.tail hd
      rwa [List.tail_drop] at this
    unfold Behind
    rw [hj]
    refine ⟨ha, hs, thnF (pi.run _ s σ H _ I q) fun x s1 hx => thnF hx ?_⟩
    rintro _ s2 ⟨it, own, tn, J, H2, rfl, I2, T, t0, fo, walk⟩
    have loop := loop_n (s3 := s3) (H3 := H3) (fp := fp) (pos := pos) (R := fun r s' => match r with | .ok _ => K s' | .error _ => False) hc hj ha pg pt
      (fun {pins σ H s Nx K E} I q hK => rest_n hc henv pe more hd' I q hK) T (fun {H' s'} _ hn b hb => ⟨hn b hb, (fo b hb).2⟩) walk
      ⟨I2.weak (wipe_length _ _) fun a v e => (wipe_some e).1, t0, fun b hb => (fo b hb).1⟩
      (fun H' s' I' nx => hK H' s' (I'.weak (by rw [wipe_length, wipe_length]) fun a v e => ?_) nx)
    · exact start_n hj ha loop fun E => T.self X.A 0 _ _ _ t0 loop
    · have ⟨e1, e2⟩ := wipe_some e
      rwa [L2.wipe_out fun z => e2 (sub a z)]
end
theorem laid_list {X : Cx} {pins : List (Addr × Obj)} {σ : L2.St} {H : Hp} {s : Shared} {fp : List Addr} (I : Inv X pins σ H s) (hf : ∀ b ∈ fp, FpOk X pins H b) (ho : ∀ b ∈ fp, ∃ o, s.heap.get? b = some o) {D : Addr} (hD : s.heap.objs.size = D) {o : Obj} (e : o = { cls := .type "list", data := .seq #[] }) :
    Inv X pins σ (upd H D (.lst [])) { s with heap := s.heap.push o } ∧ ∀ b ∈ fp, FpOk X pins (upd H D (.lst [])) b ∧ b < (s.heap.push o).objs.size := by
  subst hD e
  constructor
  · exact I.laid (t' := s.toks) (fun b o z => Heap.get?_push_of_some _ z) (Nat.le_refl _) ⟨Nat.zero_le _, [], 0, .nil, Heap.get?_push_size _ rfl⟩
  · intro b hb
    rcases ho b hb with ⟨o, z⟩
    have small : b < s.heap.objs.size := Heap.lt_size z
    have away : upd H s.heap.objs.size (.lst []) b = H b := upd_ne (Nat.ne_of_lt small)
    exact ⟨⟨away.trans (hf b hb).1, (hf b hb).2⟩, by rw [Heap.size_push]; exact Nat.lt_succ_of_lt small⟩
section
variable {X : Cx} {elt tg iter : Expr} {ifs : List Expr} {cs : List Comprehension} {scope : Scope} {own : List (Str × Nat)} {pos : Pos} {te : TE}
def tLcN (te : TE) (l : Lv) (ls : List Lv) : TE := fun σ H Q => l.wi σ H fun J H1 => ∀ D, H1 D = none → Walk l (tIn te D ls) J (fun H => Q (.ref D) H) σ (upd H1 D (.lst []))
theorem pe_lcN {l : Lv} {ls : List Lv} (hc : X.calm = true) (hN : X.N.Nodup) (hi : PI X tg iter l.wi) (ok : BlkOk X.N X.env.scope scope own) (hvs : l.vs = own.map (·.2)) (hs : ∀ x, foldedSetIterable iter X.env x = pure x)
    (hg : ∀ s H C cl fp, PG (X.blk s H scope (compEnvC scope cl C X.env) fp) tg l.g) (ht : ∀ s H C cl fp, PTs (X.blk s H scope (compEnvC scope cl C X.env) fp) ifs l.tt)
    (he : ∀ s H C cl fp, PE (X.blk s H scope (compEnvC scope cl C X.env) fp) elt te) (hL : ∀ s H C cl fp, Lvs (X.blk s H scope (compEnvC scope cl C X.env) fp) l.vs cs ls) :
    PE X (.ListComp elt (⟨tg, iter, ifs, 0⟩ :: cs) scope pos) (tLcN te l ls) := by
  constructor
  intro pins s σ H Q I h
  rw [eval_ListComp]
  change wpAny (model X.prog X.w) X.A (comprehension (.ListComp elt (⟨tg, iter, ifs, 0⟩ :: cs) scope pos) scope X.env (firstIterPos (⟨tg, iter, ifs, 0⟩ :: cs) pos) (newList []) false (eval iter X.env)) _ _ s
  have cells : ∀ y ∈ scope.names, y.2 = .free → ∃ c, X.env.cells.lookup y.1 = some c := by
    intro y hy e
    rcases ok.free y hy e with z | z
    · exact I.ok.has _ (.inl z)
    · exact I.ok.has _ (.inr z)
  refine wpAny_comprehension_free (use := none) rfl hs (closure_ok cells) ok.kind (fun y hy e => (ok.uniq y hy).trans (congrArg some e)) (thn (hi.run pins s σ H _ I h) fun x s1 hx => thn hx ?_)
  rintro _ s2 ⟨it, fp, tn, J, H2, rfl, I2, T, t0, fo, q⟩
  refine wpAny_newObj_type (h := newEnv_comp ?_) ?size
  case size => exact Nat.zero_le sizeLine
  have walk := q s2.heap.objs.size (I2.hok.fresh (Nat.le_refl _))
  have alive : ∀ b ∈ fp, ∃ o, s2.heap.get? b = some o := fun b hb => let ⟨o, z, _⟩ := T.obj _ _ t0 b hb; ⟨o, z⟩
  have ⟨I3, f3⟩ := laid_list I2 fo alive rfl (o := { cls := .type "list", data := .seq ([] : List Value).toArray }) rfl
  have inside := block_start I3 ok hN f3
  rw [← hvs] at inside
  have later : ∀ {h : Heap}, (∀ b o, s2.heap.get? b = some o → h.get? b = some o) → tn 0 h := fun keeps => T.keep _ _ _ t0 fun b _ o z => keeps b o z
  refine codeAny_compStart_list ?_ (T.self X.A 0 _ _ _ (later fun b o z => pushCells_keeps _ _ _ _ (Heap.get?_push_of_some _ (Heap.get?_push_of_some _ z))) ?_) <;>
  · refine loop_n (pins := []) (l := l) (ls := ls) (te := te) hc rfl rfl (hg _ _ _ _ _) (ht _ _ _ _ _) (fun {pins σ H s Nx K E} I q hK => rest_n hc rfl (he _ _ _ _ _) (hL _ _ _ _ _) rfl I q hK) T ?_ walk
      ⟨inside, later fun b o z => pushCells_keeps _ _ _ _ (Heap.get?_push_of_some _ (Heap.get?_push_of_some _ z)), fun b hb => (f3 b hb).1.1⟩ ?_
    · intro H' s' I' hn b hb
      refine ⟨hn b hb, (I'.ok.exf b hb).1, I'.ok.exfs b hb, .inl hb, fun x c e => (I'.ok.exf b hb).2 x c e, fun p hp => ?_⟩
      cases hp
    · intro H5 s6 I6 fin
      have I7 : Inv X pins σ H5 s6 := I3.call' (ch := fp) I6.os I6.base I6.hok I6.bare fun b hb => let z := (f3 b hb).1.2; ⟨z.2.2.1, z.1, z.2.2.2.1, z.2.2.2.2⟩
      rcases I6.loc with ⟨m, hn, _⟩
      rcases I3.fpOk (Nat.le_refl _) I6.free with ⟨f0, f1, _, f4, f5, f6⟩
      exact ⟨m, hn, fun _ sb => ⟨.ref s2.heap.objs.size, H5, I7.turned (t' := s6.toks) (fun b o hb e => (sb.2 b hb).trans e) f0 f1 f4 f5 f6, rfl, fin⟩⟩
end
end FL
namespace FL
variable [HW]
open PySem L2
/-! ### list comprehensions of several clauses -/
def flatL (g : D → Env → Option Env) (R : Env → Option (List D)) (ρ : Env) : List D → Option (List D)
  | [] => some []
  | d :: ds => match g d ρ with
    | none => none
    | some ρ2 => match R ρ2 with
      | none => none
      | some xs => match flatL g R ρ ds with | none => none | some ys => some (xs ++ ys)
def cE (E : Env → Option D) : Env → Option (List D) := fun ρ => match E ρ with | some y => some [y] | none => none
def cF (vs : List Nat) (Fi : Env → Option (List D)) (g : D → Env → Option Env) (R : Env → Option (List D)) : Env → Option (List D) := fun ρ =>
  match Fi ρ with | some ds => flatL g R (wipeE ρ vs) ds | none => none
def eCompN (O vs : List Nat) (Fi : Env → Option (List D)) (g : D → Env → Option Env) (R : Env → Option (List D)) : Env → Option D := fun ρ =>
  match Fi ρ with | some ds => (match flatL g R (wipeE (wipeE ρ O) vs) ds with | some ys => if ys.length ≤ sizeLine then some (.lst ys) else none | none => none) | none => none
structure GX (D : Addr) (Hf H Hf' H' : Hp) : Prop where
  f : Same Hf Hf'
  h : ∀ b o, b ≠ D → H b = some o → H' b = some o
  s : Same Hf' H'
  n : ∀ a o, H a = some o → Hf a = none → Hf' a = none
section
variable {K : PySem.W.Frag} {φ : Nat → Option Addr} {Hf0 H0 Hf H Hf' H' Hf1 H1 Hf2 H2 : Hp} {O : List Nat} {ρ : Env} {σ : St} {D : Addr}
theorem Gr.x (g : Gr Hf H Hf' H') : GX D Hf H Hf' H' := ⟨g.f, fun b o _ e => g.h b o e, g.s, g.n⟩
theorem GX.trans (a : GX D Hf H Hf1 H1) (b : GX D Hf1 H1 Hf2 H2) (hd : Hf2 D = none) : GX D Hf H Hf2 H2 :=
  ⟨a.f.trans b.f, fun x o hx e => b.h x o hx (a.h x o hx e), b.s, fun x o h1 h2 => by
    by_cases hx : x = D
    · rw [hx]; exact hd
    · exact b.n x o (a.h x o hx h1) (a.n x o h1 h2)⟩
theorem GX.put (s : Same Hf H) {o : HO} (hd : Hf D = none) : GX D Hf H Hf (upd H D o) :=
  ⟨Same.refl _, fun b o hb e => by rw [upd_ne hb]; exact e, fun b o e => by rw [upd_ne (ne_of_none e hd)]; exact s _ _ e, fun _ _ _ h => h⟩
theorem SR.gx (S : SR K φ Hf0 H0 [] ρ σ Hf H) (h0 : H0 D = none) (g : GX D Hf H Hf' H') : SR K φ Hf0 H0 [] ρ σ Hf' H' :=
  ⟨S.len, g.s, S.gf.trans g.f, fun b o e => g.h b o (ne_of_none e h0) (S.gh _ _ e), fun a o h1 h2 => g.n a o (S.gh _ _ h1) (S.gn a o h1 h2),
    fun i d e n => let ⟨v, e1, r⟩ := S.val i d e n; ⟨v, e1, r.mono g.f⟩, fun i d e m => absurd m (by simp), fun i j d e a h1 h2 m1 => absurd m1 (by simp)⟩
theorem SR.drop {O' : List Nat} (hO : (O.all fun i => O'.contains i) = true) (S : SR K φ Hf0 H0 O ρ σ Hf H) : SR K φ Hf0 H0 [] (wipeE ρ O') σ Hf H :=
  ⟨by rw [wipeE_len]; exact S.len, S.sub, S.gf, S.gh, S.gn, fun i d e _ => let ⟨e1, e2⟩ := wipeE_some e; S.val i d e1 fun m => e2 (by simpa using (List.all_eq_true.mp hO) i m), fun i d e m => absurd m (by simp), fun i j d e a h1 h2 m1 => absurd m1 (by simp)⟩
end
section
variable {X : Cx} {O : List Nat} {tg iter elt : Expr} {scope : Scope} {own : List (Str × Nat)} {pos : Pos} {cs : List Comprehension} {ls : List Lv} {R : Env → Option (List D)}
def uI (X : Cx) (scope : Scope) (tg iter : Expr) : TI := fun σ H Q => ∀ (s : Shared) (H0 : Hp) (C : Addr) (cl : List (Str × Addr)) (fp : List Addr), wI (X.blk s H0 scope (compEnvC scope cl C X.env) fp) tg iter σ H Q
def FR (X : Cx) (scope : Scope) (elt : Expr) (vs0 : List Nat) (cs : List Comprehension) (ls : List Lv) (R : Env → Option (List D)) : Prop :=
  (∀ s H C cl fp, Lvs (X.blk s H scope (compEnvC scope cl C X.env) fp) vs0 cs ls) ∧
  ∀ (φ : Nat → Option Addr) (Hf0 H0 : Hp) (ρ : Env) (σ : St) (Hf H : Hp) (xs : List D) (D' : Addr) (acc : List D) (us : List V) (Nx : Hp → Prop), H0 D' = none → SR X.K φ Hf0 H0 [] ρ σ Hf H → R ρ = some xs → Hf D' = none → H D' = some (.lst us) → RpAll X.K φ Hf acc us → acc.length + xs.length ≤ sizeLine →
    (∀ Hf' H' us', GX D' Hf H Hf' H' → Hf' D' = none → H' D' = some (.lst us') → RpAll X.K φ Hf' (acc ++ xs) us' → Nx H') → tIn (uE X scope elt) D' ls Nx σ H
theorem fr_nil {vs0 : List Nat} {E : Env → Option D} (he : ∀ s H C cl fp, FE (X.blk s H scope (compEnvC scope cl C X.env) fp) [] elt E) : FR X scope elt vs0 [] [] (cE E) := by
  refine ⟨fun _ _ _ _ _ => .nil, fun φ Hf0 H0 ρ σ Hf H xs D' acc us Nx h0 S hF hf hh r hl k => ?_⟩
  unfold cE at hF
  split at hF
  · rename_i y hy
    cases hF
    intro s h C cl fp
    refine he s h C cl fp φ Hf0 H0 ρ σ Hf H y _ S hy fun v Hf5 H5 g5 r5 => ?_
    have hf5 := g5.n _ _ hh hf
    refine ⟨us, g5.h _ _ hh, ?_, k Hf5 _ (us ++ [v]) ((Gr.x g5).trans (GX.put g5.s hf5) hf5) hf5 upd_same ((r.mono g5.f).append (.one r5))⟩
    rw [← r.length]
    simp only [List.length_singleton] at hl
    omega
  · cases hF
theorem loop_it {g : D → Env → Option Env} {vs tgs : List Nat} (hg : ∀ s H C cl fp, FG (X.blk s H scope (compEnvC scope cl C X.env) fp) [] [] tgs tg g) (htg : ∀ i ∈ tgs, i ∈ vs) (hr : FR X scope elt vs cs ls R)
    {φ : Nat → Option Addr} {Hf0 H0 : Hp} {ρ : Env} {σ : St} {Hf1 H1 H4 : Hp} {ds xs acc : List D} {D' : Addr} {us : List V} {J : It} {Nx : Hp → Prop} (h0 : H0 D' = none) (S : SR X.K φ Hf0 H0 [] ρ σ Hf1 H1)
    (step : ∀ i Hf2 H2, GX D' Hf1 H1 Hf2 H2 → Hf2 D' = none → (ds.length ≤ i → J.stop i H2) ∧ ∀ d, ds[i]? = some d → J.go i H2 ∧ ∀ x H3, J.yld i H2 x H3 → ∃ Hf3, Gr Hf2 H2 Hf3 H3 ∧ Rp X.K φ Hf3 d x)
    (hxs : flatL g R (wipeE ρ vs) ds = some xs) (gx : GX D' Hf1 H1 Hf1 H4) (hf : Hf1 D' = none) (hh : H4 D' = some (.lst us)) (r : RpAll X.K φ Hf1 acc us) (hl : acc.length + xs.length ≤ sizeLine)
    (k : ∀ Hf' H' us', GX D' Hf1 H1 Hf' H' → Hf' D' = none → H' D' = some (.lst us') → RpAll X.K φ Hf' (acc ++ xs) us' → Nx H') :
    ∃ W : Nat → Nat → Hp → Prop, (∃ m, W 0 m H4) ∧ ∀ j k H, W j k H →
      (J.stop j H ∧ Nx H) ∨ (J.go j H ∧ ∃ Nx1 : Hp → Prop, (∀ H', Nx1 H' → ∃ k', k' < k ∧ W (j + 1) k' H') ∧ ∀ x H', J.yld j H x H' → uG X scope tg x (L2.wipe σ vs) H' fun σ3 H5 => L2.wipe σ3 vs = L2.wipe σ vs ∧ tYes σ3 H5 fun b H6 =>
        if b = true then tIn (uE X scope elt) D' ls Nx1 σ3 H6 else Nx1 H6) := by
  refine ⟨fun i m H2 => m = ds.length - i ∧ i ≤ ds.length ∧ ∃ Hf2 acc2 us2 rest, GX D' Hf1 H1 Hf2 H2 ∧ Hf2 D' = none ∧ H2 D' = some (.lst us2) ∧ RpAll X.K φ Hf2 acc2 us2 ∧ flatL g R (wipeE ρ vs) (ds.drop i) = some rest ∧ acc2 ++ rest = acc ++ xs,
    ⟨ds.length, by simp, Nat.zero_le _, Hf1, acc, us, xs, gx, hf, hh, r, by simpa using hxs, rfl⟩, ?_⟩
  rintro i m H2 ⟨rfl, hil, Hf2, acc2, us2, rest, g2, hf2, hh2, r2, hrest, hsum⟩
  by_cases hlt : i < ds.length
  · right
    have hget : ds[i]? = some ds[i] := List.getElem?_eq_getElem hlt
    obtain ⟨hgo, hyld⟩ := (step i Hf2 H2 g2 hf2).2 _ hget
    refine ⟨hgo, fun H' => ∃ Hf3 acc' us' rest', GX D' Hf1 H1 Hf3 H' ∧ Hf3 D' = none ∧ H' D' = some (.lst us') ∧ RpAll X.K φ Hf3 acc' us' ∧ flatL g R (wipeE ρ vs) (ds.drop (i + 1)) = some rest' ∧ acc' ++ rest' = acc ++ xs,
      fun H' ⟨Hf3, acc', us', rest', a1, a2, a3, a4, a5, a6⟩ => ⟨ds.length - (i + 1), by omega, rfl, hlt, Hf3, acc', us', rest', a1, a2, a3, a4, a5, a6⟩, fun x H3 hy => ?_⟩
    obtain ⟨Hf3, g3, r3⟩ := hyld x H3 hy
    have hf3 := g3.n _ _ hh2 hf2
    have g13 := g2.trans (Gr.x g3) hf3
    have S3 := (S.gx h0 g13).wipe vs
    rw [List.drop_eq_getElem_cons hlt] at hrest
    unfold flatL at hrest
    split at hrest
    · cases hrest
    · rename_i ρ2 hρ2
      split at hrest
      · cases hrest
      · rename_i ys hys
        split at hrest
        · cases hrest
        · rename_i ys2 hys2
          cases hrest
          intro s0 h00 C0 cl0 fp0
          refine hg s0 h00 C0 cl0 fp0 φ Hf0 H0 _ _ Hf3 H3 _ x ρ2 _ S3 r3 hρ2 fun σ2 S4 w4 => ⟨(w4 vs htg).trans wipe_wipe, ?_⟩
          unfold tYes
          simp only [if_true]
          have hsz : acc2.length + ys.length ≤ sizeLine := by
            have := congrArg List.length hsum
            simp only [List.length_append] at this
            omega
          refine hr.2 φ Hf0 H0 ρ2 σ2 Hf3 H3 ys D' acc2 us2 _ h0 S4 hys hf3 (g3.h _ _ hh2) (r2.mono g3.f) hsz fun Hf4 H4 us4 g4 f4 h4 r4 => ?_
          exact ⟨Hf4, acc2 ++ ys, us4, ys2, g13.trans g4 f4, f4, h4, r4, hys2, by rw [List.append_assoc]; exact hsum⟩
  · left
    have hie : i = ds.length := by omega
    refine ⟨(step i Hf2 H2 g2 hf2).1 (by omega), ?_⟩
    subst hie
    rw [List.drop_length] at hrest
    cases hrest
    rw [List.append_nil] at hsum
    subst hsum
    exact k Hf2 H2 us2 g2 hf2 hh2 r2
theorem fr_cons {vs0 vs tgs : List Nat} {Fi : Env → Option (List D)} {g : D → Env → Option Env} (hi : ∀ s H C cl fp, FI (X.blk s H scope (compEnvC scope cl C X.env) fp) [] tg iter Fi) (hg : ∀ s H C cl fp, FG (X.blk s H scope (compEnvC scope cl C X.env) fp) [] [] tgs tg g)
    (htg : (tgs.all fun i => vs.contains i) = true) (hvs : (vs.all fun i => vs0.contains i) = true) (hr : FR X scope elt vs cs ls R) (hs : ∀ env x, foldedSetIterable iter env x = pure x := by intro _ _; rfl) :
    FR X scope elt vs0 (⟨tg, iter, [], 0⟩ :: cs) (⟨uI X scope tg iter, uG X scope tg, tYes, vs⟩ :: ls) (cF vs Fi g R) := by
  refine ⟨fun s H C cl fp => .cons ⟨rfl, hs _, ⟨fun pins s' σ H' R I h => (h s H C cl fp).h pins s' I⟩, ⟨fun pins s' σ H' v u Q I r h => (h s H C cl fp).h pins s' u I r⟩, pts_nil⟩ (fun i hi => by simpa using (List.all_eq_true.mp hvs) i hi) (hr.1 s H C cl fp), fun φ Hf0 H0 ρ σ Hf H xs D' acc us Nx h0 S hF hf hh r hl k => ?_⟩
  unfold cF at hF
  split at hF
  · rename_i ds hds
    intro s0 h00 C0 cl0 fp0
    refine hi s0 h00 C0 cl0 fp0 φ Hf0 H0 ρ σ Hf H ds _ S hds fun J Hf1 H1 g1 itd => ?_
    have hf1 := g1.n _ _ hh hf
    exact loop_it hg (fun i hi => by simpa using (List.all_eq_true.mp htg) i hi) hr h0 (S.gr g1) (fun i Hf2 H2 g2 _ => itd i Hf2 H2 g2.f g2.s) hF (Gr.x (Gr.refl g1.s)) hf1 (g1.h _ _ hh) (r.mono g1.f) hl
      fun Hf' H' us' g' f' h' r' => k Hf' H' us' ((Gr.x g1).trans g' f') f' h' r'
  · cases hF
theorem fn_lcN {O' tgs : List Nat} {Fi : Env → Option (List D)} {g : D → Env → Option Env} (hc : X.calm = true) (hN : X.N.Nodup) (ok : BlkOk X.N X.env.scope scope own)
    (hi : FIB X O tg iter Fi) (hg : ∀ s H C cl fp, FG (X.blk s H scope (compEnvC scope cl C X.env) fp) [] [] tgs tg g) (htg : (tgs.all fun i => (own.map (·.2)).contains i) = true) (hr : FR X scope elt (own.map (·.2)) cs ls R) (hO : (O.all fun i => O'.contains i) = true) (hs : ∀ x, foldedSetIterable iter X.env x = pure x := by intro _; rfl) :
    FN X O (.ListComp elt (⟨tg, iter, [], 0⟩ :: cs) scope pos) (eCompN O' (own.map (·.2)) Fi g R) := by
  intro φ Hf0 H0 ρ σ Hf H d Q S hF k
  refine toE (pe_lcN (l := ⟨wI X tg iter, uG X scope tg, tYes, own.map (·.2)⟩) (ls := ls) (te := uE X scope elt) hc hN piW ok rfl hs (fun s H C cl fp => ⟨fun pins s' σ H' v u Q I r h => (h s H C cl fp).h pins s' u I r⟩) (fun _ _ _ _ _ => pts_nil) (fun s H C cl fp => ⟨fun pins s' σ H' Q I h => (h s H C cl fp).h pins s' I⟩) hr.1) ?_
  unfold eCompN at hF
  split at hF
  · rename_i ds hds
    split at hF
    · rename_i ys hys
      split at hF
      · rename_i hlen
        cases hF
        refine hi φ Hf0 H0 ρ σ Hf H ds _ S hds fun J Hf1 H1 g1 itb => ?_
        intro Dn hDn
        have hf1 : Hf1 Dn = none := g1.s.free hDn
        have h0 : H0 Dn = none := S.gh.free (g1.h.free hDn)
        refine loop_it (acc := []) (us := []) (xs := ys) hg (fun i hi => by simpa using (List.all_eq_true.mp htg) i hi) hr h0 ((S.gr g1).drop hO) (fun i Hf2 H2 g2 _ => itb i Hf2 H2 ⟨g2.f, fun b o e => g2.h b o (ne_of_none e hDn) e, g2.s, g2.n⟩) hys (GX.put g1.s hf1) hf1 upd_same .nil (by simpa using hlen) ?_
        intro Hf' H' us' g' f' h' r'
        exact k Dn ys us' Hf' H' rfl (g1.trans ⟨g'.f, fun b o e => g'.h b o (ne_of_none e hDn) e, g'.s, g'.n⟩) (g1.h.free hDn) f' h' r'
      · cases hF
    · cases hF
  · cases hF
end
end FL
namespace FL
variable [HW]
open PySem L2
section
variable {X : Cx} {fr : Bool} {L O : List Nat} {pos : Pos}
def popF : List D → List D → Option (List D) := fun xs ds => match ds with | [] => if xs.length = 0 then none else some (xs.take (xs.length - 1)) | _ => none
end
end FL
namespace FL
variable [HW]
open PySem L2
/-! ### methods of strs and lists as expressions -/
def eM (f : D → List D → Option D) (F : Env → Option D) (Fs : Env → Option (List D)) : Env → Option D := fun ρ =>
  match F ρ with | some x => (match Fs ρ with | some ds => f x ds | none => none) | none => none
def OpM (K : PySem.W.Frag) (T : String) (r : V → List V → Hp → VK → Prop) (f : D → List D → Option D) : Prop :=
  ∀ (φ : Nat → Option Addr) (Hf H Hf1 H1 : Hp) (x : D) (ds : List D) (d : D) (v : V) (vs : List V) (Q : VK), Same Hf H → Gr Hf H Hf1 H1 → Rpb K φ Hf H x v → RpbAll K φ Hf1 H1 ds vs → f x ds = some d →
    (∀ u Hf' H', Gr Hf1 H1 Hf' H' → Rp K φ Hf' d u → Q u H') → r v vs H1 Q
section
variable {X : Cx} {fr : Bool} {L O O' : List Nat} {o e : Expr} {es : List Expr} {F : Env → Option D} {Fs : Env → Option (List D)}
theorem fs_dead {st : Stmt} : FS X fr L O O' st (fun _ => none) := fun φ Hf0 H0 ρ σ Hf H out Dn S hF P => nomatch hF
theorem fe_meth {name : Str} {T bid : String} {apos cpos : Pos} {r : V → List V → Hp → VK → Prop} {f : D → List D → Option D} (pa : PySem.PlainAttrs T) (slot : Slot T name bid) (hty : typeOf (.builtin bid) = pure (.type "method_descriptor")) (hm : MtR X bid r) (hop : OpM X.K T r f)
    (hT : ∀ (φ : Nat → Option Addr) (Hf H : Hp) (x : D) (ds : List D) (d : D) (v : V), Same Hf H → Rpb X.K φ Hf H x v → f x ds = some d → tyV X.K T v H) (ho : FB X O o F) (ha : FBA X O (e :: es) Fs)
    (hbase : attributeBase o name X.env (eval o X.env) = eval o X.env := by rfl)
    (hfew : ((backTo cpos (starEach (e :: es) X.env)).all (fun x => !x.1) && (backToKw cpos (keywordEach [] X.env)).all (fun x => x.1.isSome) && decide ((e :: es).length + ([] : List Keyword).length + (if ([] : List Keyword).isEmpty then 0 else 1) < 30)) = true := by rfl)
    (hline : (apos.endLine == cpos.line) = true := by rfl) (hs : starEach (e :: es) X.env = (false, eval e X.env) :: starEach es X.env := by rfl) (hplain : (backTo cpos (starEach es X.env)).any (·.1) = false := by rfl) :
    FE X O (.Call (.Attribute o name apos) (e :: es) [] cpos) (eM f F Fs) := by
  intro φ Hf0 H0 ρ σ Hf H d Q S hF k
  unfold eM at hF
  split at hF
  · rename_i x hx
    split at hF
    · rename_i ds hds
      refine toE (pe_bm pa slot hty hm peW paW hbase hfew hline hs hplain) ?_
      refine ho φ Hf0 H0 ρ σ Hf H x _ S hx fun v Hf1 H1 g1 r1 => ?_
      refine ⟨hT φ Hf1 H1 x ds d v g1.s r1 hF, ?_⟩
      refine ha φ Hf0 H0 ρ σ Hf1 H1 ds _ (S.gr g1) hds fun vs Hf2 H2 g2 r2 => ?_
      exact hop φ Hf1 H1 Hf2 H2 x ds d v vs Q g1.s g2 r1 r2 hF fun u Hf' H' g' r' => k u Hf' H' (g1.trans (g2.trans g')) r'
    · cases hF
  · cases hF
def strsD : List D → Option (List Str)
  | [] => some [] | .str z :: ds => (match strsD ds with | some zs => some (z :: zs) | none => none) | _ :: _ => none
theorem strs_rp {K : PySem.W.Frag} {φ : Nat → Option Addr} {Hf : Hp} : ∀ {ds : List D} {zs : List Str} {vs : List V}, strsD ds = some zs → RpAll K φ Hf ds vs → vs = zs.map V.str
  | [], _, _, h, .nil => by cases h; rfl
  | .str z :: ds, zs, _, h, .cons r t => by
    unfold strsD at h
    split at h
    · rename_i ws hw
      cases h
      cases r
      rw [strs_rp hw t]
      rfl
    · cases h
  | .non :: _, _, _, h, _ => by cases h
  | .bl _ :: _, _, _, h, _ => by cases h
  | .int _ :: _, _, _, h, _ => by cases h
  | .tup _ :: _, _, _, h, _ => by cases h
  | .lst _ :: _, _, _, h, _ => by cases h
  | .klst _ :: _, _, _, h, _ => by cases h
  | .obj _ :: _, _, _, h, _ => by cases h
  | .ins _ _ _ :: _, _, _, h, _ => by cases h
  | .dct _ _ :: _, _, _, h, _ => by cases h
  | .dkt _ _ _ :: _, _, _, h, _ => by cases h
  | .xtp _ :: _, _, _, h, _ => by cases h
def joinD (x : D) (ds : List D) : Option D := match x, ds with
  | .str a, [y] => (match seqD y with
    | some ys => (match strsD ys with | some zs => if (zs.map (·.length)).sum + zs.length * a.length ≤ 16777216 then some (.str (Txt.join a zs)) else none | none => none)
    | none => none)
  | _, _ => none
theorem join_op {K : PySem.W.Frag} : OpM K "str" (fun x xs H Q => ∃ a p, ∃ ys : List Str, x = .str a ∧ xs = [.ref p] ∧ (SqL K H p (ys.map V.str) ∨ SqT K H p (ys.map V.str)) ∧ (ys.map (·.length)).sum + ys.length * a.length ≤ 16777216 ∧ Q (.str (Txt.join a ys)) H) joinD := by
  intro φ Hf H Hf1 H1 x ds d v vs Q s g r1 r2 h k
  unfold joinD at h
  split at h
  · rename_i a y
    split at h
    · rename_i ys hy
      split at h
      · rename_i zs hz
        split at h
        · rename_i room
          cases h
          obtain ⟨u, rfl, ru⟩ := r2.one
          obtain ⟨p, ws, rfl, hp, rw'⟩ := Rpb.seq g.s ru hy
          have e := strs_rp hz rw'
          subst e
          have hv : v = .str a := by
            rcases r1 with r | ⟨_, _, _, e1, _⟩
            · cases r; rfl
            · cases e1
          exact ⟨a, p, zs, hv, rfl, hp, room, k _ Hf1 H1 (.refl g.s) (.str _)⟩
        · cases h
      · cases h
    · cases h
  · cases h
theorem fe_joined {apos cpos : Pos} (ho : FB X O o F) (ha : FBA X O [e] Fs) (hbase : attributeBase o "join" X.env (eval o X.env) = eval o X.env := by rfl)
    (hfew : ((backTo cpos (starEach [e] X.env)).all (fun x => !x.1) && (backToKw cpos (keywordEach [] X.env)).all (fun x => x.1.isSome) && decide ([e].length + ([] : List Keyword).length + (if ([] : List Keyword).isEmpty then 0 else 1) < 30)) = true := by rfl)
    (hline : (apos.endLine == cpos.line) = true := by rfl) (hs : starEach [e] X.env = (false, eval e X.env) :: starEach [] X.env := by rfl) : FE X O (.Call (.Attribute o "join" apos) [e] [] cpos) (eM joinD F Fs) :=
  fe_meth PySem.F.plainAttrs_str PySem.F.slot_str_join PySem.F.type_str_join mt_join join_op (fun φ Hf H x ds d v s r h => by
    unfold joinD at h
    split at h
    · rcases r with r | ⟨_, _, _, e1, _⟩
      · cases r; rfl
      · cases e1
    · cases h) ho ha hbase hfew hline hs
end
end FL
namespace FL
variable [HW]
open PySem L2
section
variable {X : Cx} {O : List Nat} {o e : Expr} {es : List Expr} {F : Env → Option D} {Fs : Env → Option (List D)}
theorem rp_strs {K : PySem.W.Frag} {φ : Nat → Option Addr} {Hf : Hp} : ∀ zs : List Str, RpAll K φ Hf (zs.map D.str) (zs.map V.str)
  | [] => .nil
  | z :: zs => .cons (.str z) (rp_strs zs)
def splitD (x : D) (ds : List D) : Option D := match x, ds with
  | .str a, [.str b] => if (b.length == 0) = false ∧ a.length + 2 ≤ sizeLine then some (.lst ((Txt.split a b).map D.str)) else none
  | _, _ => none
theorem fn_split {apos cpos : Pos} (ho : FB X O o F) (ha : FBA X O [e] Fs) (hbase : attributeBase o "split" X.env (eval o X.env) = eval o X.env := by rfl)
    (hfew : ((backTo cpos (starEach [e] X.env)).all (fun x => !x.1) && (backToKw cpos (keywordEach [] X.env)).all (fun x => x.1.isSome) && decide ([e].length + ([] : List Keyword).length + (if ([] : List Keyword).isEmpty then 0 else 1) < 30)) = true := by rfl)
    (hline : (apos.endLine == cpos.line) = true := by rfl) (hs : starEach [e] X.env = (false, eval e X.env) :: starEach [] X.env := by rfl) : FN X O (.Call (.Attribute o "split" apos) [e] [] cpos) (eM splitD F Fs) := by
  intro φ Hf0 H0 ρ σ Hf H d Q S hF k
  unfold eM at hF
  split at hF
  · rename_i x hx
    split at hF
    · rename_i ds hds
      unfold splitD at hF
      split at hF
      · rename_i a b
        split at hF
        · rename_i room
          cases hF
          refine toE (pe_bm PySem.F.plainAttrs_str PySem.F.slot_str_split PySem.F.type_str_split mt_split peW paW hbase hfew hline hs) ?_
          refine ho φ Hf0 H0 ρ σ Hf H _ _ S hx fun v Hf1 H1 g1 r1 => ?_
          cases r1.str
          refine ⟨rfl, ha φ Hf0 H0 ρ σ Hf1 H1 _ _ (S.gr g1) hds fun vs Hf2 H2 g2 r2 => ?_⟩
          obtain ⟨u, rfl, ru⟩ := r2.one
          cases ru.str
          refine ⟨a, b, rfl, rfl, room.1, room.2, fun p hp => ?_⟩
          have g := g1.trans g2
          exact k p _ _ Hf2 _ rfl (g.trans (.own g2.s hp)) (g.h.free hp) (g2.s.free hp) upd_same (rp_strs _)
        · cases hF
      · cases hF
    · cases hF
  · cases hF
def idxD (y : D) : List D → Option Nat
  | [] => none
  | z :: zs => if deq z y = true then some 0 else (match idxD y zs with | some k => some (k + 1) | none => none)
def indexD (x : D) (ds : List D) : Option D := match ds with
  | [y] => if isLst x && flatD y then (match seqD x with | some xs => if xs.all flatD then (match idxD y xs with | some k => some (.int (k : Nat)) | none => none) else none | none => none) else none
  | _ => none
theorem idx_ok {K : PySem.W.Frag} {φ : Nat → Option Addr} {Hf H2 : Hp} {y : D} {u : V} (q : Rp K φ H2 y u) (hy : flatD y = true) : ∀ {xs : List D} {vs : List V} {k : Nat}, xs.all flatD = true → RpAll K φ Hf xs vs → idxD y xs = some k →
    (∃ z, vs[k]? = some z ∧ eqV z u = true) ∧ ∀ (m : Nat) (z' : V), m < k → vs[m]? = some z' → eqV z' u = false
  | x :: xs, _, k, hf, .cons (v := v) (vs := vs) r t, h => by
    simp only [List.all_cons, Bool.and_eq_true] at hf
    have e := eqV_deq r q hf.1 hy
    unfold idxD at h
    split at h
    · rename_i hd
      cases h
      exact ⟨⟨v, rfl, by rw [e]; exact hd⟩, fun m z' hm => absurd hm (Nat.not_lt_zero _)⟩
    · rename_i hd
      split at h
      · rename_i j hj
        cases h
        obtain ⟨⟨z, h1, h2⟩, h3⟩ := idx_ok q hy hf.2 t hj
        refine ⟨⟨z, h1, h2⟩, fun m z' hm hz => ?_⟩
        cases m with
        | zero => cases hz; rw [e]; simpa using hd
        | succ m => exact h3 m z' (Nat.lt_of_succ_lt_succ hm) hz
      · cases h
theorem index_op {K : PySem.W.Frag} : OpM K "list" (rIndex K) indexD := by
  intro φ Hf H Hf1 H1 x ds d v vs Q s g r1 r2 h k
  unfold indexD at h
  split at h
  · rename_i y
    split at h
    · rename_i hc
      simp only [Bool.and_eq_true] at hc
      split at h
      · rename_i xs hxs
        split at h
        · rename_i hall
          split at h
          · rename_i j hj
            cases h
            obtain ⟨u, rfl, ru⟩ := r2.one
            have ru' : Rp K φ Hf1 y u := by
              rcases ru with r | ⟨_, _, _, e1, _⟩
              · exact r
              · rw [e1] at hc; cases hc.2
            obtain ⟨p, ws, hv, hL, rw'⟩ := isLst_sq g.s (r1.gr g) hc.1 hxs
            have fl : ∀ {xs : List D} {ws : List V}, RpAll K φ Hf1 xs ws → xs.all flatD = true → ws.all flatV = true := by
              intro xs ws r
              induction ws generalizing xs with
              | nil => intro _; rfl
              | cons w ws ih =>
                cases r with
                | cons r t =>
                  intro h
                  simp only [List.all_cons, Bool.and_eq_true] at h ⊢
                  refine ⟨?_, ih t h.2⟩
                  cases r <;> first | rfl | cases h.1
            have flu : flatV u = true := by
              have := fl (.one ru') (show [y].all flatD = true by simp [hc.2])
              simpa using this
            obtain ⟨⟨z, h1, h2⟩, h3⟩ := idx_ok ru' hc.2 hall rw' hj
            exact ⟨p, ws, u, j, z, hv, rfl, hL, flu, fl rw' hall, h1, h2, h3, k _ Hf1 H1 (.refl g.s) (.int _)⟩
          · cases h
        · cases h
      · cases h
    · cases h
  · cases h
theorem fe_indexed {apos cpos : Pos} (ho : FB X O o F) (ha : FBA X O [e] Fs) (hbase : attributeBase o "index" X.env (eval o X.env) = eval o X.env := by rfl)
    (hfew : ((backTo cpos (starEach [e] X.env)).all (fun x => !x.1) && (backToKw cpos (keywordEach [] X.env)).all (fun x => x.1.isSome) && decide ([e].length + ([] : List Keyword).length + (if ([] : List Keyword).isEmpty then 0 else 1) < 30)) = true := by rfl)
    (hline : (apos.endLine == cpos.line) = true := by rfl) (hs : starEach [e] X.env = (false, eval e X.env) :: starEach [] X.env := by rfl) : FE X O (.Call (.Attribute o "index" apos) [e] [] cpos) (eM indexD F Fs) :=
  fe_meth PySem.F.plainAttrs_list PySem.F.slot_list_index PySem.F.type_list_index mt_index index_op (fun φ Hf H x ds d v s r h => by
    unfold indexD at h
    split at h
    · split at h
      · rename_i hc
        simp only [Bool.and_eq_true] at hc
        split at h
        · rename_i xs hxs
          obtain ⟨p, ws, rfl, hL, _⟩ := isLst_sq s r hc.1 hxs
          exact .inl ⟨rfl, ws, hL⟩
        · cases h
      · cases h
    · cases h) ho ha hbase hfew hline hs
end
end FL
namespace FL
variable [HW]
open PySem PySem.Spec L2

/-! ### defs that yield -/
def wY (X : Cx) (st : Stmt) : TGn := fun D ys σ H => Lk (∀ (A : Around) (S : Addr) (ip : List (Addr × Obj)) (R : GenEnd) (n : Nat) (s₀ : Shared) (c : Code) (fs : List Frame) (K : Flow → Sem PySem.Fin) (J : Value → Sem PySem.Fin) (gd : Bool → Bool) (lv : List Value → List Value) (s : Shared),
  GC X S ip A c fs gd → n + ys.length = sizeLine → GK X S ip A R c fs K J D → GI X S ip ys σ H s → Seg (model X.prog X.w) A R (GY X S) n s₀ c ((exec st X.env).wrap K J gd lv) fs s)
def wYs (X : Cx) (st : List Stmt) : TGn := fun D ys σ H => Lk (∀ (A : Around) (S : Addr) (ip : List (Addr × Obj)) (R : GenEnd) (n : Nat) (s₀ : Shared) (c : Code) (fs : List Frame) (K : Flow → Sem PySem.Fin) (J : Value → Sem PySem.Fin) (gd : Bool → Bool) (lv : List Value → List Value) (s : Shared),
  GC X S ip A c fs gd → n + ys.length = sizeLine → GK X S ip A R c fs K J D → GI X S ip ys σ H s → Seg (model X.prog X.w) A R (GY X S) n s₀ c ((execs st X.env).wrap K J gd lv) fs s)
section
variable {X : Cx} {st : Stmt} {sts : List Stmt} {ys : List V} {σ : L2.St} {H : Hp} {D : GEnds}
def tGIf (tc : TT) (t u : TGn) : TGn := fun D ys σ H => tc σ H fun b H1 => if b = true then t D ys σ H1 else u D ys σ H1
end
inductive GO where
  | nx (acc : List D) (ρ : Env) | rt (acc : List D)
def GPost (K : PySem.W.Frag) (φ : Nat → Option Addr) (Hf0 H0 : Hp) (O : List Nat) (Hf : Hp) (Dn : GEnds) : GO → Prop
  | .nx acc ρ => ∀ σ' Hf' H' zs, Same Hf Hf' → SR K φ Hf0 H0 O ρ σ' Hf' H' → RpAll K φ Hf' acc zs → Dn.nx zs σ' H'
  | .rt acc => ∀ Hf' H' zs, Gr Hf0 H0 Hf' H' → RpAll K φ Hf' acc zs → Dn.rt zs .non H'
theorem GPost.mono {K : PySem.W.Frag} {φ : Nat → Option Addr} {Hf0 H0 : Hp} {O : List Nat} {Hf Hf1 : Hp} {Dn : GEnds} (s : Same Hf Hf1) : ∀ {out : GO}, GPost K φ Hf0 H0 O Hf Dn out → GPost K φ Hf0 H0 O Hf1 Dn out
  | .nx _ _, h => fun σ' Hf' H' zs s' => h σ' Hf' H' zs (s.trans s')
  | .rt _, h => h
def FY (X : Cx) (O O' : List Nat) (st : Stmt) (G : List D → Env → Option GO) : Prop :=
  ∀ (φ : Nat → Option Addr) (Hf0 H0 : Hp) (ρ : Env) (σ : L2.St) (Hf H : Hp) (acc : List D) (zs : List V) (out : GO) (Dn : GEnds), SR X.K φ Hf0 H0 O ρ σ Hf H → RpAll X.K φ Hf acc zs → G acc ρ = some out → GPost X.K φ Hf0 H0 O' Hf Dn out → wY X st Dn zs σ H
def FYs (X : Cx) (O O' : List Nat) (sts : List Stmt) (G : List D → Env → Option GO) : Prop :=
  ∀ (φ : Nat → Option Addr) (Hf0 H0 : Hp) (ρ : Env) (σ : L2.St) (Hf H : Hp) (acc : List D) (zs : List V) (out : GO) (Dn : GEnds), SR X.K φ Hf0 H0 O ρ σ Hf H → RpAll X.K φ Hf acc zs → G acc ρ = some out → GPost X.K φ Hf0 H0 O' Hf Dn out → wYs X sts Dn zs σ H
def yNil : List D → Env → Option GO := fun acc ρ => some (.nx acc ρ)
def yRet : List D → Env → Option GO := fun acc ρ => some (.rt acc)
def ySeq (F G : List D → Env → Option GO) : List D → Env → Option GO := fun acc ρ => match F acc ρ with | some (.nx acc' ρ') => G acc' ρ' | o => o
def yPl (F : Env → Option Out) : List D → Env → Option GO := fun acc ρ => match F ρ with | some (.nx ρ') => some (.nx acc ρ') | _ => none
def yOut (F : Env → Option D) : List D → Env → Option GO := fun acc ρ => match F ρ with | some d => if acc.length < sizeLine then some (.nx (acc ++ [d]) ρ) else none | none => none
def yIf (C : Env → Option Bool) (F G : List D → Env → Option GO) : List D → Env → Option GO := fun acc ρ => match C ρ with | some true => F acc ρ | some false => G acc ρ | none => none
section
variable {X : Cx} {O O' O1 : List Nat} {st : Stmt} {sts : List Stmt} {e : Expr} {pos yp : Pos} {F : Env → Option D} {G G2 : List D → Env → Option GO}
end
def spY (K : PySem.W.Frag) (n : Nat) (m : List D → Option (List D)) : SpG := fun vs H Q _ => ∃ (φ : Nat → Option Addr) (Hf : Hp) (ds out : List D), Same Hf H ∧ RpAll K φ Hf ds vs ∧ ds.length = n ∧ m ds = some out ∧ ∀ Hf' H' zs, Gr Hf H Hf' H' → RpAll K φ Hf' out zs → Q zs H'
def runY (N n : Nat) (G : List D → Env → Option GO) (ds : List D) : Option (List D) := match G [] (envOf N n ds) with
  | some (.nx acc _) => some acc
  | some (.rt acc) => some acc
  | none => none
structure CalY (P : Program) (w : World) (K : PySem.W.Frag) (mg : Str → Option Value) (base : Heap) (k : Nat) (x : Str) (n : Nat) (m : List D → Option (List D)) : Prop where
  ok : ∃ (f : Addr) (fd : FuncData) (ps : List Str), GFn P w K mg base k f fd ps (spY K n m) ∧ mg x = some (.ref f) ∧ PySem.W.keepIn K (.ref f) = true ∧ Binds K fd ps []
section
variable {P : Program} {w : World} {K : PySem.W.Frag} {mg : Str → Option Value} {base : Heap} {k : Nat} {a : Addr} {ps N : List Str} {x : Str} {st : Stmt} {G : List D → Env → Option GO}
end
section
variable {X : Cx} {O : List Nat} {es : List Expr} {e : Expr} {x nm : Str} {p p2 pos pos' : Pos} {Fs : Env → Option (List D)} {k j : Nat} {n : Nat} {m : List D → Option (List D)}
def mLY (n : Nat) (m : List D → Option (List D)) : List D → Option D := fun ds => if ds.length = n then (match m ds with | some out => some (.lst out) | none => none) else none
end
end FL
namespace FL
variable [HW]
open PySem PySem.Spec L2

/-! ### objects that no one changes any more: attributes -/
def lkD (f : Str) : List Str → List D → Option D
  | g :: gs, d :: ds => if (f == g) = true then some d else lkD f gs ds
  | _, _ => none
theorem lkD_ok {K : PySem.W.Frag} {φ : Nat → Option Addr} {H : Hp} {f : Str} : ∀ (fs : List Str) {ds : List D} {vs : List V} {d : D}, RpAll K φ H ds vs → lkD f fs ds = some d → ∃ v, (fs.zip vs).lookup f = some v ∧ Rp K φ H d v
  | [], [], _, _, _, h => by cases h
  | [], _ :: _, _, _, _, h => by cases h
  | _ :: _, [], _, _, _, h => by cases h
  | g :: gs, d0 :: ds, _, d, .cons (v := v) (vs := vs) r t, h => by
    unfold lkD at h
    show ∃ u, List.lookup f ((g, v) :: gs.zip vs) = some u ∧ _
    rw [List.lookup_cons]
    cases e : f == g with
    | true =>
      rw [e, if_pos rfl] at h
      cases h
      exact ⟨v, rfl, r⟩
    | false =>
      rw [e, if_neg Bool.false_ne_true] at h
      exact lkD_ok gs t h
def fldD (c f : Str) : D → Option D
  | .ins c' fs xs => if c' = c then lkD f fs xs else none
  | _ => none
section
variable {X : Cx} {O : List Nat} {e o : Expr} {es : List Expr} {kws : List Keyword} {pos apos : Pos} {F Fo : Env → Option D} {Fs Gs : Env → Option (List D)} {c f m : Str} {k j n : Nat} {mir : List D → Option D} {df : List D}
theorem fldD_some {x d : D} (h : fldD c f x = some d) : ∃ fs xs, x = .ins c fs xs ∧ lkD f fs xs = some d := by
  cases x with
  | ins c' fs xs =>
    have h' : (if c' = c then lkD f fs xs else none) = some d := h
    by_cases hc : c' = c
    · subst hc
      rw [if_pos rfl] at h'
      exact ⟨fs, xs, rfl, h'⟩
    · rw [if_neg hc] at h'; cases h'
  | _ => cases h
/-! ### methods -/
def eMe (c m : Str) (n : Nat) (mir : List D → Option D) (df : List D) (Fo : Env → Option D) (Fs : Env → Option (List D)) : Env → Option D := fun ρ => match Fo ρ with
  | some (.ins c' fs xs) => if c' = c then (if fs.contains m = false then (match Fs ρ with | some ds => mL n mir (.ins c' fs xs :: (ds ++ df)) | none => none) else none) else none
  | _ => none
structure CalM (P : Program) (w : World) (K : PySem.W.Frag) (mg : Str → Option Value) (base : Heap) (k : Nat) (c m : Str) (fr : Bool) (n : Nat) (mir : List D → Option D) (df : List D) : Prop where
  ok : ∃ (f : Addr) (fd : FuncData) (ps : List Str) (ds : List Value) (dvs : List V), FnOk P w K mg base CX0 k f fd ps (spF K fr n mir) ∧ Cls K (He.ga K c) ∧ Meth K (He.ga K c) m f ∧ Binds K fd ps ds ∧ Vals dvs ds ∧ ∀ φ H, RpAll K φ H df dvs
structure CalMk (P : Program) (w : World) (K : PySem.W.Frag) (mg : Str → Option Value) (base : Heap) (k : Nat) (c m : Str) (fr : Bool) (n : Nat) (mir : List D → Option D) (n0 : Nat) (ks : List Str) : Prop where
  ok : ∃ (f : Addr) (fd : FuncData) (ps : List Str) (g : List Value → List Value → List Value), FnOk P w K mg base CX0 k f fd ps (spF K fr n mir) ∧ Cls K (He.ga K c) ∧ Meth K (He.ga K c) m f ∧ KBn K fd ps (n0 + 1) ks g (fun vs zs => vs ++ zs)
/-! keywords -/
def wK (X : Cx) (kws : List Keyword) : TA := fun σ H Q => Lk (∀ pos pins s, Inv X pins σ H s → wpAny (model X.prog X.w) X.A (evalAll ((backToKw pos (keywordEach kws X.env)).map (·.2))) (AP X pins σ Q) X.xe s)
def FK (X : Cx) (O : List Nat) (kws : List Keyword) (F : Env → Option (List D)) : Prop :=
  ∀ (φ : Nat → Option Addr) (Hf0 H0 : Hp) (ρ : Env) (σ : L2.St) (Hf H : Hp) (ds : List D) (Q : List V → Hp → Prop), SR X.K φ Hf0 H0 O ρ σ Hf H → F ρ = some ds → (∀ vs Hf' H', Gr Hf H Hf' H' → RpAll X.K φ Hf' ds vs → Q vs H') → wK X kws σ H Q
def aApp (n k : Nat) (F G : Env → Option (List D)) : Env → Option (List D) := fun ρ => match F ρ with | some ds => (match G ρ with | some es => if ds.length = n ∧ es.length = k then some (ds ++ es) else none | none => none) | none => none
end
end FL
namespace FL
variable [HW]
open PySem PySem.Spec L2

/-! ### the defs of a class -/
def clsM (st : Stmt) (j : Nat) : Stmt := match st with
  | .ClassDef _ _ _ body _ _ _ _ _ _ _ => body.getD j (.Pass ⟨0, 0, 0, 0⟩)
  | _ => .Pass ⟨0, 0, 0, 0⟩
abbrev FnAt (K : PySem.W.Frag) (x q : Str) (st : Stmt) (dvs : List V) (kws : List (Str × V)) (a : Addr) : Prop := ∃ fd, FunD K x q (defArgs st) (defBody st) (defScope st) dvs kws a fd
section
variable {P : Program} {w : World} {K : PySem.W.Frag} {mg : Str → Option Value} {base : Heap} {k : Nat} {a : Addr} {ps N : List Str} {x q c m : Str} {st : Stmt} {G : Env → Option Out} {dvs : List V} {kws : List (Str × V)}
theorem fnOk_by {fd : FuncData} {N' n : Nat} (F : FunD K x q (defArgs st) (defBody st) (defScope st) dvs kws a fd) (S : FnScope N ps (defScope st)) (hN : N' = N.length) (hn : n = ps.length) {fr : Bool} (O' : List Nat)
    (hb : ∀ (cdv : Value) (A : Around) (outer : List PySem.Env) (s : Shared) (H : Hp) (E : XK), Room k (A.deeper (PyProof.Rows.envOfC q (defScope st) s.heap.objs.size a cdv)) →
      FSs (cxOf CX0 P w K mg base N q (defScope st) a cdv A outer s H E).nox fr [] [] O' (defBody st) G) : FnOk P w K mg base CX0 (k + 1) a fd ps (spF K fr n (runD fr N' n G)) := by
  subst hN hn
  refine FunD.ok F S (fun vs H Q E h => ?_) (fun cdv A outer s H vs Q E hr h => ?_)
  · obtain ⟨φ, Hf, ds, d, _, r, hl, _⟩ := h
    exact r.length.symm.trans hl
  · obtain ⟨φ, Hf, ds, d, hs, r, hl, hm, hk⟩ := h
    refine ⟨_, PSs.nox pssW, ?_⟩
    have hvl : vs.length = ps.length := r.length.symm.trans hl
    unfold L2.start
    rw [hvl]
    unfold runD envOf at hm
    have S0 : SR K φ Hf H [] (ds.map some ++ List.replicate (N.length - ps.length) none) (vs.map some ++ List.replicate (N.length - ps.length) none) Hf H :=
      ⟨by simp [r.length], hs, Same.refl _, Same.refl _, fun _ _ _ z => z, fun i d e _ => r.val _ i d e, fun i d _ m => absurd m (by simp), fun i j _ _ _ _ _ m => absurd m (by simp)⟩
    split at hm
    · rename_i d' h'
      cases hm
      exact hb cdv A outer s H E hr φ Hf H _ _ Hf H _ _ S0 h' hk
    · rename_i ρ' h'
      cases fr with
      | false =>
        cases hm
        exact hb cdv A outer s H E hr φ Hf H _ _ Hf H _ _ S0 h' fun σ' Hf' H' s' S' => hk _ Hf' H' S'.from0 .non
      | true => cases hm
    · cases hm
end
theorem u8 {A : Around} {k : Nat} (h : Room k A) : A.units + 8 < cLine := by have := h.units; omega
/-! ### objects are made -/
/-! no object of a class in it -/
mutual
def clean : D → Bool
  | .tup xs => cleanAll xs | .lst xs => cleanAll xs | .klst xs => cleanAll xs | .ins _ _ _ => false | .dct _ xs => cleanAll xs | .dkt _ ks xs => cleanAll ks && cleanAll xs | .xtp xs => cleanAll xs | .obj _ => false | _ => true
def cleanAll : List D → Bool
  | [] => true
  | d :: ds => clean d && cleanAll ds
end
def off (x : Addr) (H : Hp) : Hp := fun a => if a = x then none else H a
theorem off_ne {x a : Addr} {H : Hp} (h : a ≠ x) : off x H a = H a := if_neg h
theorem off_self {x : Addr} {H : Hp} : off x H x = none := if_pos rfl
section
variable {K : PySem.W.Frag} {φ : Nat → Option Addr} {H : Hp} {x C dx : Addr} {fs : List (Str × V)}
theorem SqT_off (hx : H x = some (.ins C dx fs)) {a : Addr} {xs : List V} (h : SqT K H a xs) : SqT K (off x H) a xs := by
  rcases h with (h | ⟨o, h⟩) | h
  · have n : a ≠ x := by rintro rfl; rw [hx] at h; cases h
    exact .inl (.inl (by rw [off_ne n]; exact h))
  · have n : a ≠ x := by rintro rfl; rw [hx] at h; cases h
    exact .inl (.inr ⟨o, by rw [off_ne n]; exact h⟩)
  · exact .inr h
theorem SqL_off (hx : H x = some (.ins C dx fs)) {a : Addr} {xs : List V} (h : SqL K H a xs) : SqL K (off x H) a xs := by
  rcases h with (h | ⟨o, h⟩) | h
  · have n : a ≠ x := by rintro rfl; rw [hx] at h; cases h
    exact .inl (.inl (by rw [off_ne n]; exact h))
  · have n : a ≠ x := by rintro rfl; rw [hx] at h; cases h
    exact .inl (.inr ⟨o, by rw [off_ne n]; exact h⟩)
  · exact .inr h
theorem lst_off (hx : H x = some (.ins C dx fs)) {a : Addr} {xs : List V} (h : H a = some (.lst xs)) : off x H a = some (.lst xs) := by
  have n : a ≠ x := by rintro rfl; rw [hx] at h; cases h
  rw [off_ne n]; exact h
theorem dK_off (hx : H x = some (.ins C dx fs)) {a : Addr} {xs : List (Key × V)} (h : Rd H a (.dK xs)) : Rd (off x H) a (.dK xs) := by
  have n : a ≠ x := by
    rintro rfl
    rcases h with h | ⟨o, h⟩ <;> rw [hx] at h <;> cases h
  unfold Rd at h ⊢
  rw [off_ne n]; exact h
mutual
theorem Rp.off (hx : H x = some (.ins C dx fs)) : ∀ {d : D} {v : V}, clean d = true → Rp K φ H d v → Rp K φ (off x H) d v
  | .non, _, _, .non => .non
  | .bl _, _, _, .bl b => .bl b
  | .int _, _, _, .int i => .int i
  | .str _, _, _, .str y => .str y
  | .tup _, _, h, .tup s r => .tup (SqT_off hx s) (RpAll.off hx (by simpa [clean] using h) r)
  | .lst _, _, h, .lst s r => .lst (lst_off hx s) (RpAll.off hx (by simpa [clean] using h) r)
  | .klst _, _, h, .klst s r => .klst (SqL_off hx s) (RpAll.off hx (by simpa [clean] using h) r)
  | .obj _, _, h, _ => by simp [clean] at h
  | .ins _ _ _, _, h, _ => by simp [clean] at h
  | .dct _ _, _, h, .dct s l r => .dct (dK_off hx s) l (RpAll.off hx (by simpa [clean] using h) r)
  | .xtp _, _, h, .xtp s p r => .xtp (by rw [off_ne (fun z => by subst z; rw [s] at hx; cases hx)]; exact s) p (RpAll.off hx (by simpa [clean] using h) r)
  | .dkt _ _ _, _, h, .dkt s a b c d f g r t => .dkt (s.mono fun o e => by
      rw [off_ne (fun z => by
        subst z
        obtain ⟨v, s1, s2 | ⟨o, s2⟩⟩ := s.one <;> (subst s2; rw [s1] at hx; cases hx))]
      exact e) a b c d f g (RpAll.off hx (Bool.and_eq_true_iff.mp (show (cleanAll _ && cleanAll _) = true from h)).1 r) (RpAll.off hx (Bool.and_eq_true_iff.mp (show (cleanAll _ && cleanAll _) = true from h)).2 t)
theorem RpAll.off (hx : H x = some (.ins C dx fs)) : ∀ {ds : List D} {vs : List V}, cleanAll ds = true → RpAll K φ H ds vs → RpAll K φ (off x H) ds vs
  | [], _, _, .nil => .nil
  | _ :: _, _, h, .cons r t => by
    have h' := Bool.and_eq_true_iff.mp (show (clean _ && cleanAll _) = true from h)
    exact .cons (Rp.off hx h'.1 r) (RpAll.off hx h'.2 t)
end
end
/-! .. no object with just these attributes -/
mutual
def cleanX (fs : List Str) : D → Bool
  | .tup xs => cleanXs fs xs | .lst xs => cleanXs fs xs | .klst xs => cleanXs fs xs | .ins _ gs xs => !(decide (gs = fs)) && cleanXs fs xs | .dct _ xs => cleanXs fs xs | .dkt _ ks xs => cleanXs fs ks && cleanXs fs xs | .xtp xs => cleanXs fs xs | .obj _ => false | _ => true
def cleanXs (fs : List Str) : List D → Bool
  | [] => true
  | d :: ds => cleanX fs d && cleanXs fs ds
end
theorem zip_fst {α β : Type} : ∀ (xs : List α) (ys : List β), xs.length = ys.length → (xs.zip ys).map (·.1) = xs
  | [], [], _ => rfl
  | [], _ :: _, h => by simp at h
  | _ :: _, [], h => by simp at h
  | x :: xs, y :: ys, h => by simp [zip_fst xs ys (by simpa using h)]
section
variable {K : PySem.W.Frag} {φ : Nat → Option Addr} {H : Hp} {x C dx : Addr} {fs : List Str} {ws : List V}
mutual
theorem Rp.offX (hx : H x = some (.ins C dx (fs.zip ws))) (hl : fs.length = ws.length) : ∀ {d : D} {v : V}, cleanX fs d = true → Rp K φ H d v → Rp K φ (off x H) d v
  | .non, _, _, .non => .non
  | .bl _, _, _, .bl b => .bl b
  | .int _, _, _, .int i => .int i
  | .str _, _, _, .str y => .str y
  | .tup _, _, h, .tup s r => .tup (SqT_off hx s) (RpAll.offX hx hl (by simpa [cleanX] using h) r)
  | .lst _, _, h, .lst s r => .lst (lst_off hx s) (RpAll.offX hx hl (by simpa [cleanX] using h) r)
  | .klst _, _, h, .klst s r => .klst (SqL_off hx s) (RpAll.offX hx hl (by simpa [cleanX] using h) r)
  | .obj _, _, h, _ => by simp [cleanX] at h
  | .ins _ gs ys, _, h, .ins (a := a) s l r => by
    have h' : ¬ gs = fs ∧ cleanXs fs ys = true := by simpa [cleanX] using h
    have n : a ≠ x := by
      rintro rfl
      rw [hx] at s
      injection s with s
      injection s with _ _ s
      have e := congrArg (List.map (·.1)) s
      rw [zip_fst _ _ hl, zip_fst _ _ l] at e
      exact h'.1 e.symm
    exact .ins (by rw [off_ne n]; exact s) l (RpAll.offX hx hl h'.2 r)
  | .dct _ _, _, h, .dct s l r => .dct (dK_off hx s) l (RpAll.offX hx hl (by simpa [cleanX] using h) r)
  | .xtp _, _, h, .xtp s p r => .xtp (by rw [off_ne (fun z => by subst z; rw [s] at hx; cases hx)]; exact s) p (RpAll.offX hx hl (by simpa [cleanX] using h) r)
  | .dkt _ _ _, _, h, .dkt s a b c d f g r t => .dkt (s.mono fun o e => by
      rw [off_ne (fun z => by
        subst z
        obtain ⟨v, s1, s2 | ⟨o, s2⟩⟩ := s.one <;> (subst s2; rw [s1] at hx; cases hx))]
      exact e) a b c d f g (RpAll.offX hx hl (Bool.and_eq_true_iff.mp (show (cleanXs fs _ && cleanXs fs _) = true from h)).1 r) (RpAll.offX hx hl (Bool.and_eq_true_iff.mp (show (cleanXs fs _ && cleanXs fs _) = true from h)).2 t)
theorem RpAll.offX (hx : H x = some (.ins C dx (fs.zip ws))) (hl : fs.length = ws.length) : ∀ {ds : List D} {vs : List V}, cleanXs fs ds = true → RpAll K φ H ds vs → RpAll K φ (off x H) ds vs
  | [], _, _, .nil => .nil
  | _ :: _, _, h, .cons r t => by
    have h' := Bool.and_eq_true_iff.mp (show (cleanX fs _ && cleanXs fs _) = true from h)
    exact .cons (Rp.offX hx hl h'.1 r) (RpAll.offX hx hl h'.2 t)
end
end
structure Tr (x : Addr) (Hf H Hf' H' : Hp) : Prop where
  f : Same Hf Hf'
  h : ∀ a o, a ≠ x → H a = some o → H' a = some o
  n : ∀ a o, a ≠ x → H a = some o → Hf a = none → Hf' a = none
theorem Tr.refl {x : Addr} {Hf H : Hp} : Tr x Hf H Hf H := ⟨Same.refl _, fun _ _ _ h => h, fun _ _ _ _ h => h⟩
theorem Tr.trans {x : Addr} {Hf H Hf1 H1 Hf2 H2 : Hp} (a : Tr x Hf H Hf1 H1) (b : Tr x Hf1 H1 Hf2 H2) : Tr x Hf H Hf2 H2 :=
  ⟨a.f.trans b.f, fun y o h1 h2 => b.h y o h1 (a.h y o h1 h2), fun y o h1 h2 h3 => b.n y o h1 (a.h y o h1 h2) (a.n y o h1 h2 h3)⟩
theorem putF_new {f : Str} {v : V} : ∀ (fs : List Str) (vs : List V), fs.length = vs.length → fs.contains f = false → putF f v (fs.zip vs) = (fs ++ [f]).zip (vs ++ [v])
  | [], [], _, _ => rfl
  | [], _ :: _, h, _ => by simp at h
  | _ :: _, [], h, _ => by simp at h
  | g :: gs, u :: us, h, hn => by
    have hn' : f ≠ g ∧ gs.contains f = false := by simpa using hn
    show (if g = f then _ else _) = _
    rw [if_neg (fun z => hn'.1 z.symm)]
    show (g, u) :: putF f v (gs.zip us) = _
    rw [putF_new gs us (by simpa using h) hn'.2]
    rfl
def iniF (c : Str) : List (Str × (Env → Option D)) → List Str → List D → Env → Option (List D)
  | [], _, xs, _ => some xs
  | (f, F) :: r, fs, xs, ρ => match F (some (.ins c fs xs) :: ρ) with
    | some d => if (clean d && (!fs.contains f && decide (fs.length < 500))) = true then iniF c r (fs ++ [f]) (xs ++ [d]) ρ else if (cleanX fs d && (!fs.contains f && decide (fs.length < 500))) = true then iniF c r (fs ++ [f]) (xs ++ [d]) ρ else none
    | none => none
theorem iniF_next {c f : Str} {r : List (Str × (Env → Option D))} {fs : List Str} {xs out : List D} {ρ : Env} {d : D} (h : (if (clean d && (!fs.contains f && decide (fs.length < 500))) = true then iniF c r (fs ++ [f]) (xs ++ [d]) ρ else if (cleanX fs d && (!fs.contains f && decide (fs.length < 500))) = true then iniF c r (fs ++ [f]) (xs ++ [d]) ρ else none) = some out) :
    (clean d = true ∨ cleanX fs d = true) ∧ fs.contains f = false ∧ fs.length < 500 ∧ iniF c r (fs ++ [f]) (xs ++ [d]) ρ = some out := by
  split at h
  · rename_i hcl
    have h1 := Bool.and_eq_true_iff.mp hcl
    have h2 := Bool.and_eq_true_iff.mp h1.2
    exact ⟨.inl h1.1, by simpa using h2.1, of_decide_eq_true h2.2, h⟩
  · split at h
    · rename_i hcl
      have h1 := Bool.and_eq_true_iff.mp hcl
      have h2 := Bool.and_eq_true_iff.mp h1.2
      exact ⟨.inr h1.1, by simpa using h2.1, of_decide_eq_true h2.2, h⟩
    · cases h
def FIn (X : Cx) (c : Str) : List (Str × (Env → Option D)) → List Stmt → Prop
  | [], sts => sts = []
  | (f, F) :: r, sts => ∃ (e : Expr) (self : Str) (p1 p2 p3 : Pos) (rest : List Stmt), sts = .Assign [.Attribute (.Name self p1) f p2] e p3 :: rest ∧ FE X [] e F ∧ X.N[0]? = some self ∧ Vis X.env.scope self ∧ (self == ("__debug__" : Str)) = false ∧ (self == ("__classdict__" : Str)) = false ∧ NoAttr X.K (He.ga X.K c) f ∧
      swapsWith e (some (.Attribute (.Name self p1) f p2)) p3.line X.env = pure false ∧ FIn X c r rest
section
variable {X : Cx} {c : Str}
theorem ini_go (hc : Cls X.K (He.ga X.K c)) {φ : Nat → Option Addr} {x dx : Addr} {σ : L2.St} {ρ : Env} {D : Ends} (hσ : σ[0]? = some (some (.ref x))) (hl : (none :: ρ : Env).length = σ.length) :
    ∀ (st : List (Str × (Env → Option FL.D))) (sts : List Stmt) (fs : List Str) (xs out : List FL.D) (ws : List V) (Hf H : Hp), FIn X c st sts → iniF c st fs xs ρ = some out → Same Hf H → Hf x = none → H x = some (.ins (He.ga X.K c) dx (fs.zip ws)) → fs.length = ws.length → RpAll X.K φ Hf xs ws →
      (∀ (i : Nat) (d : FL.D), (none :: ρ : Env)[i]? = some (some d) → ∃ v, σ[i]? = some (some v) ∧ Rp X.K φ Hf d v) →
      (∀ Hf' H' ws', Tr x Hf H Hf' H' → Same Hf' H' → Hf' x = none → H' x = some (.ins (He.ga X.K c) dx ((fs ++ st.map (·.1)).zip ws')) → (fs ++ st.map (·.1)).length = ws'.length → RpAll X.K φ Hf' out ws' → D.nx σ H') → wSs X sts D σ H := by
  intro st
  induction st with
  | nil =>
    intro sts fs xs out ws Hf H hF e hs hx h2 h3 h4 hv k
    cases (show sts = [] from hF)
    cases e
    exact toSs pss_nil (k Hf H ws .refl hs hx (by simpa using h2) (by simpa using h3) h4)
  | cons q st ih =>
    obtain ⟨f, F⟩ := q
    intro sts fs xs out ws Hf H hF e hs hx h2 h3 h4 hv k
    obtain ⟨e0, self, p1, p2, p3, rest, rfl, hE, hN, hV, hd1, hd2, hna, hsw, hR⟩ := hF
    unfold iniF at e
    split at e
    · rename_i d hd
      obtain ⟨hcl, hnf, hlen, e⟩ := iniF_next e
      refine toSs (pss_cons psW pssW) (toS (ps_fld (pe_var hN hV hd1 hd2) peW hsw) ?_)
      -- the object as it stands is there to be read
      have hf1 : Same Hf (upd Hf x (.ins (He.ga X.K c) dx (fs.zip ws))) := same_upd hx
      have S : SR X.K φ (upd Hf x (.ins (He.ga X.K c) dx (fs.zip ws))) H [] (some (.ins c fs xs) :: ρ) σ (upd Hf x (.ins (He.ga X.K c) dx (fs.zip ws))) H := by
        refine ⟨by simpa using hl, fun b u z => ?_, Same.refl _, Same.refl _, fun _ _ _ z => z, fun i d' z _ => ?_, fun i d' _ m => absurd m (by simp), fun i j _ _ _ _ _ m => absurd m (by simp)⟩
        · by_cases hb : b = x
          · subst hb; rw [upd_same] at z; cases z; exact h2
          · rw [upd_ne hb] at z; exact hs _ _ z
        · cases i with
          | zero =>
            cases z
            exact ⟨.ref x, hσ, .ins upd_same h3 (h4.mono hf1)⟩
          | succ i =>
            obtain ⟨v, q1, q2⟩ := hv (i + 1) d' (by simpa using z)
            exact ⟨v, q1, q2.mono hf1⟩
      refine hE φ _ _ _ σ _ H d _ S hd fun v Hf1 H1 g1 r1 => ?_
      have hx1 : Hf1 x = some (.ins (He.ga X.K c) dx (fs.zip ws)) := g1.f _ _ upd_same
      have hH1 : H1 x = some (.ins (He.ga X.K c) dx (fs.zip ws)) := g1.h _ _ h2
      refine ⟨_, hσ, x, He.ga X.K c, dx, _, rfl, hH1, hc, hna, by rw [List.length_zip]; omega, ?_⟩
      have tr : Tr x Hf H (off x Hf1) (upd H1 x (.ins (He.ga X.K c) dx (putF f v (fs.zip ws)))) := by
        refine ⟨fun b u z => ?_, fun b u hb z => ?_, fun b u hb z zf => ?_⟩
        · have hb : b ≠ x := by rintro rfl; rw [hx] at z; cases z
          rw [off_ne hb]
          exact g1.f _ _ (hf1 _ _ z)
        · rw [upd_ne hb]; exact g1.h _ _ z
        · rw [off_ne hb]
          exact g1.n _ _ z (by rw [upd_ne hb]; exact zf)
      rw [putF_new fs ws h3 hnf] at tr ⊢
      refine ih rest (fs ++ [f]) (xs ++ [d]) out (ws ++ [v]) (off x Hf1) _ hR e (fun b u z => ?_) off_self upd_same (by simp [h3]) ((h4.mono tr.f).append (.one (hcl.elim (fun z => r1.off hx1 z) fun z => r1.offX hx1 h3 z))) (fun i d' z => ?_) (fun Hf' H' ws' t' s' x' y' l' r' => ?_)
      · have hb : b ≠ x := by rintro rfl; rw [off_self] at z; cases z
        rw [off_ne hb] at z
        rw [upd_ne hb]
        exact g1.s _ _ z
      · obtain ⟨v', q1, q2⟩ := hv i d' z
        exact ⟨v', q1, q2.mono tr.f⟩
      · refine k Hf' H' ws' (tr.trans t') s' x' ?_ ?_ r'
        · simpa [List.append_assoc] using y'
        · simpa [List.append_assoc] using l'
    · cases e
end
def spI (K : PySem.W.Frag) (c : Str) (fs : List Str) (n : Nat) (mi : List D → Option (List D)) : Sp := fun vs H Q _ => ∃ (φ : Nat → Option Addr) (Hf : Hp) (x dx : Addr) (us : List V) (ds out : List D), vs = .ref x :: us ∧ H x = some (.ins (He.ga K c) dx []) ∧ Hf x = none ∧ Same Hf H ∧ RpAll K φ Hf ds us ∧ ds.length = n ∧ mi ds = some out ∧
  ∀ Hf' H' ws, Tr x Hf H Hf' H' → Same Hf' H' → Hf' x = none → H' x = some (.ins (He.ga K c) dx (fs.zip ws)) → fs.length = ws.length → RpAll K φ Hf' out ws → Q .non H'
def runI (c : Str) (N n : Nat) (st : List (Str × (Env → Option D))) (ds : List D) : Option (List D) := iniF c st [] [] (ds.map some ++ List.replicate (N - (n + 1)) none)
structure CalC (P : Program) (w : World) (K : PySem.W.Frag) (mg : Str → Option Value) (base : Heap) (k : Nat) (c : Str) (fs : List Str) (n : Nat) (mi : List D → Option (List D)) : Prop where
  ok : ∃ (f : Addr) (fd : FuncData) (ps : List Str), FnOk P w K mg base CX0 k f fd ps (spI K c fs n mi) ∧ Mk K (He.ga K c) f ∧ mg c = some (.ref (He.ga K c)) ∧ Binds K fd ps []
section
variable {P : Program} {w : World} {K : PySem.W.Frag} {mg : Str → Option Value} {base : Heap} {k : Nat} {ps N : List Str} {q c : Str} {st : Stmt} {steps : List (Str × (Env → Option D))}
theorem calC_of {N' n : Nat} (Dd : FnAt K "__init__" q st [] [] (He.fAd K (c, some "__init__"))) (hc : Cls K (He.ga K c)) (hm : Mk K (He.ga K c) (He.ma K (He.ga K c) "__init__")) (hg : mg c = some (.ref (He.ga K c))) (S : FnScope N ps (defScope st)) (hN : N' = N.length) (hn : n + 1 = ps.length)
    (hbind : ∀ (kV doc pm : Value) (an : Option Addr) (cdv ct : Value) (us : List Value), us.length = ps.length → bindArgs (PySem.W.fnOf "__init__" q (defArgs st) (defBody st) (defScope st) .none kV doc pm an cdv ct) ⟨us, []⟩ = pure (ps.zip us))
    (hb : ∀ (cdv : Value) (A : Around) (outer : List PySem.Env) (s : Shared) (H : Hp) (E : XK), Room k (A.deeper (PyProof.Rows.envOfC q (defScope st) s.heap.objs.size (He.fAd K (c, some "__init__")) cdv)) →
      FIn (cxOf CX0 P w K mg base N q (defScope st) (He.fAd K (c, some "__init__")) cdv A outer s H E).nox c steps (defBody st)) : CalC P w K mg base (k + 1) c (steps.map (·.1)) n (runI c N' n steps) := by
  obtain ⟨fd, F⟩ := Dd
  refine ⟨_, fd, ps, FunD.ok F S (fun vs H Q E h => ?_) (fun cdv A outer s H vs Q E hr h => ?_), hm, hg, FunD.bindsN F hbind⟩
  · obtain ⟨φ, Hf, x, dx, us, ds, out, rfl, _, _, _, r, hl, _⟩ := h
    rw [List.length_cons, ← r.length, hl, hn]
  · obtain ⟨φ, Hf, x, dx, us, ds, out, rfl, h1, h2, h3, r, hl, hm, hk⟩ := h
    refine ⟨_, PSs.nox pssW, ?_⟩
    have hul : us.length = n := by rw [← r.length]; exact hl
    have hps : ps.length ≤ N.length := by
      have := congrArg List.length S.pre
      rw [List.length_take] at this
      omega
    have e0 : L2.start N (.ref x :: us) = some (.ref x) :: (us.map some ++ List.replicate (N.length - (n + 1)) none) := by
      unfold L2.start
      rw [List.length_cons, hul]; rfl
    rw [e0]
    subst hN
    unfold runI at hm
    refine ini_go (ρ := ds.map some ++ List.replicate (N.length - (n + 1)) none) hc rfl (by simp [r.length]) steps (defBody st) [] [] out [] Hf H (hb cdv A outer s H E hr) hm h3 h2 h1 rfl .nil (fun i d e => ?_) (fun Hf' H' ws' t s' x' y' l' r' => hk Hf' H' ws' t s' x' (by rw [List.nil_append] at y'; exact y') (by rw [List.nil_append] at l'; exact l') r')
    cases i with
    | zero => cases e
    | succ i => exact r.val _ i d (by simpa using e)
end
section
variable {X : Cx} {O : List Nat} {e : Expr} {es : List Expr} {c : Str} {p pos : Pos} {Fs : Env → Option (List D)} {k j n : Nat} {fs : List Str} {mi : List D → Option (List D)}
def eMk (c : Str) (fs : List Str) (n : Nat) (mi : List D → Option (List D)) (Fs : Env → Option (List D)) : Env → Option D := fun ρ => match Fs ρ with
  | some ds => if ds.length = n then (match mi ds with | some xs => some (.ins c fs xs) | none => none) else none
  | none => none
theorem fe_make (cc : CalC X.prog X.w X.K X.mg X.base j c fs n mi) (hr : Room k X.A) (hk : j + 1 ≤ k) (hg : Gl X c) (ha : FA X O (e :: es) Fs) (hdb : (c == ("__debug__" : Str)) = false := by decide) (he : starEach (e :: es) X.env = (false, eval e X.env) :: starEach es X.env := by rfl)
    (hpl : (backTo pos (starEach es X.env)).any (·.1) = false := by rfl) : FE X O (.Call (.Name c p) (e :: es) [] pos) (eMk c fs n mi Fs) := by
  obtain ⟨f, fd, ps, Fn, M, hm, hb⟩ := cc.ok
  intro φ Hf0 H0 ρ σ Hf H d Q S hF q
  unfold eMk at hF
  split at hF
  · rename_i ds h1
    split at hF
    · rename_i hl
      split at hF
      · rename_i xs h2
        cases hF
        refine toE (pe_make M Fn (hr.mono hk) hg hm hb .nil pass0 paW hdb he hpl) ?_
        refine ha φ Hf0 H0 ρ σ Hf H ds _ S h1 fun vs Hf1 H1 g1 r1 => ?_
        intro x dx hx hdx hne
        have hs1 : Same H1 (upd (upd H1 dx (.own x)) x (.ins (He.ga X.K c) dx [])) := (same_upd hdx).trans (same_upd (by rw [upd_ne (fun z => hne z.symm)]; exact hx))
        refine ⟨φ, Hf1, x, dx, vs, ds, xs, by rw [List.append_nil], upd_same, g1.s.free hx, g1.s.trans hs1, r1, hl, h2, fun Hf2 H2 ws t s2 x2 y2 l2 r2 => ⟨rfl, ?_⟩⟩
        have g2 : Gr Hf1 H1 (upd Hf2 x (.ins (He.ga X.K c) dx (fs.zip ws))) H2 := by
          refine ⟨t.f.trans (same_upd x2), fun b u z => ?_, fun b u z => ?_, fun b u z zf => ?_⟩
          · exact t.h b u (ne_of_none z hx) (hs1 _ _ z)
          · by_cases hb : b = x
            · subst hb; rw [upd_same] at z; cases z; exact y2
            · rw [upd_ne hb] at z; exact s2 _ _ z
          · have hb := ne_of_none z hx
            rw [upd_ne hb]
            exact t.n b u hb (hs1 _ _ z) zf
        exact q (.ref x) _ H2 (g1.trans g2) (.ins upd_same l2 (r2.mono (same_upd x2)))
      · cases hF
    · cases hF
  · cases hF
end
end FL
namespace FL
variable [HW]
open PySem PySem.Spec L2

/-! ### tuple(d), d a dict of any keys -/
section
variable {prog : Program} {w : World} {A : Around} {E : Value → Shared → Prop} {s : Shared} {d : Addr} {es : Array DictEntry} {ep : Nat}
theorem dict_hint {Q : Bool → Shared → Prop} (hT : s.TypeIs (.ref d) "dict") (h : Q false s) : wpAny (model prog w) A (Builtin.List.listLengthHint (.ref d)) Q E s := by
  unfold Builtin.List.listLengthHint
  refine wpAny_bind (wpAny_specialOf hT F.slot_dict_len.lookup ?_)
  generalize hid : ("dict.__len__" : String) = name
  wp_delta
  rw [show splitId name = some ("dict", "__len__") from by subst hid; decide +kernel]
  subst hid
  refine wpAny_bind (wpAny_isInstance (T := "dict") (b := true) hT (by rw [isSubtype_type]; kernel_rfl) ?_)
  refine wpAny_ite_split (fun z => absurd z (by decide)) (fun _ => ?_)
  refine wpAny_ite_split (fun _ => ?_) (fun z => absurd (by decide +kernel) z)
  exact wpAny_bind (wpAny_typeOf hT (wpAny_pure h))
theorem dict_collect {Q : List Value → Shared → Prop} (hh : A.handled = none) (hd : (d == sysModules) = false) (hm : s.heap.DictRaw d es ep) (hn : es.size ≤ sizeLine)
    (hQ : ∀ (h' : Heap) (tk : Nat) (acc : Array Value), (∀ b o, s.heap.get? b = some o → h'.get? b = some o) → s.heap.objs.size < h'.objs.size → ItemsOf (fun i v => ∃ hi : i < es.size, v = es[i].key) acc es.size → Q acc.toList { s with heap := h', toks := tk }) : wpAny (model prog w) A (collect (.ref d)) Q E s := by
  have hdl : d < s.heap.objs.size := let ⟨_, ho, _⟩ := hm; Heap.lt_size ho
  unfold collect
  apply wpAny_bind
  apply wpAny_runValue
  apply codeAny_builtin F.entry_proto_collect
  rw [Around.under_plainId F.plain_proto_collect _]
  change wpAny _ A.in1 (newList [] >>= fun l => again (.builtin "list.__iadd__" ⟨[l, .ref d], []⟩)) _ _ s
  apply wpAny_bind
  refine wpAny_newObj_type ?_
  refine wpAny_pure ⟨plainId_quiet F.plain_list_iadd _, codeAny_builtin F.entry_list_iadd ?_⟩
  rw [Around.under_plainId F.plain_list_iadd _]
  generalize hS : s.heap.objs.size = S
  have hdS : d < S := hS ▸ hdl
  have hSd : S ≠ d := Nat.ne_of_gt hdS
  generalize h1e : s.heap.push { cls := .type "list", data := .seq ([] : List Value).toArray } = h1
  have e1 : h1.get? S = some { cls := .type "list", data := .seq #[] } := by rw [← h1e, ← hS]; exact Heap.get?_push_size _ rfl
  have k1 : ∀ b o, s.heap.get? b = some o → h1.get? b = some o := fun b o z => by rw [← h1e]; exact Heap.get?_push_of_some _ z
  have m1 : h1.DictRaw d es ep := hm.at fun o z => k1 d o z
  have sz1 : h1.objs.size = S + 1 := by rw [← h1e, Heap.size_push, hS]
  change wpAny _ A.in1 (Builtin.List.listExtendWith (.ref S) (.ref d) (.ref S)) _ _ _
  unfold Builtin.List.listExtendWith
  refine wpAny_bind (wpAny_typeOf (T := "dict") (Heap.DictRaw.typeIs (s := { s with heap := h1 }) m1) ?_)
  rw [if_neg (by simp [Builtin.List.listSameRef, hSd])]
  refine wpAny_bind (wpAny_pyIter_dict_raw (s := { s with heap := h1 }) hd m1 ?_)
  generalize hI : ({ s with heap := h1 } : Shared).heap.objs.size = I
  have eI : I = S + 1 := by rw [← hI]; exact sz1
  generalize h2e : ({ s with heap := h1 } : Shared).heap.push { cls := .type "dict_keyiterator", data := .fields #[.ref d, .int 0 0, .int es.size 0, .int ep 0] } = h2
  have k2 : ∀ b o, h1.get? b = some o → h2.get? b = some o := fun b o z => by rw [← h2e]; exact Heap.get?_push_of_some _ z
  have i2 : h2.IsKeyIter I d 0 es.size ep := ⟨_, by rw [← h2e, ← hI]; exact Heap.get?_push_size _ rfl, rfl, rfl⟩
  have m2 : h2.DictRaw d es ep := m1.at fun o z => k2 d o z
  refine wpAny_bind (wpAny_holding (dict_hint (Heap.DictRaw.typeIs (s := { s with heap := h2 }) m2) ?_))
  have hId : d ≠ I := by rw [eI]; exact Nat.ne_of_lt (Nat.lt_succ_of_lt hdS)
  have hIS : S ≠ I := by rw [eI]; exact Nat.ne_of_lt (Nat.lt_succ_self S)
  -- the loop
  have loop : ∀ (h : Heap) (c : Nat), (∀ b o, b ≠ S → h2.get? b = some o → h.get? b = some o) → h.get? S = some { cls := .type "list", data := .seq #[] c } →
      codeAny (model prog w) A (.builtin "list.extend.loop" ⟨[.ref S, .ref I, .ref S], []⟩) (fun r s' => r = .ok (.ret (.ref S)) ∧ ∃ (h' : Heap) (tk : Nat) (acc : Array Value) (c' : Nat), s' = { s with heap := h', toks := tk } ∧
        (∀ b o, s.heap.get? b = some o → h'.get? b = some o) ∧ h'.get? S = some { cls := .type "list", dict := none, data := .seq acc c', slots := #[] } ∧ ItemsOf (fun i v => ∃ hi : i < es.size, v = es[i].key) acc es.size) { s with heap := h } := by
    intro h c kh eh
    have W := (Walks.rawKeys (prog := prog) (w := w) (A := A.in1) hh I d hId es ep).toS
    refine codeAny_extend_loopS W hn S (by simp [hIS, hSd]) (.ref S) es.size 0 { s with heap := h } #[] c (Nat.sub_zero _) (Nat.zero_le _) ⟨i2.at fun o z => kh I o (Ne.symm hIS) z, m2.at fun o z => kh d o (Ne.symm hSd) z⟩ eh (ItemsOf.nil _) ?_
    intro s' acc c' mv e' hacc
    obtain ⟨mh, mg, md, mo, _⟩ := mv
    obtain ⟨hp, gn, dr, tk, os⟩ := s'
    refine ⟨rfl, hp, tk, acc, c', ?_, fun b o z => ?_, e', hacc⟩
    · cases mg; cases md; cases mo; rfl
    · have hb : b < S := hS ▸ Heap.lt_size z
      have n1 : b ≠ S := Nat.ne_of_lt hb
      have n2 : b ≠ I := by rw [eI]; exact Nat.ne_of_lt (Nat.lt_succ_of_lt hb)
      exact mh b o (by simp [n1, n2]) (kh b o n1 (k2 b o (k1 b o z)))
  have e2 : h2.get? S = some { cls := .type "list", data := .seq #[] } := k2 S _ e1
  refine wpAny_ite_split (fun _ => ?_) (fun _ => ?_)
  · refine wpAny_bind (wpAny_rule (wpAny_bind ?_))
    change wpAny _ _ (updateSeq S (·.push .none) >>= fun _ => updateSeq S (·.pop)) _ _ _
    refine wpAny_bind (wpAny_updateSeq e2 rfl ?_)
    have e3 := Heap.get?_update_self (Obj.mapSeq (·.push Value.none)) e2 rfl
    refine wpAny_updateSeq (hz := by seq_fits) e3 rfl ?_
    have e4 := Heap.get?_update_self (Obj.mapSeq (·.pop)) e3 rfl
    refine wpAny_pure ⟨plainId_quiet F.plain_extend_loop _, ?_⟩
    refine codeAny_mono (loop _ _ (fun b o n z => ?_) e4) fun r s' z => ?_
    · exact (Heap.get?_update_other _ _ (Ne.symm n)).trans ((Heap.get?_update_other _ _ (Ne.symm n)).trans z)
    · obtain ⟨rfl, h', tk, acc, c', rfl, hk, eS, hi⟩ := z
      change wpAny _ A (load S >>= _) _ _ _
      exact wpAny_bind (wpAny_load eS (wpAny_pure (hQ h' tk acc hk (hS ▸ Heap.lt_size eS) hi)))
  · refine wpAny_pure ⟨plainId_quiet F.plain_extend_loop _, ?_⟩
    refine codeAny_mono (loop h2 _ (fun b o _ z => z) e2) fun r s' z => ?_
    obtain ⟨rfl, h', tk, acc, c', rfl, hk, eS, hi⟩ := z
    change wpAny _ A (load S >>= _) _ _ _
    exact wpAny_bind (wpAny_load eS (wpAny_pure (hQ h' tk acc hk (hS ▸ Heap.lt_size eS) hi)))
theorem dict_tuple {Q : Value → Shared → Prop} (hh : A.handled = none) (hd : (d == sysModules) = false) (hm : s.heap.DictRaw d es ep) (hn : es.size ≤ sizeLine)
    (hQ : ∀ (h' : Heap) (tk : Nat) (acc : Array Value), (∀ b o, s.heap.get? b = some o → h'.get? b = some o) → s.heap.objs.size < h'.objs.size → ItemsOf (fun i v => ∃ hi : i < es.size, v = es[i].key) acc es.size →
      Q (.ref h'.objs.size) { s with heap := h'.push { cls := .type "tuple", data := .seq acc }, toks := tk }) : wpAny (model prog w) A (call (.type "tuple") [.ref d]) Q E s := by
  refine callType_codes (Q₁ := fun obj s₁ => s₁.TypeIs obj "tuple" ∧ Q obj s₁) F.called_tuple (F.typeCall_tuple_1 _) F.entry_object_init ?_ fun obj s₁ z => ?_
  · apply codeAny_of_tree
    change wpAny _ A.in1.in1 (do checkBuiltinCall "tuple.__new__" ⟨[.type "tuple", .ref d], []⟩; again (.builtin "tuple.__new__" ⟨[.type "tuple", .ref d], []⟩)) _ _ s
    apply wpAny_bind
    refine wpAny_of_eq (F.newCall_tuple_1 _) (wpAny_pure ⟨plainId_quiet F.plain_tuple_new _, codeAny_builtin F.entry_tuple_new ?_⟩)
    rw [Around.under_plainId F.plain_tuple_new _]
    have q1 := sub_tuple_self
    have q2 := init_tuple_lookup
    have q3 := madeHere_tuple
    have q4 := hm.typeIs
    have q5 : A.in1.in1.handled = none := hh
    wp_walk using wpAny_typeOf q4, dict_collect (A := A.in1.in1) q5 hd hm hn
    intro h' tk acc hk hlt hi
    change wpAny _ _ (Builtin.Tuple.tupleExact acc.toList.toArray >>= fun v => ret v) _ _ _
    unfold Builtin.Tuple.tupleExact
    have e : acc.toList.toArray = acc := by simp
    rw [e]
    refine wpAny_bind (wpAny_newObj_type ?_ (by show acc.size ≤ sizeLine; rw [hi.1]; exact hn))
    exact wpAny_pure ⟨⟨_, Heap.get?_push_size _ rfl, rfl⟩, hQ h' tk acc hk hlt hi⟩
  · exact ⟨z.1, F.args_object_init_2 obj _, object_init_meets F.called_tuple.init.lookup F.called_tuple.made (by decide) prog w A.in1 _ s₁ ⟨z.1, rfl, z.2⟩⟩
end
end FL
namespace FL
variable [HW]
open PySem PySem.Spec L2 PyProof.Rows

/-! ### dicts whose keys are tuples of texts, ints and such tuples -/
mutual
def nkD : D → Option NestedKey
  | .str x => some (.text x)
  | .int i => some (.num i)
  | .tup ds => (match nkAll ds with | some ks => some (.tup ks) | none => none)
  | _ => none
def nkAll : List D → Option (List NestedKey)
  | [] => some []
  | d :: ds => (match nkD d with | some k => (match nkAll ds with | some ks => some (k :: ks) | none => none) | none => none)
end
section
variable {X : Cx} {pins : List (Addr × Obj)} {σ : L2.St} {H : Hp} {s : Shared} {φ : Nat → Option Addr}
mutual
theorem nk_is (I : Inv X pins σ H s) : ∀ {d : D} {v : V} {u : Value} {k : NestedKey}, nkD d = some k → Rp X.K φ H d v → RelV v u → NestedIs s.heap k u
  | .str x, _, _, _, h, .str _, r => by
    cases h
    obtain ⟨t, rfl⟩ := r
    exact .text x t
  | .int i, _, _, _, h, .int _, r => by
    cases h
    obtain ⟨t, rfl⟩ := r
    exact .int i t
  | .tup ds, _, _, _, h, .tup (a := a) (vs := vs) q t, r => by
    unfold nkD at h
    split at h
    · rename_i ks hk
      cases h
      cases r
      obtain ⟨its, rv, ⟨o, h1, h2, n, h3⟩, hz⟩ := I.tuple q
      exact .tup h1 h2 h3 (nkAll_is I hk t rv)
    · cases h
  | .non, _, _, _, h, _, _ => by cases h
  | .bl _, _, _, _, h, _, _ => by cases h
  | .lst _, _, _, _, h, _, _ => by cases h
  | .klst _, _, _, _, h, _, _ => by cases h
  | .obj _, _, _, _, h, _, _ => by cases h
  | .ins _ _ _, _, _, _, h, _, _ => by cases h
  | .dct _ _, _, _, _, h, _, _ => by cases h
  | .dkt _ _ _, _, _, _, h, _, _ => by cases h
  | .xtp _, _, _, _, h, _, _ => by cases h
theorem nkAll_is (I : Inv X pins σ H s) : ∀ {ds : List D} {vs : List V} {us : List Value} {ks : List NestedKey}, nkAll ds = some ks → RpAll X.K φ H ds vs → Vals vs us → NestedAll s.heap ks us
  | [], _, _, _, h, .nil, r => by
    cases h
    cases r
    exact .nil
  | d :: ds, _, _, _, h, .cons q t, .cons r rs => by
    unfold nkAll at h
    split at h
    · rename_i k hk
      split at h
      · rename_i ks hks
        cases h
        exact .cons (nk_is I hk q r) (nkAll_is I hks t rs)
      · cases h
    · cases h
end
end
def nkO (P : Program) (w : World) (D : Addr) (xs : List (NestedKey × Addr × Value)) : HO := .ext fun h => (D == sysModules) = false ∧ ∃ o es ep, h.get? D = some o ∧ o.ExactDict ∧ o.data = .dict es ep ∧ es.toList = xs.map (entryOfKey (nestedKind P w))
theorem nkO_ok {P : Program} {w : World} {H : Hp} {h : Heap} {D : Addr} {xs : List (NestedKey × Addr × Value)} (hd : (D == sysModules) = false) (e : ∃ o es ep, h.get? D = some o ∧ o.ExactDict ∧ o.data = .dict es ep ∧ es.toList = xs.map (entryOfKey (nestedKind P w))) : ObjOk P w H h D (nkO P w D xs) :=
  ⟨⟨hd, e⟩, let ⟨o, _, _, ho, _⟩ := e; ⟨o, ho⟩, fun _ _ ⟨hd, o, es, ep, ho, r⟩ k => ⟨hd, o, es, ep, k o ho, r⟩⟩
def KeyAt (K : PySem.W.Frag) (H : Hp) (k : NestedKey) (a : Addr) : Prop := k.depth ≤ 8 ∧ ∃ φ d, nkD d = some k ∧ Rp K φ H d (.ref a)
section
variable {X : Cx} {pins : List (Addr × Obj)} {σ : L2.St} {H : Hp} {s : Shared} {E : Value → Shared → Prop}
theorem KeyAt.is {k : NestedKey} {a : Addr} (I : Inv X pins σ H s) (q : KeyAt X.K H k a) : (nestedKind X.prog X.w).is s.heap k a := by
  obtain ⟨hd, φ, d, h1, h2⟩ := q
  exact ⟨nk_is I h1 h2 rfl, hd⟩
theorem nk_set {D : Addr} {xs : List (NestedKey × Addr × Value)} {k : NestedKey} {a : Addr} {u r : Value} {Q : Unit → Shared → Prop} (hu : X.A.units + 8 < cLine) (I : Inv X pins σ H s) (hD : H D = some (nkO X.prog X.w D xs)) (hz : xs.length < sizeLine) (hk : KeyAt X.K H k a) (hx : ∀ x ∈ xs, KeyAt X.K H x.1 x.2.1) (hn : (xs.map (·.1)).Nodup)
    (ru : RelV (.ref a) u) (h : ∀ s', Inv X pins σ (upd H D (nkO X.prog X.w D (storedH xs k a r))) s' → Q () s') : wpAny (model X.prog X.w) X.A (dictSet D u r) Q E s := by
  cases ru
  obtain ⟨⟨hs0, o, es, ep, ho, hc, hd, he⟩, _, _⟩ := I.hok D _ hD
  have dd : s.heap.DictOfH (nestedKind X.prog X.w) D xs := ⟨o, es, ep, ho, hc, hd, he, fun x hx' => (hx x hx').is I, hn⟩
  refine wpAny_dictSet_heap (hsz := Nat.le_of_lt hz) hu (hk.is I) dd fun h' dd' hs => h _ ?_
  obtain ⟨o', es', ep', ho', hc', hd', he', _, _⟩ := dd'
  exact d_write I (by rw [hD]; exact True.intro) hs ⟨o', ho'⟩ (nkO_ok hs0 ⟨o', es', ep', ho', hc', hd', he'⟩)
end
def tPut (P : Program) (w : World) (K : PySem.W.Frag) (tk tv : TE) (D : Addr) (Nx : Hp → Prop) : L2.St → Hp → Prop := fun σ H => tk σ H fun y H4 => tv σ H4 fun _ H5 => ∃ xs k a, y = .ref a ∧ H5 D = some (nkO P w D xs) ∧ xs.length < sizeLine ∧ KeyAt K H5 k a ∧ (∀ x ∈ xs, KeyAt K H5 x.1 x.2.1) ∧ (xs.map (·.1)).Nodup ∧
  ∀ r, Nx (upd H5 D (nkO P w D (storedH xs k a r)))
def tDcN (P : Program) (w : World) (K : PySem.W.Frag) (l : Lv) (tk tv : TE) : TE := fun σ H Q => l.wi σ H fun J H1 => ∀ D, H1 D = none → Walk l (tPut P w K tk tv D) J (fun H => Q (.ref D) H) σ (upd H1 D (nkO P w D []))
section
variable {X : Cx} {kx vx tg iter : Expr} {ifs : List Expr} {scope : Scope} {own : List (Str × Nat)} {pos : Pos} {tk tv : TE} {ce : PySem.Env} {D : Addr} {s3 : Shared} {H3 : Hp} {fp : List Addr}
theorem dloop {l : Lv} {σ : L2.St} {Stop : Hp → Prop} {it : Addr} {own : List Addr} {tn : Nat → Heap → Prop} {J : It} {H : Hp} {s : Shared} {R : Result → Shared → Prop} (hc : X.calm = true) (hu : X.A.units + 8 < cLine) (hce : (X.blk s3 H3 scope ce fp).env = ce)
    (pg : PG (X.blk s3 H3 scope ce fp) tg l.g) (pt : PTs (X.blk s3 H3 scope ce fp) ifs l.tt) (pk : PE (X.blk s3 H3 scope ce fp) kx tk) (pv : PE (X.blk s3 H3 scope ce fp) vx tv)
    (T : Turn X.prog X.w X.K tg J own it tn) (stat : ∀ {H' s'}, Inv (X.blk s3 H3 scope ce fp) [] (wipe σ l.vs) H' s' → (∀ b ∈ own, H' b = none) → ∀ b ∈ own, FpOk (X.blk s3 H3 scope ce fp) [] H' b)
    (walk : Walk l (tPut X.prog X.w X.K tk tv D) J Stop σ H) (here : At (X.blk s3 H3 scope ce fp) [] (wipe σ l.vs) tn own 0 H s) (hdone : ∀ H' s', Inv (X.blk s3 H3 scope ce fp) [] (wipe σ l.vs) H' s' → Stop H' → R (.ok .next) s') :
    codeAny (model X.prog X.w) X.A (.compLoop (.DictComp kx vx [⟨tg, iter, ifs, 0⟩] scope pos) 0 (.ref it) (.ref D) ce) R s := by
  rcases walk with ⟨W, ⟨m, w0⟩, turn⟩
  refine compLoop_anyD (fun k s' => ∃ i H', At (X.blk s3 H3 scope ce fp) [] (wipe σ l.vs) tn own i H' s' ∧ W i k H') ?_ m ⟨0, H, here, w0⟩
  rintro k s' ⟨i, Hi, here, wk⟩
  have fpok := stat here.inv here.no
  rcases turn i k Hi wk with ⟨stop, fin⟩ | ⟨go, Nx, down, item⟩
  · refine thnF (T.done (X.blk s3 H3 scope ce fp) rfl rfl rfl hc i [] s' _ Hi (fun _ _ => False) here.inv fpok here.tn stop) ?_
    rintro _ s1 ⟨rfl, I1⟩
    exact hdone Hi s1 I1 fin
  · refine thnF (T.item (X.blk s3 H3 scope ce fp) rfl rfl rfl hc i [] s' _ Hi (fun _ _ => False) here.inv fpok here.tn go) ?_
    rintro _ s1 ⟨u, rfl, q1⟩
    refine thnF q1 ?_
    rintro _ mid ⟨x, Hm, Im, rx, yx, tm, nm⟩
    have pinned := Im.pinned (stat Im nm) (T.obj _ _ tm)
    refine thnF (pg.run _ mid _ Hm x u _ pinned rx (item x Hm yx)) ?_
    rintro _ s2 ⟨τ, H2, I2, same, q2⟩
    refine thnF (pt.run _ s2 τ H2 _ I2 q2) ?_
    rintro b s4 ⟨H4, I4, q4⟩
    have len : (wipe σ l.vs).length = τ.length := by rw [← same, wipe_length]
    have up : ∀ {H' : Hp} {s' : Shared}, Inv (X.blk s3 H3 scope ce fp) ([] ++ pinsAt own mid.heap) τ H' s' → Nx H' → ∃ m, m < k ∧ ∃ i H', At (X.blk s3 H3 scope ce fp) [] (wipe σ l.vs) tn own i H' s' ∧ W i m H' := fun {H' s'} I' nx => by
      rcases down H' nx with ⟨k', lt, wk'⟩
      exact ⟨k', lt, i + 1, H', At.ends T tm I' len fun a v e => (wipe_some (same ▸ e)).1, wk'⟩
    cases b
    · simp only [Bool.false_eq_true, ↓reduceIte] at q4 ⊢
      exact up I4 q4
    · simp only [↓reduceIte] at q4 ⊢
      refine thnF (pk.run _ s4 τ H4 _ I4 q4) ?_
      rintro v1 s5 ⟨y, H5, I5, ry, q5⟩
      refine thnF (pv.run _ s5 τ H5 _ I5 q5) ?_
      rintro v2 s6 ⟨z, H6, I6, rz, xs, key, a, rfl, hD, hlen, hkey, hkeys, hnd, nx⟩
      exact nk_set (X := X.blk s3 H3 scope ce fp) hu I6 hD hlen hkey hkeys hnd ry fun s7 I7 => up I7 (nx v2)
theorem pe_dcN {l : Lv} (hc : X.calm = true) (hu : X.A.units + 8 < cLine) (hN : X.N.Nodup) (hi : PI X tg iter l.wi) (ok : BlkOk X.N X.env.scope scope own) (hvs : l.vs = own.map (·.2)) (hs : ∀ x, foldedSetIterable iter X.env x = pure x)
    (hg : ∀ s H C cl fp, PG (X.blk s H scope (compEnvC scope cl C X.env) fp) tg l.g) (ht : ∀ s H C cl fp, PTs (X.blk s H scope (compEnvC scope cl C X.env) fp) ifs l.tt)
    (hk : ∀ s H C cl fp, PE (X.blk s H scope (compEnvC scope cl C X.env) fp) kx tk) (hv : ∀ s H C cl fp, PE (X.blk s H scope (compEnvC scope cl C X.env) fp) vx tv) :
    PE X (.DictComp kx vx [⟨tg, iter, ifs, 0⟩] scope pos) (tDcN X.prog X.w X.K l tk tv) := by
  constructor
  intro pins s σ H Q I h
  rw [arm_eval_DictComp]
  have cells : ∀ y ∈ scope.names, y.2 = .free → ∃ c, X.env.cells.lookup y.1 = some c := by
    intro y hy e
    rcases ok.free y hy e with z | z
    · exact I.ok.has _ (.inl z)
    · exact I.ok.has _ (.inr z)
  refine wpAny_comprehension_free (use := none) rfl hs (closure_ok cells) ok.kind (fun y hy e => (ok.uniq y hy).trans (congrArg some e)) (thn (hi.run pins s σ H _ I h) fun x s1 hx => thn hx ?_)
  rintro _ s2 ⟨it, fp, tn, J, H2, rfl, I2, T, t0, fo, q⟩
  refine wpAny_newObj_type (newEnv_comp ?_)
  have walk := q s2.heap.objs.size (I2.hok.fresh (Nat.le_refl _))
  have I3 : Inv X pins σ (upd H2 s2.heap.objs.size (nkO X.prog X.w s2.heap.objs.size [])) { s2 with heap := s2.heap.push { cls := .type "dict", data := .dict #[] } } :=
    I2.laid (t' := s2.toks) (fun b o z => Heap.get?_push_of_some _ z) (Nat.le_refl _) (nkO_ok (beq_eq_false_iff_ne.mpr (Ne.symm (Nat.ne_of_lt I2.big))) ⟨_, #[], 0, Heap.get?_push_size _ rfl, ⟨rfl, rfl, rfl⟩, rfl, rfl⟩)
  have f3 : ∀ b ∈ fp, FpOk X pins (upd H2 s2.heap.objs.size (nkO X.prog X.w s2.heap.objs.size [])) b ∧ b < (s2.heap.push { cls := .type "dict", data := .dict #[] }).objs.size := by
    intro b hb
    obtain ⟨o, z, _⟩ := T.obj _ _ t0 b hb
    have small : b < s2.heap.objs.size := Heap.lt_size z
    have away : upd H2 s2.heap.objs.size (nkO X.prog X.w s2.heap.objs.size []) b = H2 b := upd_ne (Nat.ne_of_lt small)
    exact ⟨⟨away.trans (fo b hb).1, (fo b hb).2⟩, by rw [Heap.size_push]; exact Nat.lt_succ_of_lt small⟩
  have inside := block_start I3 ok hN f3
  rw [← hvs] at inside
  have later : ∀ {h : Heap}, (∀ b o, s2.heap.get? b = some o → h.get? b = some o) → tn 0 h := fun keeps => T.keep _ _ _ t0 fun b _ o z => keeps b o z
  refine codeAny_compStart_dict ?_ (T.self X.A 0 _ _ _ (later fun b o z => pushCells_keeps _ _ _ _ (Heap.get?_push_of_some _ (Heap.get?_push_of_some _ z))) ?_) <;>
  · refine dloop (l := l) (tk := tk) (tv := tv) hc hu rfl (hg _ _ _ _ _) (ht _ _ _ _ _) (hk _ _ _ _ _) (hv _ _ _ _ _) T ?_ walk
      ⟨inside, later fun b o z => pushCells_keeps _ _ _ _ (Heap.get?_push_of_some _ (Heap.get?_push_of_some _ z)), fun b hb => (f3 b hb).1.1⟩ ?_
    · intro H' s' I' hn b hb
      refine ⟨hn b hb, (I'.ok.exf b hb).1, I'.ok.exfs b hb, .inl hb, fun x c e => (I'.ok.exf b hb).2 x c e, fun p hp => ?_⟩
      cases hp
    · intro H5 s6 I6 fin
      have I7 : Inv X pins σ H5 s6 := I3.call' (ch := fp) I6.os I6.base I6.hok I6.bare fun b hb => let z := (f3 b hb).1.2; ⟨z.2.2.1, z.1, z.2.2.2.1, z.2.2.2.2⟩
      rcases I6.loc with ⟨m, hn, _⟩
      rcases I3.fpOk (Nat.le_refl _) I6.free with ⟨f0, f1, _, f4, f5, f6⟩
      exact ⟨m, hn, fun _ sb => ⟨.ref s2.heap.objs.size, H5, I7.turned (t' := s6.toks) (fun b o hb e => (sb.2 b hb).trans e) f0 f1 f4 f5 f6, rfl, fin⟩⟩
end
end FL
namespace FL
variable [HW]
open PySem PySem.Spec L2
/-! ### tuple({x: True for x in ..}) -/
def dedG : List D → List (NestedKey × D) → Option (List (NestedKey × D))
  | [], acc => some acc
  | d :: ds, acc => match nkD d with
    | some k => if (isTup d && (decide (k.depth ≤ 8) && decide (acc.length < 100000))) = true then dedG ds (if (acc.any fun q => NestedKey.beq q.1 k) = true then acc else acc ++ [(k, d)]) else none
    | none => none
def eDed (i0 : Nat) (Fi : Env → Option (List D)) : Env → Option D := fun ρ => match Fi ρ with
  | some ds => if i0 < ρ.length then (match dedG ds [] with | some acc => some (.tup (acc.map (·.2))) | none => none) else none
  | none => none
inductive Mt (K : PySem.W.Frag) (φ : Nat → Option Addr) (Hf : Hp) : List (NestedKey × D) → List (NestedKey × Addr × Value) → Prop
  | nil : Mt K φ Hf [] []
  | cons {k d a v acc xs} : nkD d = some k → k.depth ≤ 8 → Rp K φ Hf d (.ref a) → Mt K φ Hf acc xs → Mt K φ Hf ((k, d) :: acc) ((k, a, v) :: xs)
section
variable {K : PySem.W.Frag} {φ : Nat → Option Addr} {Hf Hf' H : Hp}
theorem Mt.mono (s : Same Hf Hf') : ∀ {acc : List (NestedKey × D)} {xs : List (NestedKey × Addr × Value)}, Mt K φ Hf acc xs → Mt K φ Hf' acc xs
  | _, _, .nil => .nil
  | _, _, .cons a b c t => .cons a b (c.mono s) (Mt.mono s t)
theorem Mt.length : ∀ {acc : List (NestedKey × D)} {xs : List (NestedKey × Addr × Value)}, Mt K φ Hf acc xs → acc.length = xs.length
  | _, _, .nil => rfl
  | _, _, .cons _ _ _ t => by simp [Mt.length t]
theorem Mt.keys : ∀ {acc : List (NestedKey × D)} {xs : List (NestedKey × Addr × Value)}, Mt K φ Hf acc xs → xs.map (·.1) = acc.map (·.1)
  | _, _, .nil => rfl
  | _, _, .cons _ _ _ t => by simp [Mt.keys t]
theorem Mt.at (s : Same Hf H) : ∀ {acc : List (NestedKey × D)} {xs : List (NestedKey × Addr × Value)}, Mt K φ Hf acc xs → ∀ x ∈ xs, KeyAt K H x.1 x.2.1
  | _, _, .nil, x, h => by cases h
  | _, _, .cons a b c t, x, h => by
    rcases List.mem_cons.mp h with rfl | h
    · exact ⟨b, φ, _, a, c.mono s⟩
    · exact Mt.at s t x h
theorem Mt.vals : ∀ {acc : List (NestedKey × D)} {xs : List (NestedKey × Addr × Value)}, Mt K φ Hf acc xs → RpAll K φ Hf (acc.map (·.2)) (xs.map fun x => V.ref x.2.1)
  | _, _, .nil => .nil
  | _, _, .cons _ _ c t => .cons c (Mt.vals t)
theorem Mt.snoc {k : NestedKey} {d : D} {a : Addr} {v : Value} (h1 : nkD d = some k) (h2 : k.depth ≤ 8) (h3 : Rp K φ Hf d (.ref a)) : ∀ {acc : List (NestedKey × D)} {xs : List (NestedKey × Addr × Value)}, Mt K φ Hf acc xs → Mt K φ Hf (acc ++ [(k, d)]) (xs ++ [(k, a, v)])
  | _, _, .nil => .cons h1 h2 h3 .nil
  | _, _, .cons a b c t => .cons a b c (Mt.snoc h1 h2 h3 t)
theorem Mt.old {k : NestedKey} {v : Value} : ∀ {acc : List (NestedKey × D)} {xs : List (NestedKey × Addr × Value)}, Mt K φ Hf acc xs → Mt K φ Hf acc (xs.map (putAt k v))
  | _, _, .nil => .nil
  | _, _, .cons (k := k') (a := a) a1 b c t => by
    rw [List.map_cons]
    unfold putAt
    split
    · exact .cons a1 b c (Mt.old t)
    · exact .cons a1 b c (Mt.old t)
theorem any_keys {k : NestedKey} : ∀ (xs : List (NestedKey × Addr × Value)), (atKey xs k).isSome = xs.any fun x => NestedKey.beq x.1 k
  | [] => rfl
  | x :: xs => by
    have ih := any_keys (k := k) xs
    unfold atKey at ih ⊢
    rw [List.find?_cons, List.any_cons, ← NestedKey.decide_eq]
    by_cases h : x.1 = k
    · simp [h]
    · simp only [h, decide_false, Bool.false_or]
      exact ih
theorem any_acc {k : NestedKey} {acc : List (NestedKey × D)} {xs : List (NestedKey × Addr × Value)} (m : Mt K φ Hf acc xs) : (xs.any fun x => NestedKey.beq x.1 k) = acc.any fun q => NestedKey.beq q.1 k := by
  have e := m.keys
  have h1 : (xs.any fun x => NestedKey.beq x.1 k) = (xs.map (·.1)).any fun y => NestedKey.beq y k := by rw [List.any_map]; rfl
  have h2 : (acc.any fun x => NestedKey.beq x.1 k) = (acc.map (·.1)).any fun y => NestedKey.beq y k := by rw [List.any_map]; rfl
  rw [h1, h2, e]
theorem not_any {k : NestedKey} {acc : List (NestedKey × D)} (h : (acc.any fun q => NestedKey.beq q.1 k) = false) : k ∉ acc.map (·.1) := fun hm => by
  obtain ⟨q, hq, rfl⟩ := List.mem_map.mp hm
  have := List.any_eq_false.mp h q hq
  rw [NestedKey.beq_self] at this
  exact this rfl
end
theorem wipeE_length (ρ : Env) : ∀ vs : List Nat, (wipeE ρ vs).length = ρ.length
  | [] => rfl
  | v :: vs => by unfold wipeE; rw [List.length_set]; exact wipeE_length ρ vs
/-! tuple(d) -/
def rTupN (P : Program) (w : World) : List V → Hp → VK → Prop := fun vs H Q => ∃ a xs, vs = [.ref a] ∧ H a = some (nkO P w a xs) ∧ xs.length ≤ sizeLine ∧ ∀ q, H q = none → Q (.ref q) (upd H q (.tup (xs.map fun x => V.ref x.2.1)))
theorem vals_refs : ∀ xs : List (NestedKey × Addr × Value), Vals (xs.map fun x => V.ref x.2.1) (xs.map fun x => Value.ref x.2.1)
  | [] => .nil
  | _ :: xs => .cons rfl (vals_refs xs)
theorem call_tupN {X : Cx} (hh : X.A.handled = none) : CallR X (.type "tuple") (rTupN X.prog X.w) := by
  intro pins s σ H xs us Q I r h
  obtain ⟨a, es0, rfl, hD, hl, q⟩ := h
  obtain ⟨u, rfl, ru⟩ := vals1 r
  cases ru
  obtain ⟨⟨hs0, o, es, ep, ho, hc, hd, he⟩, _, _⟩ := I.hok a _ hD
  have hsz : es.size = es0.length := by rw [← Array.length_toList, he, List.length_map]
  refine dict_tuple hh hs0 ⟨o, ho, hc, hd⟩ (by rw [hsz]; exact hl) fun h' tk acc hk hlt hi => ?_
  have hacc : acc.toList = es0.map fun x => Value.ref x.2.1 := by
    apply List.ext_getElem?
    intro j
    rw [List.getElem?_map, Array.getElem?_toList]
    by_cases hj : j < es0.length
    · have hja : j < acc.size := by rw [hi.1, hsz]; exact hj
      have e1 : acc[j]? = some acc[j] := Array.getElem?_eq_getElem hja
      obtain ⟨hje, e2⟩ := hi.2 j _ e1
      have e3 : es.toList[j]? = (es0.map (entryOfKey (nestedKind X.prog X.w)))[j]? := by rw [he]
      rw [Array.getElem?_toList, Array.getElem?_eq_getElem hje, List.getElem?_map, List.getElem?_eq_getElem hj] at e3
      have e4 := Option.some.inj e3
      rw [e1, e2, e4, List.getElem?_eq_getElem hj]
      rfl
    · rw [List.getElem?_eq_none (by omega), Array.getElem?_eq_none (by rw [hi.1, hsz]; omega)]
      rfl
  have hp : s.heap.objs.size ≤ h'.objs.size := Nat.le_of_lt hlt
  refine ⟨.ref h'.objs.size, upd H h'.objs.size (.tup (es0.map fun x => V.ref x.2.1)), ?_, rfl, q _ (I.hok.fresh hp)⟩
  refine I.laid (t' := tk) (fun b ob z => Heap.get?_push_of_some _ (hk b ob z)) hp ⟨by rw [List.length_map]; exact hl, _, vals_refs es0, ?_⟩
  exact ⟨_, Heap.get?_push_size _ rfl, rfl, 0, by rw [← hacc]⟩
section
variable {X : Cx} {O O2 : List Nat} {kx vx tg iter : Expr} {x : Str} {scope : Scope} {own : List (Str × Nat)} {p pos dpos : Pos} {Fi : Env → Option (List D)} {V0 : Env → Option D} {i0 : Nat}
theorem ded_go (hi : FIB X O tg iter Fi) (hg : ∀ s H C cl fp, FG (X.blk s H scope (compEnvC scope cl C X.env) fp) O O2 [i0] tg (gSet i0)) (htg : i0 ∈ own.map (·.2))
    (he : ∀ s H C cl fp, FE (X.blk s H scope (compEnvC scope cl C X.env) fp) O2 kx (eVar i0)) (hv : ∀ s H C cl fp, FE (X.blk s H scope (compEnvC scope cl C X.env) fp) O2 vx V0) (hV0 : ∀ ρ, ∃ d, V0 ρ = some d)
    {φ : Nat → Option Addr} {Hf0 H0 : Hp} {ρ : Env} {σ : L2.St} {Hf H : Hp} {d : D} {Q : VK} (S : SR X.K φ Hf0 H0 O ρ σ Hf H) (hF : eDed i0 Fi ρ = some d)
    (k : ∀ a acc xs Hf' H', d = .tup (acc.map (·.2)) → Gr Hf H Hf' H' → Mt X.K φ Hf' acc xs → acc.length < 1000000 → H' a = some (nkO X.prog X.w a xs) → Q (.ref a) H') :
    tDcN X.prog X.w X.K ⟨wI X tg iter, uG X scope tg, tYes, own.map (·.2)⟩ (uE X scope kx) (uE X scope vx) σ H Q := by
  unfold eDed at hF
  split at hF
  · rename_i ds hds
    split at hF
    · rename_i hlen
      split at hF
      · rename_i out hout
        cases hF
        refine hi φ Hf0 H0 ρ σ Hf H ds _ S hds fun J Hf1 H1 g1 itb => ?_
        intro Dn hDn
        refine ⟨fun i m H2 => m = ds.length - i ∧ i ≤ ds.length ∧ ∃ Hf2 acc xs, Gr Hf1 H1 Hf2 H2 ∧ Hf2 Dn = none ∧ H2 Dn = some (nkO X.prog X.w Dn xs) ∧ Mt X.K φ Hf2 acc xs ∧ (acc.map (·.1)).Nodup ∧ acc.length < 1000000 ∧ dedG (ds.drop i) acc = some out,
          ⟨ds.length, by simp, Nat.zero_le _, Hf1, [], [], .own g1.s hDn, g1.s.free hDn, upd_same, .nil, List.nodup_nil, by decide, by simpa using hout⟩, ?_⟩
        rintro i m H2 ⟨rfl, hil, Hf2, acc, xs, g2, hf2, hh2, mt, nd, small, hrest⟩
        by_cases hlt : i < ds.length
        · right
          have hget : ds[i]? = some ds[i] := List.getElem?_eq_getElem hlt
          obtain ⟨hgo, hyld⟩ := (itb i Hf2 H2 g2).2 _ hget
          refine ⟨hgo, fun H' => ∃ Hf3 acc' xs', Gr Hf1 H1 Hf3 H' ∧ Hf3 Dn = none ∧ H' Dn = some (nkO X.prog X.w Dn xs') ∧ Mt X.K φ Hf3 acc' xs' ∧ (acc'.map (·.1)).Nodup ∧ acc'.length < 1000000 ∧ dedG (ds.drop (i + 1)) acc' = some out,
            fun H' ⟨Hf3, acc', xs', a1, a2, a3, a4, a5, a6, a7⟩ => ⟨ds.length - (i + 1), by omega, rfl, hlt, Hf3, acc', xs', a1, a2, a3, a4, a5, a6, a7⟩, fun z H3 hy => ?_⟩
          obtain ⟨Hf3, g3, r3⟩ := hyld z H3 hy
          have g13 := g2.trans g3
          have S3 := ((S.gr g1).gr g13).wipe (own.map (·.2))
          rw [List.drop_eq_getElem_cons hlt] at hrest
          unfold dedG at hrest
          split at hrest
          · rename_i key hkey
            split at hrest
            · rename_i hok
              have hok1 := Bool.and_eq_true_iff.mp hok
              have hok2 := Bool.and_eq_true_iff.mp hok1.2
              have hdep : key.depth ≤ 8 := of_decide_eq_true hok2.1
              have hal : acc.length < 100000 := of_decide_eq_true hok2.2
              intro s0 h0 C0 cl0 fp0
              refine hg s0 h0 C0 cl0 fp0 φ Hf0 H0 _ _ Hf3 H3 _ z _ _ S3 r3 rfl fun σ2 S4 w4 => ⟨(w4 _ fun j hj => by rw [List.mem_singleton.mp hj]; exact htg).trans wipe_wipe, ?_⟩
              dsimp only [tYes]
              refine iteT ?_
              intro s1 h1 C1 cl1 fp1
              have hvar : eVar i0 ((wipeE ρ (own.map (·.2))).set i0 (some ds[i])) = some ds[i] := by
                unfold eVar
                rw [List.getElem?_set_self (by rw [wipeE_length]; exact hlen)]
              refine he s1 h1 C1 cl1 fp1 φ Hf0 H0 _ σ2 Hf3 H3 _ _ S4 hvar fun v Hf4 H4 g4 r4 => ?_
              intro s2 h2 C2 cl2 fp2
              obtain ⟨dv, hdv⟩ := hV0 ((wipeE ρ (own.map (·.2))).set i0 (some ds[i]))
              refine hv s2 h2 C2 cl2 fp2 φ Hf0 H0 _ σ2 Hf4 H4 dv _ (S4.gr g4) hdv fun v2 Hf5 H5 g5 r5 => ?_
              have g35 := g3.trans (g4.trans g5)
              have r4' := r4.mono g5.f
              generalize ds[i] = dd at hkey hok1 r4 r4' hrest hget hvar r3
              cases r4' with
              | @tup a vs ds' sq rr =>
                have hrp : Rp X.K φ Hf5 (.tup ds') (.ref a) := .tup sq rr
                have hlx : xs.length < sizeLine := by rw [← mt.length, PySem.sizeLine_eq]; omega
                have mt5 := mt.mono g35.f
                refine ⟨xs, key, a, rfl, g35.h _ _ hh2, hlx, ⟨hdep, φ, _, hkey, hrp.mono g5.s⟩, mt5.at g5.s, by rw [mt.keys]; exact nd, fun rv => ?_⟩
                have gg := g2.trans g35
                have gend : ∀ o, Gr Hf1 H1 Hf5 (upd H5 Dn o) := fun o => by
                  refine ⟨gg.f, fun b ob e => ?_, fun b ob e => ?_, gg.n⟩
                  · rw [upd_ne (ne_of_none e hDn)]; exact gg.h _ _ e
                  · rw [upd_ne (ne_of_none e (g35.n _ _ hh2 hf2))]; exact gg.s _ _ e
                by_cases hany : (acc.any fun q => NestedKey.beq q.1 key) = true
                · rw [if_pos hany] at hrest
                  have e1 : (atKey xs key).isSome = true := by rw [any_keys, any_acc mt]; exact hany
                  obtain ⟨pp, hpp⟩ := Option.isSome_iff_exists.mp e1
                  refine ⟨Hf5, acc, storedH xs key a rv, gend _, g35.n _ _ hh2 hf2, upd_same, ?_, nd, small, hrest⟩
                  rw [storedH_old hpp]
                  exact mt5.old
                · have hany' : (acc.any fun q => NestedKey.beq q.1 key) = false := by simpa using hany
                  rw [if_neg hany] at hrest
                  have e1 : atKey xs key = none := by
                    have : (atKey xs key).isSome = false := by rw [any_keys, any_acc mt]; exact hany'
                    simpa using this
                  refine ⟨Hf5, acc ++ [(key, .tup ds')], storedH xs key a rv, gend _, g35.n _ _ hh2 hf2, upd_same, ?_, ?_, by rw [List.length_append, List.length_singleton]; omega, hrest⟩
                  · rw [storedH_new e1]
                    exact mt5.snoc hkey hdep hrp
                  · rw [List.map_append, List.nodup_append]
                    refine ⟨nd, by simp, fun y hy z hz => ?_⟩
                    have hz' : z = key := by simpa using hz
                    subst hz'
                    rintro rfl
                    exact not_any hany' hy
              | _ => cases hok1.1
            · cases hrest
          · cases hrest
        · left
          have hie : i = ds.length := by omega
          refine ⟨(itb i Hf2 H2 g2).1 (by omega), ?_⟩
          subst hie
          rw [List.drop_length] at hrest
          cases hrest
          exact k Dn out xs Hf2 H2 rfl (g1.trans g2) mt small hh2
      · cases hF
    · cases hF
  · cases hF
theorem fe_ded {nm : Str} (hc : X.calm = true) (hh : X.A.handled = none) (hu : X.A.units + 8 < cLine) (hN : X.N.Nodup) (ok : BlkOk X.N X.env.scope scope own) (hi : FIB X O tg iter Fi) (hg : ∀ s H C cl fp, FG (X.blk s H scope (compEnvC scope cl C X.env) fp) O O2 [i0] tg (gSet i0)) (htg : (own.map (·.2)).contains i0 = true)
    (he : ∀ s H C cl fp, FE (X.blk s H scope (compEnvC scope cl C X.env) fp) O2 kx (eVar i0)) (hv : ∀ s H C cl fp, FE (X.blk s H scope (compEnvC scope cl C X.env) fp) O2 vx V0) (hV0 : ∀ ρ, ∃ d, V0 ρ = some d)
    (hgl : Gl X nm) (hmg : X.mg nm = none) (hbt : bootBuiltins nm = some (.type "tuple")) (hs : ∀ x, foldedSetIterable iter X.env x = pure x := by intro _; rfl) (hnm : nm ≠ "__name__" := by decide +kernel) (hdb : (nm == ("__debug__" : Str)) = false := by decide +kernel)
    (hst : starEach [.DictComp kx vx [⟨tg, iter, [], 0⟩] scope dpos] X.env = (false, eval (.DictComp kx vx [⟨tg, iter, [], 0⟩] scope dpos) X.env) :: starEach [] X.env := by rfl) (hpl : (backTo pos (starEach [] X.env)).any (·.1) = false := by rfl) :
    FE X O (.Call (.Name nm p) [.DictComp kx vx [⟨tg, iter, [], 0⟩] scope dpos] [] pos) (eDed i0 Fi) := by
  intro φ Hf0 H0 ρ σ Hf H d Q S hF k
  have pd := pe_dcN (pos := dpos) (l := ⟨wI X tg iter, uG X scope tg, tYes, own.map (·.2)⟩) (tk := uE X scope kx) (tv := uE X scope vx) hc hu hN piW ok rfl hs (fun s H C cl fp => ⟨fun pins s' σ H' v u Q I r h => (h s H C cl fp).h pins s' u I r⟩) (fun _ _ _ _ _ => pts_nil)
    (fun s H C cl fp => ⟨fun pins s' σ H' Q I h => (h s H C cl fp).h pins s' I⟩) (fun s H C cl fp => ⟨fun pins s' σ H' Q I h => (h s H C cl fp).h pins s' I⟩)
  refine toE (pe_callTy (call_tupN hh) hgl hmg hbt (pa_cons pd pa_nil hst) hnm hdb hst hpl) ?_
  change tDcN X.prog X.w X.K ⟨wI X tg iter, uG X scope tg, tYes, own.map (·.2)⟩ (uE X scope kx) (uE X scope vx) σ H (fun v H1 => rTupN X.prog X.w [v] H1 Q)
  refine ded_go hi hg (by simpa using htg) he hv hV0 S hF fun a acc xs Hf' H' hd g m hl hD => ?_
  refine ⟨a, xs, rfl, hD, by rw [← m.length, PySem.sizeLine_eq]; omega, fun q hq => ?_⟩
  subst hd
  have g2 : Gr Hf' H' (upd Hf' q (.tup (xs.map fun x => V.ref x.2.1))) (upd H' q (.tup (xs.map fun x => V.ref x.2.1))) := .new g.s hq
  exact k (.ref q) _ _ (g.trans g2) (.tup (.inl (.inl upd_same)) (m.vals.mono g2.f))
end
end FL
namespace FL
variable [HW]
open PySem
/-! ### rows of words, and rules made of them -/
abbrev Strs (zs : List Str) : List D := zs.map D.str
def inS (M : Str) (zs : List Str) : Bool := (Strs zs).any fun z => deq z (.str M)
theorem flat_strs : ∀ zs : List Str, (Strs zs).all flatD = true
  | [] => rfl
  | _ :: zs => flat_strs zs
theorem in_tup (M : Str) (zs : List Str) : inD (.str M) (.tup (Strs zs)) = some (.bl (inS M zs)) := by
  unfold inD
  rw [show inB (.str M) (.tup (Strs zs)) = some (inS M zs) from inB_strs M zs]
theorem inB_lst (M : Str) (zs : List Str) : inB (.str M) (.lst (Strs zs)) = some (inS M zs) := by
  show (if (flatD (.str M) && (Strs zs).all flatD) = true then _ else _) = _
  rw [flat_strs]
  rfl
theorem in_lst (M : Str) (zs : List Str) : inD (.str M) (.lst (Strs zs)) = some (.bl (inS M zs)) := by unfold inD; rw [inB_lst]
theorem nin_lst (M : Str) (zs : List Str) : ninD (.str M) (.lst (Strs zs)) = some (.bl (!inS M zs)) := by unfold ninD; rw [inB_lst]
theorem compL_yes {i : Nat} {E : Env → Option D} {ρ : Env} (f : D → D) : ∀ ds : List D, (∀ d ∈ ds, E (ρ.set i (some d)) = some (f d)) → compL (gSet i) tYesE E ρ ds = some (ds.map f)
  | [], _ => rfl
  | d :: ds, h => by
    unfold compL
    have h1 := h d (.head _)
    have h2 := compL_yes f ds fun x hx => h x (.tail _ hx)
    simp only [gSet, tYesE, h1, h2]
    rfl
theorem compL_if {i : Nat} {T : Env → Option Bool} {E : Env → Option D} {ρ : Env} (p : D → Bool) (f : D → D) : ∀ ds : List D, (∀ d ∈ ds, T (ρ.set i (some d)) = some (p d) ∧ E (ρ.set i (some d)) = some (f d)) → compL (gSet i) T E ρ ds = some ((ds.filter p).map f)
  | [], _ => rfl
  | d :: ds, h => by
    unfold compL
    obtain ⟨h1, h3⟩ := h d (.head _)
    have h2 := compL_if p f ds fun x hx => h x (.tail _ hx)
    simp only [gSet, h1, h2]
    cases hp : p d with
    | false => simp [hp]
    | true => simp [hp, h3]
theorem allBl_bls : ∀ bs : List Bool, allBl (bs.map D.bl) = some bs
  | [] => rfl
  | b :: bs => by
    show (match allBl (bs.map D.bl) with | some bs => some (b :: bs) | none => none) = _
    rw [allBl_bls bs]
theorem allD_bls (bs : List Bool) : allD [.lst (bs.map D.bl)] = some (.bl (bs.all id)) := by
  show (match allBl (bs.map D.bl) with | some bs => some (D.bl (bs.all id)) | none => none) = _
  rw [allBl_bls]
theorem eq_str (x y : Str) : eqD (.str x) (.str y) = some (.bl (sEq x y)) := by kernel_rfl
structure Rl where
  k : Str
  a : List Str
  b : List Str
def encRl (r : Rl) : D := .tup [.str r.k, .tup (Strs r.a), .tup (Strs r.b)]
def subS (xs ys : List Str) : Bool := xs.all fun w => inS w ys
/-! without doubles -/
def nkR (r : Rl) : NestedKey := .tup [.text r.k, .tup (r.a.map NestedKey.text), .tup (r.b.map NestedKey.text)]
theorem nkAll_strs : ∀ zs : List Str, nkAll (Strs zs) = some (zs.map NestedKey.text)
  | [] => rfl
  | z :: zs => by
    show (match nkD (.str z) with | some k => (match nkAll (Strs zs) with | some ks => some (k :: ks) | none => none) | none => none) = _
    rw [nkAll_strs zs]
    rfl
theorem nkD_rl (r : Rl) : nkD (encRl r) = some (nkR r) := by
  unfold encRl nkR
  simp only [nkD, nkAll, nkAll_strs]
theorem texts_inj : ∀ {xs ys : List Str}, xs.map NestedKey.text = ys.map NestedKey.text → xs = ys
  | [], [], _ => rfl
  | [], _ :: _, h => by simp at h
  | _ :: _, [], h => by simp at h
  | x :: xs, y :: ys, h => by
    simp only [List.map_cons, List.cons.injEq, NestedKey.text.injEq] at h
    rw [h.1, texts_inj h.2]
theorem nkR_inj {r s : Rl} (h : nkR r = nkR s) : r = s := by
  obtain ⟨k, a, b⟩ := r
  obtain ⟨k', a', b'⟩ := s
  simp only [nkR, NestedKey.tup.injEq, List.cons.injEq, NestedKey.text.injEq, and_true] at h
  rw [h.1, texts_inj h.2.1, texts_inj h.2.2]
theorem depth_texts : ∀ zs : List Str, NestedKey.depthAll (zs.map NestedKey.text) = 0
  | [] => rfl
  | _ :: zs => by
    show max 0 (NestedKey.depthAll (zs.map NestedKey.text)) = 0
    rw [depth_texts zs]
    rfl
theorem depth_rl (r : Rl) : (nkR r).depth ≤ 8 := by
  simp [nkR, NestedKey.depth, NestedKey.depthAll, depth_texts]
def prR (r : Rl) : NestedKey × D := (nkR r, encRl r)
theorem snd_prR (rs : List Rl) : (rs.map prR).map (·.2) = rs.map encRl := by
  rw [List.map_map]; rfl
theorem eDed_val {i : Nat} {Fi : Env → Option (List D)} {ρ : Env} {ds : List D} {acc : List (NestedKey × D)} (h : Fi ρ = some ds) (hi : i < ρ.length) (k : dedG ds [] = some acc) : eDed i Fi ρ = some (.tup (acc.map (·.2))) := by
  unfold eDed
  rw [h]
  simp only [if_pos hi, k]
/-! a loop that gives the first item -/
def encO : Option Rl → D
  | some r => encRl r
  | none => .non
end FL
namespace FL
variable [HW]
open PySem PySem.Spec L2

/-! ### what a class of our own makes of operators -/
theorem insAt {X : Cx} {pins : List (Addr × Obj)} {σ : L2.St} {H : Hp} {s : Shared} {a C dx : Addr} {gs : List (Str × V)} (I : Inv X pins σ H s) (h : H a = some (.ins C dx gs)) : ∃ ox od, PySem.W.InstAt s.heap a ox C od := by
  obtain ⟨_, T, _⟩ := ins_get I.hok h
  obtain ⟨_, J, _⟩ := T.look
  exact ⟨_, _, J⟩
section
variable {X : Cx} {O : List Nat} {c : Str} {j k : Nat} {mir : List D → Option D}
def opI (c : Str) (mir : List D → Option D) : D → D → Option D := fun x y => match x, y with
  | .ins c1 f1 x1, .ins c2 f2 x2 => if c1 = c ∧ c2 = c then mir [.ins c1 f1 x1, .ins c2 f2 x2] else none
  | _, _ => none
def rMe (K : PySem.W.Frag) (c : Str) (mir : List D → Option D) : R2 := fun x y H Q => ∃ a dx gs b dy hs, x = .ref a ∧ y = .ref b ∧ H a = some (.ins (He.ga K c) dx gs) ∧ H b = some (.ins (He.ga K c) dy hs) ∧ spF K false 2 mir [x, y] H Q fun _ _ _ => False
/-! x in o -/
def inI (c : Str) (mir : List D → Option D) (neg : Bool) : D → D → Option D := fun x y => match x with
  | .lst _ => none
  | x => (match y with
    | .ins c2 f2 x2 => if c2 = c then (match mir [.ins c2 f2 x2, x] with | some (.bl t) => some (.bl (neg != t)) | _ => none) else none
    | _ => none)
def rIn (K : PySem.W.Frag) (c : Str) (mir : List D → Option D) (neg : Bool) : R2 := fun x y H Q => ∃ b dy hs, y = .ref b ∧ H b = some (.ins (He.ga K c) dy hs) ∧ spF K false 2 mir [y, x] H (fun z H' => ∃ t, z = .bl t ∧ Q (.bl (neg != t)) H') fun _ _ _ => False
/-! len(o) -/
def lenI (c : Str) (mir : List D → Option D) : List D → Option D := fun xs => match xs with
  | [.ins c1 f1 x1] => if c1 = c then (match mir [.ins c1 f1 x1] with | some (.int n) => if 0 ≤ n ∧ n < 2 ^ 63 then some (.int n) else none | _ => none) else none
  | _ => none
def rLenI (K : PySem.W.Frag) (c : Str) (mir : List D → Option D) : List V → Hp → VK → Prop := fun xs H Q => ∃ a dx gs, xs = [.ref a] ∧ H a = some (.ins (He.ga K c) dx gs) ∧ spF K false 1 mir xs H (fun z H' => ∃ n : Int, z = .int n ∧ 0 ≤ n ∧ n < 2 ^ 63 ∧ Q (.int n) H') fun _ _ _ => False
end
end FL
namespace FL
variable [HW]
open PySem PySem.Spec PyProof.Rows L2

/-! ### for x in o, o of a class of our own whose __iter__ gives a tuple's iterator -/
theorem run_here {P : Program} {w : World} {K : PySem.W.Frag} {mg : Str → Option Value} {base : Heap} {k : Nat} {f : Addr} {fd : FuncData} {x q : Str} {st : Stmt} {dvs : List V} {kws : List (Str × V)} {N ps : List Str}
    (F : FunD K x q (defArgs st) (defBody st) (defScope st) dvs kws f fd) (S : FnScope N ps (defScope st)) {A : Around} {outer : List PySem.Env} {s : Shared} {H : Hp} {us : List Value} {vs : List V} {Qk : VK} (hr : Room (k + 1) A) (e0 : Env0 P w K mg base A outer s H)
    (bt : BindsTo s fd ⟨us, []⟩ (ps.zip us)) (rv : Vals vs us) (hl : vs.length = ps.length)
    (hb : ∀ (cdv : Value), Room k (A.deeper (envOfC q (defScope st) s.heap.objs.size f cdv)) → ∃ t, PSs (cxOf CX0 P w K mg base N q (defScope st) f cdv A outer s H fun _ _ _ => False) (defBody st) t ∧ t { nx := fun _ _ => False, rt := Qk } (L2.start N vs) H) :
    codeAny (model P w) A (.call (.ref f) ⟨us, []⟩) (CR CX0 outer P w H s Qk fun _ _ _ => False) s := by
  obtain ⟨oc, od, dV, kV, doc, pm, an, cdv, ct, osl, rfl, lk, hcd, _, _⟩ := F.ex
  have kin : K.In s.heap := e0.mod.kin.keeps fun c u z => (e0.bs c u z).left
  have bnd : ∀ y ∈ ps.zip us, (defScope st).names.lookup y.1 = some .local ∨ ((defScope st).names.lookup y.1 = some .cell ∧ ((cellsFrom (s.heap.objs.size + 1) (defScope st).names []).lookup y.1).isSome = true) := by
    rintro ⟨n, v⟩ hy
    cases S.par n (List.of_mem_zip hy).1 with
    | inl z => exact Or.inl z
    | inr z => exact Or.inr ⟨z, PySem.W.cellsFrom_some _ _ _ (Or.inl z)⟩
  obtain ⟨t, ht, hq⟩ := hb cdv (hr.deeper _)
  refine codeAny_call_function hr.depth (kin _ _ lk) rfl S.co S.gen rfl (PySem.W.codeRec_of kin hcd) (bt _ _ _ _ (wpAny_newFunctionEnv_cells S.kind bnd fun env he s1 z => ?_))
  cases he
  have I := inv_start (CX := CX0) (E := fun _ _ _ => False) S hr.hd e0 hl rv z
  refine ⟨(e0.mod.nolimit.keeps fun c u y => (e0.bs c u y).left).keeps z.toInCall.keep, codeAny_func (wpAny_mono (ht.run [] s1 _ H _ I hq) (fun fl s' hs => ?_) fun _ _ hs => hs)⟩
  match fl, hs with
  | .ret u, ⟨v, _, H', J, r, qq⟩ => exact ⟨v, H', J.os, J.bare, J.base, J.hok, r, qq⟩
  | .next, ⟨_, _, _, qq⟩ => exact qq.elim
  | .brk, ⟨_, _, _, qq⟩ => exact qq.elim
  | .cont, ⟨_, _, _, qq⟩ => exact qq.elim
def TiO (t it : Addr) : HO := .ext fun h => h.get? it = some { cls := .type "tuple_iterator", data := .fields #[.ref t, .int 0 0] }
theorem tiO_ok {P : Program} {w : World} {H : Hp} {h : Heap} {t it : Addr} (e : h.get? it = some { cls := .type "tuple_iterator", data := .fields #[.ref t, .int 0 0] }) : ObjOk P w H h it (TiO t it) := ⟨e, ⟨_, e⟩, fun _ _ z k => k _ z⟩
def rItT (K : PySem.W.Frag) (n : Nat) : List V → Hp → VK → Prop := fun xs H Q => ∃ t zs, xs = [.ref t] ∧ SqT K H t zs ∧ ∀ it, H it = none → n ≤ it → Q (.ref it) (upd H it (TiO t it))
theorem c_iterT {X : Cx} : CallR X (.builtin "iter") (rItT X.K X.s_0.heap.objs.size) := by
  intro pins s σ H xs us Q I r h
  obtain ⟨t, zs, rfl, hq, q⟩ := h
  obtain rfl := Vals.ref1 r
  obtain ⟨its, _, p, _⟩ := I.tuple hq
  refine Calls.call_function_entry (by decide +kernel) (by decide +kernel) PySem.W.kdk_entry_iter (PySem.W.kdk_args_iter _) ?_
  unfold Builtin.«iter»
  refine wpAny_bind (m := someArgs "iter" 1 2 _) (wpAny_of_eq (a := [Value.ref t]) (by first | rfl | kernel_rfl!) ?_)
  show wpAny _ _ (pyIter (.ref t) >>= _) _ _ _
  refine wpAny_bind (wpAny_pyIter_tuple (show s.heap.IsTuple t its.toArray from p) (wpAny_pure ⟨_, rfl, ?_⟩))
  exact ⟨.ref s.heap.objs.size, _, I.laid (t' := s.toks) (fun b u e => Heap.get?_push_of_some _ e) (Nat.le_refl _) (tiO_ok (Heap.get?_push_size _ rfl)), rfl, q _ (I.hok.fresh (Nat.le_refl _)) I.sz⟩
structure CalI (P : Program) (w : World) (K : PySem.W.Frag) (mg : Str → Option Value) (base : Heap) (k : Nat) (c g : Str) : Prop where
  ok : ∃ f, Meth K (He.ga K c) "__iter__" f ∧ Cls K (He.ga K c) ∧ ∀ (A : Around) (outer : List PySem.Env) (s : Shared) (H : Hp) (a dx t : Addr) (gs : List (Str × V)) (zs : List V), Room k A → Env0 P w K mg base A outer s H → K.In s.heap → H a = some (.ins (He.ga K c) dx gs) → gs.lookup g = some (.ref t) → SqT K H t zs →
    codeAny (model P w) A (.call (.ref f) ⟨[.ref a], []⟩) (CR CX0 outer P w H s (fun z H' => ∃ it, z = .ref it ∧ H it = none ∧ s.heap.objs.size ≤ it ∧ H' = upd H it (TiO t it)) fun _ _ _ => False) s
section
variable {P : Program} {w : World} {K : PySem.W.Frag} {mg : Str → Option Value} {base : Heap} {k : Nat} {c g q self : Str} {N : List Str} {st : Stmt} {p1 p2 p3 p4 p5 : Pos}
theorem calI_of (Dd : FnAt K "__iter__" q st [] [] (He.fAd K (c, some "__iter__"))) (hc : Cls K (He.ga K c)) (hm : Meth K (He.ga K c) "__iter__" (He.fAd K (c, some "__iter__"))) (hn : NoAttr K (He.ga K c) g) (S : FnScope N [self] (defScope st)) (hmg : mg "iter" = none)
    (hbind : ∀ (kV doc pm : Value) (an : Option Addr) (cdv ct : Value) (us : List Value), us.length = 1 → bindArgs (PySem.W.fnOf "__iter__" q (defArgs st) (defBody st) (defScope st) .none kV doc pm an cdv ct) ⟨us, []⟩ = pure ([self].zip us))
    (hbody : defBody st = [.Return (some (.Call (.Name "iter" p1) [.Attribute (.Name self p2) g p3] [] p4)) p5])
    (hN : N[0]? = some self) (hd : (self == ("__debug__" : Str)) = false) (hcd : (self == ("__classdict__" : Str)) = false)
    (hgl : ∀ (s : Shared) (a : Addr) (cdv : Value), (envOfC q (defScope st) s.heap.objs.size a cdv).kindOf "iter" = some .globalImplicit)
    (hv : ∀ (s : Shared) (a : Addr) (cdv : Value), Vis (envOfC q (defScope st) s.heap.objs.size a cdv).scope self) : CalI P w K mg base (k + 1) c g := by
  obtain ⟨fd, F⟩ := Dd
  have hb := FunD.bindsN F (ps := [self]) hbind
  refine ⟨_, hm, hc, fun A outer s H a dx t gs zs hr e0 kin h1 h2 h3 => run_here F S hr e0 ?_ (vs := [.ref a]) (.cons rfl .nil) rfl fun cdv hr2 => ?_⟩
  · have b := hb s [.ref a] kin rfl
    rw [List.append_nil] at b
    exact b
  · rw [hbody]
    refine ⟨_, pss_cons (ps_ret (pe_callB c_iterT (hgl _ _ _) hmg rfl (pa_cons (pe_fld (pe_var hN (hv _ _ _) hd hcd) rfl) pa_nil rfl) (by decide) (by decide) rfl rfl)) pss_nil, ?_⟩
    have h0 : (L2.start N [V.ref a])[0]? = some (some (.ref a)) := rfl
    refine ⟨.ref a, h0, a, He.ga K c, dx, gs, .ref t, rfl, h1, hc, hn, h2, t, zs, rfl, h3, fun it n1 n2 => ⟨it, rfl, n1, n2, rfl⟩⟩
end
section
variable {X : Cx} {O : List Nat} {c g : Str} {j k : Nat} {tg e : Expr} {F : Env → Option D}
def iOwn (c g : Str) (F : Env → Option D) : Env → Option (List D) := fun ρ => match F ρ with | some d => (match fldD c g d with | some (.tup ds) => some ds | _ => none) | none => none
theorem fi_own (cm : CalI X.prog X.w X.K X.mg X.base j c g) (hr : Room k X.A) (hk : j ≤ k) (h : FE X O e F) : FI X O tg e (iOwn c g F) := by
  obtain ⟨f, hm, hc, Fn⟩ := cm.ok
  intro φ Hf0 H0 ρ σ Hf H ds R S hF q
  refine ⟨fun pins s I => ?_⟩
  unfold iOwn at hF
  split at hF
  · rename_i d h1
    split at hF
    · rename_i ds' h2
      cases hF
      obtain ⟨fs, xs, rfl, h3⟩ := fldD_some h2
      refine thn ((h φ Hf0 H0 ρ σ Hf H _ (fun v H1 => ∃ a dx gs t zs, v = .ref a ∧ H1 a = some (.ins (He.ga X.K c) dx gs) ∧ gs.lookup g = some (.ref t) ∧ SqT X.K H1 t zs ∧ R (Itt X.K t) H1) S h1 (fun v Hf1 H1 g1 r1 => ?_)).h pins s I) fun u s1 hu => ?_
      · cases r1 with
        | ins ha hl r =>
          obtain ⟨v, e1, e2⟩ := lkD_ok _ r h3
          cases e2 with
          | tup sq rr => exact ⟨_, _, _, _, _, rfl, g1.s _ _ ha, e1, SqT_same g1.s sq, q _ Hf1 H1 g1 (itD_tup sq rr)⟩
      · obtain ⟨_, H1, I1, rv, a, dx, gs, t, zs, rfl, ha, hl, hs, qq⟩ := hu
        cases rv
        obtain ⟨ox, od, J⟩ := insAt I1 ha
        obtain ⟨m, hF⟩ := I1.fr
        refine PySem.W.owit_iter hF I1.ok.mod.kin J hm.at_ hm.fn (wpAny_call (codeAny_mono (Fn X.A X.stack s1 H1 a dx t gs zs (hr.mono hk) I1.env0 I1.kIn ha hl hs) fun z s2 hz => ?_))
        match z, hz with
        | .error _, hz => exact False.elim hz
        | .ok (.ret u), hz =>
          obtain ⟨v2, H2, os, bare, un, hok, r2, it, e1, n1, n2, e2⟩ := hz
          subst e1
          subst e2
          cases r2
          obtain ⟨hh, gg, dd, tt, os'⟩ := s2
          obtain rfl : os' = s1.os := os
          have I2 : Inv X pins σ (upd H1 it (TiO t it)) ⟨hh, gg, dd, tt, s1.os⟩ := I1.call (h' := hh) (g' := gg) (d' := dd) (t' := tt) (ch := []) un hok bare (fun b z => absurd z (by simp))
          have hit : (upd H1 it (TiO t it)) it = some (TiO t it) := upd_same
          have obj := (I2.hok it _ hit).1
          have hT : Shared.TypeIs ⟨hh, gg, dd, tt, s1.os⟩ (.ref it) "tuple_iterator" := ⟨_, obj, rfl⟩
          unfold PySem.W.OwitIt
          refine wpAny_specialOf (name := Str.ofString "__next__") hT PySem.F.slot_tuple_iterator_next.lookup ?_
          have dr : ItX.dropH (upd H1 it (TiO t it)) it = H1 := ItX.dropH_upd n1
          have I3 := ItX.inv_drop I2 (show (upd H1 it (TiO t it)) it = some (.ext _) from hit)
          rw [dr] at I3
          have fp := ItX.inv_fp I2 hit (Nat.le_trans I1.sz n2)
          rw [dr] at fp
          exact ⟨it, [it], _, Itt X.K t, H1, rfl, I3, turn_tuple t it, ⟨_, obj, rfl, rfl⟩, fun b hb => by
            have : b = it := by simpa using hb
            rw [this]; exact fp, qq⟩
    · cases hF
  · cases hF
end
end FL
namespace FL
variable [HW]
open PySem PySem.Spec L2

/-! ### an expression that reads lists of our own and is worth something with no list in it -/
section
variable {K : PySem.W.Frag} {φ : Nat → Option Addr} {Hf0 H0 Hf H : Hp} {O : List Nat} {ρ : Env} {σ : L2.St}
def NewL (Hf Hf1 : Hp) : Prop := ∀ a o, Hf1 a = some o → Hf a = none → ∃ vs, o = .lst vs
theorem NewL.refl {Hf : Hp} : NewL Hf Hf := fun a o h1 h2 => by rw [h2] at h1; cases h1
theorem NewL.trans {Hf Hf1 Hf2 : Hp} (s : Same Hf1 Hf2) (a : NewL Hf Hf1) (b : NewL Hf1 Hf2) : NewL Hf Hf2 := fun x o h1 h2 => by
  cases e : Hf1 x with
  | none => exact b x o h1 e
  | some u =>
    have := s _ _ e
    rw [h1] at this
    cases this
    exact a x o e h2
end
/-! no list in it -/
mutual
def noL : D → Bool
  | .tup xs => noLs xs | .lst _ => false | .klst _ => false | .ins _ _ xs => noLs xs | .dct _ xs => noLs xs | .dkt _ ks xs => noLs ks && noLs xs | .xtp xs => noLs xs | .obj _ => false | _ => true
def noLs : List D → Bool
  | [] => true
  | d :: ds => noL d && noLs ds
end
section
variable {K : PySem.W.Frag} {φ : Nat → Option Addr} {H H' : Hp}
theorem SqT_keep (k : ∀ a o, H a = some o → (∀ vs, o ≠ .lst vs) → H' a = some o) {a : Addr} {xs : List V} (h : SqT K H a xs) : SqT K H' a xs := by
  rcases h with (h | ⟨o, h⟩) | h
  · exact .inl (.inl (k _ _ h fun _ z => by cases z))
  · exact .inl (.inr ⟨o, k _ _ h fun _ z => by cases z⟩)
  · exact .inr h
mutual
theorem Rp.keep (k : ∀ a o, H a = some o → (∀ vs, o ≠ .lst vs) → H' a = some o) : ∀ {d : D} {v : V}, noL d = true → Rp K φ H d v → Rp K φ H' d v
  | .non, _, _, .non => .non
  | .bl _, _, _, .bl b => .bl b
  | .int _, _, _, .int i => .int i
  | .str _, _, _, .str y => .str y
  | .tup _, _, h, .tup s r => .tup (SqT_keep k s) (RpAll.keep k (by simpa [noL] using h) r)
  | .lst _, _, h, _ => by simp [noL] at h
  | .klst _, _, h, _ => by simp [noL] at h
  | .obj _, _, h, _ => by simp [noL] at h
  | .ins _ _ _, _, h, .ins s l r => .ins (k _ _ s fun _ z => by cases z) l (RpAll.keep k (by simpa [noL] using h) r)
  | .dct _ _, _, h, .dct s l r => .dct (s.imp (fun s => k _ _ s fun _ z => by cases z) fun ⟨o, s⟩ => ⟨o, k _ _ s fun _ z => by cases z⟩) l (RpAll.keep k (by simpa [noL] using h) r)
  | .xtp _, _, h, .xtp s p r => .xtp (k _ _ s fun _ z => by cases z) p (RpAll.keep k (by simpa [noL] using h) r)
  | .dkt fz _ _, _, h, .dkt s a b c d f g r t => .dkt (s.map fun v e z => k _ _ e fun _ w => by rcases z with rfl | ⟨o, rfl⟩ <;> (first | cases w | (unfold dkO at w; cases w))) a b c d f g (RpAll.keep k (Bool.and_eq_true_iff.mp (show (noLs _ && noLs _) = true from h)).1 r) (RpAll.keep k (Bool.and_eq_true_iff.mp (show (noLs _ && noLs _) = true from h)).2 t)
theorem RpAll.keep (k : ∀ a o, H a = some o → (∀ vs, o ≠ .lst vs) → H' a = some o) : ∀ {ds : List D} {vs : List V}, noLs ds = true → RpAll K φ H ds vs → RpAll K φ H' ds vs
  | [], _, _, .nil => .nil
  | _ :: _, _, h, .cons r t => by
    have h' := Bool.and_eq_true_iff.mp (show (noL _ && noLs _) = true from h)
    exact .cons (Rp.keep k h'.1 r) (RpAll.keep k h'.2 t)
end
end
def eNoL (F : Env → Option D) : Env → Option D := fun ρ => match F ρ with | some d => if noL d = true then some d else none | none => none
def eNoLl (F : Env → Option D) : Env → Option D := fun ρ => match F ρ with | some (.lst xs) => if noLs xs = true then some (.lst xs) else none | _ => none
theorem Gr.back {Hf Hf1 H Hf2 H2 : Hp} (s1 : Same Hf Hf1) (n1 : NewL Hf Hf1) (g2 : Gr Hf1 H Hf2 H2) : ∃ Hg, Gr Hf H Hg H2 ∧ (∀ a o, Hf2 a = some o → (∀ vs, o ≠ .lst vs) → Hg a = some o) ∧ (∀ a, Hf2 a = none → Hg a = none) := by
  have own : ∀ a, (∃ o, H a = some o) ∧ Hf a = none → ∀ o, Hf2 a = some o → ∃ vs, o = .lst vs := fun a ⟨⟨u, hu⟩, hn⟩ o ho => by
    cases e : Hf1 a with
    | none => rw [g2.n a u hu e] at ho; cases ho
    | some w =>
      have := g2.f _ _ e
      rw [ho] at this
      cases this
      exact n1 a o e hn
  let Hg : Hp := fun a => match H a, Hf a with | some _, none => none | _, _ => Hf2 a
  have eg : ∀ a, (∃ o, H a = some o) ∧ Hf a = none → Hg a = none := fun a ⟨⟨u, hu⟩, hn⟩ => by show (match H a, Hf a with | some _, none => none | _, _ => Hf2 a) = none; rw [hu, hn]
  have en : ∀ a, ¬((∃ o, H a = some o) ∧ Hf a = none) → Hg a = Hf2 a := fun a hc => by
    show (match H a, Hf a with | some _, none => none | _, _ => Hf2 a) = Hf2 a
    split
    · rename_i o _ h1 h2
      exact absurd ⟨⟨_, h1⟩, h2⟩ hc
    · rfl
  have sub : ∀ a o, Hg a = some o → Hf2 a = some o := fun a o z => by
    by_cases hc : (∃ o, H a = some o) ∧ Hf a = none
    · rw [eg a hc] at z; cases z
    · rwa [en a hc] at z
  refine ⟨Hg, ⟨fun a o z => ?_, g2.h, fun a o z => g2.s _ _ (sub a o z), fun a o h1 h2 => eg a ⟨⟨o, h1⟩, h2⟩⟩, fun a o z hn => ?_, fun a z => ?_⟩
  · rw [en a (fun hc => by rw [z] at hc; cases hc.2)]
    exact g2.f _ _ (s1 _ _ z)
  · by_cases hc : (∃ o, H a = some o) ∧ Hf a = none
    · obtain ⟨vs, e⟩ := own a hc o z
      exact absurd e (hn vs)
    · rw [en a hc]; exact z
  · by_cases hc : (∃ o, H a = some o) ∧ Hf a = none
    · exact eg a hc
    · rw [en a hc]; exact z
section
variable {X : Cx} {L O : List Nat} {e : Expr} {F : Env → Option D}
end
/-! xs.clear() -/
def clearF : List D → List D → Option (List D) := fun _ ds => match ds with | [] => some [] | _ => none
end FL
namespace FL
variable [HW]
open PySem PySem.Spec L2

/-! ### x in t, t a tuple of data of any depth -/
def rInT (K : PySem.W.Frag) (neg : Bool) : R2 := fun x y H Q => ∃ d ds, Dp K H x d ∧ Dp K H y (.tuple ds) ∧ SeqAt.shaped d = true ∧ SeqAt.shaped (.tuple ds) = true ∧ Q (.bl (neg != ds.any fun z => PyData.eqv z d)) H
def inTD (neg : Bool) (x y : D) : Option D := match y with
  | .tup xs => if (okD x && okD (.tup xs)) = true then some (.bl (neg != xs.any fun z => deq z x)) else none
  | _ => none
end FL
namespace FL
variable [HW]
open PySem PySem.Spec L2

/-! ### bits -/
def orD : D → D → Option D | .int i, .int j => some (.int (Builtin.bitOr i j)) | _, _ => none
def andD : D → D → Option D | .int i, .int j => some (.int (Builtin.bitAnd i j)) | _, _ => none
def shlD : D → D → Option D | .int i, .int j => if 0 ≤ j ∧ j ≤ 1000000 ∧ i.natAbs < 2 ^ 64 then some (.int (i * 2 ^ j.toNat)) else none | _, _ => none
def shrD : D → D → Option D | .int i, .int j => if 0 ≤ j then some (.int (i / 2 ^ j.toNat)) else none | _, _ => none
def invD : D → Option D | .int i => some (.int (Builtin.bitNot i)) | _ => none
section
variable {X : Cx} {O : List Nat} {a b e e' : Expr} {p pos : Pos} {F G : Env → Option D} {c : Str} {j k : Nat} {mir : List D → Option D}
/-! for x, y in zip(xs, ys) -/
def zipT (xs ys : List D) : List D := (xs.zip ys).map fun q => .tup [q.1, q.2]
def iZp (F G : Env → Option D) : Env → Option (List D) := fun ρ => match F ρ, G ρ with
  | some x, some y => if (isLst x && isLst y) = true then (match seqD x, seqD y with | some xs, some ys => some (zipT xs ys) | _, _ => none) else none
  | _, _ => none
/-! x <= y of a class of our own -/
end
end FL
namespace FL
variable [HW]
open PySem PySem.Spec L2

/-! ### calls that leave the last arguments to the defaults -/
structure CalKd (P : Program) (w : World) (K : PySem.W.Frag) (mg : Str → Option Value) (base : Heap) (k : Nat) (x : Str) (fr : Bool) (n : Nat) (m : List D → Option D) (df : List D) : Prop where
  ok : ∃ (f : Addr) (fd : FuncData) (ps : List Str) (ds : List Value) (dvs : List V), FnOk P w K mg base CX0 k f fd ps (spF K fr n m) ∧ mg x = some (.ref f) ∧ PySem.W.keepIn K (.ref f) = true ∧ Binds K fd ps ds ∧ Vals dvs ds ∧ ∀ φ H, RpAll K φ H df dvs
section
variable {P : Program} {w : World} {K : PySem.W.Frag} {mg : Str → Option Value} {base : Heap} {k : Nat} {a : Addr} {ps N : List Str} {x : Str} {st : Stmt} {G : Env → Option Out} {dvs : List V} {kws : List (Str × V)} {df : List D}
end
section
variable {X : Cx} {O : List Nat} {e : Expr} {es : List Expr} {p pos : Pos} {Fs : Env → Option (List D)} {x : Str} {j k n : Nat} {m : List D → Option D} {df : List D}
def mLd (n : Nat) (m : List D → Option D) (df : List D) : List D → Option D := fun ds => mL n m (ds ++ df)
end
end FL
namespace FL
variable [HW]
open PySem PySem.Spec PyProof.Rows L2

/-! ### x.bit_length() -/
def blenD : D → Option D | .int i => some (.int (Builtin.Int.intBits i : Nat)) | _ => none
section
variable {X : Cx} {O : List Nat} {o e : Expr} {es : List Expr} {kws : List Keyword} {p pos apos : Pos} {F : Env → Option D} {Fs Gs : Env → Option (List D)} {x : Str} {j k n : Nat} {m : List D → Option D}
/-! ### calls with keywords -/
structure CalKk (P : Program) (w : World) (K : PySem.W.Frag) (mg : Str → Option Value) (base : Heap) (k : Nat) (x : Str) (fr : Bool) (n : Nat) (m : List D → Option D) (n0 : Nat) (ks : List Str) : Prop where
  ok : ∃ (f : Addr) (fd : FuncData) (ps : List Str) (g : List Value → List Value → List Value), FnOk P w K mg base CX0 k f fd ps (spF K fr n m) ∧ mg x = some (.ref f) ∧ PySem.W.keepIn K (.ref f) = true ∧ KBn K fd ps n0 ks g (fun vs zs => vs ++ zs)
end
section
variable {P : Program} {w : World} {K : PySem.W.Frag} {mg : Str → Option Value} {base : Heap} {k : Nat} {a : Addr} {ps N : List Str} {x : Str} {st : Stmt} {G : Env → Option Out} {kws : List (Str × V)}
end
section
variable {X : Cx} {O : List Nat} {o e : Expr} {es : List Expr} {kws : List Keyword} {p pos apos : Pos} {F : Env → Option D} {Fs Gs : Env → Option (List D)} {x : Str} {j k n n0 nk : Nat} {m : List D → Option D} {ks : List Str} {df : List D}
end

/-! ### for x, y, z in zip(xs, ys, zs) -/
def Itz3 (K : PySem.W.Frag) (a b c : Addr) (n1 n2 n3 : Nat) : It :=
  ⟨fun i H => ∃ (xs ys zs : List V) (x y z : V), SqL K H a xs ∧ SqL K H b ys ∧ SqL K H c zs ∧ xs[i]? = some x ∧ ys[i]? = some y ∧ zs[i]? = some z ∧ xs.length = n1 ∧ ys.length = n2 ∧ zs.length = n3,
    fun i H v H' => ∃ T x y z, v = .ref T ∧ H T = none ∧ H' = upd H T (.tup [x, y, z]) ∧ (∀ xs, SqL K H a xs → xs[i]? = some x) ∧ (∀ ys, SqL K H b ys → ys[i]? = some y) ∧ ∀ zs, SqL K H c zs → zs[i]? = some z,
    fun i H => ∃ xs ys zs : List V, SqL K H a xs ∧ SqL K H b ys ∧ SqL K H c zs ∧ xs.length = n1 ∧ ys.length = n2 ∧ zs.length = n3 ∧ (n1 ≤ i ∨ n2 ≤ i ∨ n3 ≤ i)⟩
def iZip3 (K : PySem.W.Frag) (ta : TA) : TI := fun σ H R => ta σ H fun vs H1 => ∃ a b c xs ys zs, vs = [.ref a, .ref b, .ref c] ∧ SqL K H1 a xs ∧ SqL K H1 b ys ∧ SqL K H1 c zs ∧ R (Itz3 K a b c xs.length ys.length zs.length) H1
def zipT3 (xs ys zs : List D) : List D := (xs.zip (ys.zip zs)).map fun q => .tup [q.1, q.2.1, q.2.2]
def iZp3 (F G E : Env → Option D) : Env → Option (List D) := fun ρ => match F ρ, G ρ, E ρ with
  | some x, some y, some z => if (isLst x && (isLst y && isLst z)) = true then (match seqD x, seqD y, seqD z with | some xs, some ys, some zs => some (zipT3 xs ys zs) | _, _, _ => none) else none
  | _, _, _ => none
end FL
namespace FL
variable [HW]
open PySem

/-! ### loops that add to a list -/
section
variable {A B G : Env → Option Out} {g : D → Env → Option Env} {Fi : Env → Option (List D)} {ρ : Env} {o : Option Out}
end
/-! ### loops that look for something -/
section
variable {A B G : Env → Option Out} {g : D → Env → Option Env} {Fi : Env → Option (List D)} {ρ : Env} {o : Option Out}
end
/-! ### the very same data -/
mutual
def sd : D → D → Bool
  | .non, .non => true
  | .bl b, .bl c => b == c
  | .int i, .int j => decide (i = j)
  | .str x, .str y => decide (x = y)
  | .tup xs, .tup ys => sds xs ys
  | .lst xs, .lst ys => sds xs ys
  | .klst xs, .klst ys => sds xs ys
  | _, _ => false
def sds : List D → List D → Bool
  | [], [] => true
  | x :: xs, y :: ys => sd x y && sds xs ys
  | _, _ => false
end
mutual
theorem sd_ok : ∀ {x y : D}, sd x y = true → x = y
  | .non, y, h => by cases y <;> simp [sd] at h; rfl
  | .bl b, y, h => by cases y <;> simp [sd] at h; rw [h]
  | .int i, y, h => by cases y <;> simp [sd] at h; rw [h]
  | .str z, y, h => by cases y <;> simp [sd] at h; rw [h]
  | .tup xs, y, h => by cases y <;> simp only [sd] at h <;> first | rw [sds_ok h] | cases h
  | .lst xs, y, h => by cases y <;> simp only [sd] at h <;> first | rw [sds_ok h] | cases h
  | .klst xs, y, h => by cases y <;> simp only [sd] at h <;> first | rw [sds_ok h] | cases h
  | .obj i, y, h => by cases y <;> simp [sd] at h
  | .ins _ _ _, y, h => by cases y <;> simp [sd] at h
  | .dct _ _, y, h => by cases y <;> simp [sd] at h
  | .dkt _ _ _, y, h => by cases y <;> simp [sd] at h
  | .xtp _, y, h => by cases y <;> simp [sd] at h
theorem sds_ok : ∀ {xs ys : List D}, sds xs ys = true → xs = ys
  | [], [], _ => rfl
  | x :: xs, y :: ys, h => by
    simp only [sds, Bool.and_eq_true] at h
    rw [sd_ok h.1, sds_ok h.2]
  | [], _ :: _, h => by simp [sds] at h
  | _ :: _, [], h => by simp [sds] at h
end
end FL
namespace FL
variable [HW]
open PySem

/-! ### masks -/
def maskN : List Bool → Nat → Nat
  | [], _ => 0
  | b :: bs, i => (if b then 2 ^ i else 0) ||| maskN bs (i + 1)
def maskF (n : Nat) (p : Nat → Bool) : Nat := maskN ((List.range n).map p) 0
def idxB (n : Nat) (p : Nat → Bool) : List D := ((List.range n).filter p).map fun k : Nat => D.int (k : Int)
def bitsG : Env → Option Out :=
    (sSeq (sRet (eComp [1] (iRng1 (aCons (e1 blenD (eVar 0)) aNil)) (gSet 1) (tB truD (e2 andD (e2 shrD (eVar 0) (eVar 1)) (eC (.int 1)))) (eVar 1)))
    sNil)
end FL
namespace FL
variable [HW]
open PySem L2

/-! ### displays of constants, at once -/
def c0 : Expr → Option D
  | .Constant (.int i) _ _ => some (.int i)
  | .Constant (.bool b) _ _ => some (.bl b)
  | .Constant .none _ _ => some .non
  | .Constant (.str x) _ _ => some (.str x)
  | _ => none
def cAll (f : Expr → Option D) : List Expr → Option (List D)
  | [] => some []
  | e :: es => match f e, cAll f es with | some d, some ds => some (d :: ds) | _, _ => none
def cTup (f : Expr → Option D) : Expr → Option D
  | .Tuple es _ _ => (match cAll f es with | some ds => if ds.length ≤ 1000 then some (.tup ds) else none | none => none)
  | e => f e
def c1 : Expr → Option D := cTup c0
def c2 : Expr → Option D := cTup c1
def Cst (f : Expr → Option D) : Prop := ∀ (X : Cx) (O : List Nat) (e : Expr) (d : D), f e = some d → FE X O e (eC d) ∧ ∀ es : List Expr, starEach (e :: es) X.env = (false, eval e X.env) :: starEach es X.env
theorem cst0 : Cst c0 := fun X O e d h => by
  unfold c0 at h
  split at h <;> first | (cases h; done) | (cases h; exact ⟨fe_int, fun _ => rfl⟩) | (cases h; exact ⟨fe_bl, fun _ => rfl⟩) | (cases h; exact ⟨fe_non, fun _ => rfl⟩) | (cases h; exact ⟨fe_str, fun _ => rfl⟩)
def aK (ds : List D) : Env → Option (List D) := fun _ => some ds
theorem fa_all {f : Expr → Option D} (hf : Cst f) {X : Cx} {O : List Nat} : ∀ {es : List Expr} {ds : List D}, cAll f es = some ds → FA X O es (aK ds)
  | [], ds, h => by cases h; exact fa_nil
  | e :: es, ds, h => by
    unfold cAll at h
    split at h
    · rename_i d ds' h1 h2
      cases h
      obtain ⟨q1, q2⟩ := hf X O e d h1
      exact fa_cons q1 (fa_all hf h2) (q2 es)
    · cases h
theorem cst_tup {f : Expr → Option D} (hf : Cst f) : Cst (cTup f) := fun X O e d h => by
  unfold cTup at h
  split at h
  · rename_i es x pos
    split at h
    · rename_i ds hds
      split at h
      · rename_i hl
        cases h
        refine ⟨?_, fun _ => rfl⟩
        have q : FE X O (.Tuple es x pos) (eL tupD (aK ds)) := fe_tup (fa_all hf hds)
        have e1 : (eL tupD (aK ds)) = eC (.tup ds) := by
          funext ρ
          show tupD ds = some (.tup ds)
          unfold tupD
          rw [if_pos (by rw [PySem.sizeLine_eq]; omega)]
        rw [e1] at q
        exact q
      · cases h
    · cases h
  · exact hf X O _ d h
theorem cst1 : Cst c1 := cst_tup cst0
theorem cst2 : Cst c2 := cst_tup cst1
section
variable {X : Cx} {O : List Nat} {e : Expr} {es : List Expr} {d : D} {ds : List D}
theorem fe_cst (h : c2 e = some d) : FE X O e (eC d) := (cst2 X O e d h).1
theorem fa_cst (h : cAll c2 es = some ds) : FA X O es (aK ds) := fa_all cst2 h
end
end FL
namespace FL
variable [HW]
open PySem PySem.Spec PyProof.Rows L2

/-! ### xs.count(x) of flat data -/
def rCntV (K : PySem.W.Frag) : V → List V → Hp → VK → Prop := fun x xs H Q => ∃ (a : Addr) (ys : List V) (y : V), x = V.ref a ∧ xs = [y] ∧ SqL K H a ys ∧ flatV y = true ∧ ys.all flatV = true ∧ Q (.int (ys.countP fun z => eqV z y : Nat)) H
theorem cnt_vals {y : V} : ∀ {ys : List V} {us : List Value}, Vals ys us → ys.all flatV = true → us.countP (eqU y) = ys.countP fun z => eqV z y
  | [], [], .nil, _ => rfl
  | v :: vs, u :: us, .cons r t, f => by
    rw [List.all_cons, Bool.and_eq_true] at f
    rw [List.countP_cons, List.countP_cons, cnt_vals t f.2, eqU_of r f.1]
theorem mt_cnt {X : Cx} : MtR X "list.count" (rCntV X.K) := by
  intro pins s σ H x xs v us Q I rx rxs h
  obtain ⟨a, ys, y, rfl, rfl, hs, fy, fys, q⟩ := h
  cases rx
  cases rxs with
  | cons ry rt =>
    rename_i uy ut
    cases rt
    obtain ⟨its, rv, ⟨⟨cls, dd, data, sl⟩, n, ho, hc, hdn, hd⟩, hlen⟩ := I.list hs
    simp only at hc hd
    subst hc hd
    refine call_meets PySem.F.slot_list_count ⟨_, ho, rfl⟩ PySem.F.entry_list_count (PySem.F.args_list_count_2 _ _)
      (SeqAt.list_countAt a its.toArray n dd sl uy (eqU y)) ⟨ho, fun u' hu' => mem_eqAt ry fy rv fys u' (by simpa using hu'), ?_⟩
    refine ⟨.int (ys.countP fun z => eqV z y : Nat), H, I.tok _, ⟨s.toks, ?_⟩, q⟩
    show Value.int ((its.countP (eqU y) : Nat) : Int) s.toks = _
    rw [cnt_vals rv fys]
def countD (x : D) (ds : List D) : Option D := match ds with
  | [y] => if isLst x && flatD y then (match seqD x with | some xs => if xs.all flatD then some (.int (xs.countP fun z => deq z y : Nat)) else none | none => none) else none
  | _ => none
section
variable {X : Cx} {O : List Nat} {o e : Expr} {es : List Expr} {F G : Env → Option D} {Fs : Env → Option (List D)}
theorem cnt_ok {K : PySem.W.Frag} {φ : Nat → Option Addr} {Hf H2 : Hp} {y : D} {u : V} (q : Rp K φ H2 y u) (hy : flatD y = true) : ∀ {xs : List D} {vs : List V}, xs.all flatD = true → RpAll K φ Hf xs vs → (vs.countP fun z => eqV z u) = xs.countP fun z => deq z y
  | [], _, _, .nil => rfl
  | x :: xs, _, hf, .cons r t => by
    simp only [List.all_cons, Bool.and_eq_true] at hf
    rw [List.countP_cons, List.countP_cons, cnt_ok q hy hf.2 t, eqV_deq r q hf.1 hy]
theorem flat_allc {K : PySem.W.Frag} {φ : Nat → Option Addr} {Hf : Hp} : ∀ {xs : List D} {ws : List V}, RpAll K φ Hf xs ws → xs.all flatD = true → ws.all flatV = true
  | [], _, .nil, _ => rfl
  | _ :: _, _, .cons r t, h => by
    simp only [List.all_cons, Bool.and_eq_true] at h ⊢
    refine ⟨?_, flat_allc t h.2⟩
    cases r <;> first | rfl | cases h.1
theorem count_op {K : PySem.W.Frag} : OpM K "list" (rCntV K) countD := by
  intro φ Hf H Hf1 H1 x ds d v vs Q s g r1 r2 h k
  unfold countD at h
  split at h
  · rename_i y
    split at h
    · rename_i hc
      simp only [Bool.and_eq_true] at hc
      split at h
      · rename_i xs hxs
        split at h
        · rename_i hall
          cases h
          obtain ⟨u, rfl, ru⟩ := r2.one
          have ru' : Rp K φ Hf1 y u := by
            rcases ru with r | ⟨_, _, _, e1, _⟩
            · exact r
            · rw [e1] at hc; cases hc.2
          obtain ⟨p, ws, hv, hL, rw'⟩ := isLst_sq g.s (r1.gr g) hc.1 hxs
          have flu : flatV u = true := by
            have := flat_allc (.one ru') (show [y].all flatD = true by simp [hc.2])
            simpa using this
          refine ⟨p, ws, u, hv, rfl, hL, flu, flat_allc rw' hall, ?_⟩
          rw [cnt_ok ru' hc.2 hall rw']
          exact k _ Hf1 H1 (.refl g.s) (.int _)
        · cases h
      · cases h
    · cases h
  · cases h
theorem fe_counted {apos cpos : Pos} (ho : FB X O o F) (ha : FBA X O [e] Fs) (hbase : attributeBase o "count" X.env (eval o X.env) = eval o X.env := by rfl)
    (hfew : ((backTo cpos (starEach [e] X.env)).all (fun x => !x.1) && (backToKw cpos (keywordEach [] X.env)).all (fun x => x.1.isSome) && decide ([e].length + ([] : List Keyword).length + (if ([] : List Keyword).isEmpty then 0 else 1) < 30)) = true := by rfl)
    (hline : (apos.endLine == cpos.line) = true := by rfl) (hs : starEach [e] X.env = (false, eval e X.env) :: starEach [] X.env := by rfl) : FE X O (.Call (.Attribute o "count" apos) [e] [] cpos) (eM countD F Fs) :=
  fe_meth PySem.F.plainAttrs_list PySem.F.slot_list_count PySem.F.type_list_count mt_cnt count_op (fun φ Hf H x ds d v s r h => by
    unfold countD at h
    split at h
    · split at h
      · rename_i hc
        simp only [Bool.and_eq_true] at hc
        split at h
        · rename_i xs hxs
          obtain ⟨p, ws, rfl, hL, _⟩ := isLst_sq s r hc.1 hxs
          exact .inl ⟨rfl, ws, hL⟩
        · cases h
      · cases h
    · cases h) ho ha hbase hfew hline hs
end

/-! ### a, *b = xs -/
def tGStar (K : PySem.W.Frag) (t : TGs) : TG := fun v σ H Q => ∃ (l : Addr) (x : V) (ys : List V), v = .ref l ∧ SqL K H l (x :: ys) ∧ (x :: ys).length ≤ 16384 ∧ ∀ D, H D = none → t [x, .ref D] σ (upd H D (.lst ys)) Q
theorem pg_star {X : Cx} {es : List Expr} {k : Nat} {pos : Pos} {t : TGs} (hc : X.calm = true) (h : PGs X es t) (hn : (assignEach es X.env).length = 2 := by rfl) (hst : (assignEach es X.env).findIdx? (·.1) = some 1 := by rfl) : PG X (.Tuple es k pos) (tGStar X.K t) := by
  refine ⟨fun pins s σ H v u Q I r hw => ?_⟩
  obtain ⟨l, x, ys, rfl, hq, hl, hw⟩ := hw
  cases r
  obtain ⟨its, rv, p, _⟩ := I.list hq
  cases rv with
  | cons rx rys =>
    rename_i ux uys
    have hls : s.heap.IsList l (ux :: uys).toArray := p.isList
    have hh := I.ok.hd hc
    have hlen : uys.length = ys.length := rys.length.symm
    have hl' : ys.length + 1 ≤ 16384 := hl
    have hlt : l ≠ s.heap.objs.size := Nat.ne_of_lt p.lt
    rw [assign_Tuple]
    refine wpAny_bind (wpAny_standAt ?_)
    unfold unpack
    rw [hn, hst]
    refine wpAny_bind (wpAny_holding ?_)
    unfold unpackItems
    refine wpAny_bind ?_
    unfold notIterableAtAll
    refine wpAny_bind (wpAny_specialOf hls.typeIs PySem.F.slot_list_iter.lookup ?_)
    refine wpAny_pure ?_
    simp only [Bool.false_eq_true, if_false]
    refine wpAny_bind (wpAny_holding (wpAny_pyIter_list hls ?_))
    refine wpAny_bind (wpAny_holding (PySem.W.kun_draw hlt 1 0 _ _ ⟨_, Heap.get?_push_size _ rfl, rfl, rfl⟩ (hls.push _) (by simp) fun h₁ hit₁ hs₁ => ?_))
    have hl₁ : h₁.IsList l (ux :: uys).toArray := (hls.push _).extBut hs₁.extBut hlt
    rw [Nat.zero_add] at hit₁
    have hit₁' := hit₁
    obtain ⟨oi, hoi, _⟩ := hit₁'
    have hl₁' := hl₁
    obtain ⟨ol, hol, _⟩ := hl₁'
    rw [List.drop_zero]
    have hfl : ((ux :: uys).toArray.toList.take 1) = [ux] := rfl
    rw [hfl, if_neg (show ¬ ([ux].length < 1) by simp)]
    refine wpAny_bind (wpAny_holding (PySem.W.kun_collect (s := { s with heap := h₁ }) (T := "list_iterator") (.inr (.inr (.inl rfl))) (Walks.list (A := X.A.in1) hh s.heap.objs.size l hlt (ux :: uys).toArray) (fun j u st => st.1.typeIs) (k := 1) (by simp) ⟨hit₁, hl₁⟩ (Heap.lt_size hoi) (Heap.lt_size hol) (fun h₂ tk hk => ?_) (by simp; rw [sizeLine_eq]; omega)))
    have hrl : ((ux :: uys).toArray.toList.drop 1) = uys := rfl
    rw [hrl]
    show wpAny _ _ (if uys.length < 0 then _ else _) _ _ _
    rw [if_neg (Nat.not_lt_zero _)]
    show wpAny _ _ (newList (uys.take (uys.length - 0)) >>= fun d => pure ([ux] ++ [d] ++ uys.drop (uys.length - 0))) _ _ _
    rw [Nat.sub_zero, List.take_length, List.drop_length]
    have hkeep : ∀ b o, s.heap.get? b = some o → h₂.get? b = some o := fun b o e => by
      have hb : b ≠ s.heap.objs.size := Nat.ne_of_lt (Heap.lt_size e)
      exact hk b o hb (hs₁.extBut b o hb (Heap.get?_push_of_some _ e))
    have I1 : Inv X pins σ H { s with heap := h₂, toks := tk } := I.kept (t' := tk) hkeep
    refine wpAny_bind (wpAny_newList (wpAny_pure ?_))
    have hf : H h₂.objs.size = none := I1.hok.fresh (Nat.le_refl _)
    have I2 : Inv X pins σ (upd H h₂.objs.size (.lst ys)) { s with heap := h₂.push { cls := .type "list", data := .seq uys.toArray }, toks := tk } :=
      I1.laid (t' := tk) (fun b u e => Heap.get?_push_of_some _ e) (Nat.le_refl _) ⟨by rw [sizeLine_eq]; omega, uys, 0, rys, Heap.get?_push_size _ rfl⟩
    exact h.run pins _ σ (upd H h₂.objs.size (.lst ys)) [x, .ref h₂.objs.size] [ux, .ref h₂.objs.size] Q I2 (.cons rx (.cons rfl .nil)) (hw _ hf)
theorem pgs_starred {X : Cx} {e : Expr} {p : Pos} {es : List Expr} {t : TG} {u : TGs} (h1 : PG X e t) (h2 : PGs X es u)
    (hs : (assignEach (.Starred e p :: es) X.env).map (·.2) = assign e X.env :: (assignEach es X.env).map (·.2) := by rfl) : PGs X (.Starred e p :: es) (L2.gCons t u) := by
  refine ⟨fun pins s σ H vs us Q I r h => ?_⟩
  obtain ⟨v, vr, rfl, h⟩ := h
  cases r with
  | cons r rr =>
    rw [hs]
    refine assignInOrder_cons (thn (h1.run pins s σ H _ _ _ I r h) fun _ s1 ⟨σ1, H1, I1, q1⟩ => ?_)
    exact h2.run pins s1 σ1 H1 _ _ Q I1 rr q1
def sStar (i j : Nat) (F : Env → Option D) : Env → Option Out := fun ρ => match F ρ with
  | some d => if isLst d then (match seqD d with | some (x :: ys) => if ys.length < 16384 then some (.nx ((ρ.set i (some x)).set j (some (.lst ys)))) else none | _ => none) else none
  | none => none
section
variable {X : Cx} {O L : List Nat} {fr : Bool} {e : Expr} {F : Env → Option D} {k : Nat} {p1 p2 p3 p4 pos : Pos} {x y : Str}
theorem fs_star {i j : Nat} (hc : X.calm = true) (hN : X.N.Nodup) (hi : X.N[i]? = some x) (hx : Loc X.env.scope x) (hj : X.N[j]? = some y) (hy : Loc X.env.scope y) (h : FE X O e F)
    (hfx : X.fn x = true ∨ X.env.scope.names.lookup x = some .local := by first | exact .inl rfl | exact .inr rfl | assumption) (hfy : X.fn y = true ∨ X.env.scope.names.lookup y = some .local := by first | exact .inl rfl | exact .inr rfl | assumption)
    (hs : swapsWithSole [.Tuple [.Name x p1, .Starred (.Name y p2) p3] k p4] e pos.line X.env = pure false := by rfl) (hw : swappedStores [.Tuple [.Name x p1, .Starred (.Name y p2) p3] k p4] e X.env = pure none := by rfl)
    (h1 : (assignEach [.Tuple [.Name x p1, .Starred (.Name y p2) p3] k p4] X.env).map (·.2) = [assign (.Tuple [.Name x p1, .Starred (.Name y p2) p3] k p4) X.env] := by rfl)
    (hn : (assignEach [.Name x p1, .Starred (.Name y p2) p3] X.env).length = 2 := by rfl) (hst : (assignEach [.Name x p1, .Starred (.Name y p2) p3] X.env).findIdx? (·.1) = some 1 := by rfl)
    (q1 : (assignEach [.Name x p1, .Starred (.Name y p2) p3] X.env).map (·.2) = assign (.Name x p1) X.env :: (assignEach [.Starred (.Name y p2) p3] X.env).map (·.2) := by rfl)
    (q2 : (assignEach [.Starred (.Name y p2) p3] X.env).map (·.2) = assign (.Name y p2) X.env :: (assignEach [] X.env).map (·.2) := by rfl) :
    FS X fr L O ((O.filter (· != i)).filter (· != j)) (.Assign [.Tuple [.Name x p1, .Starred (.Name y p2) p3] k p4] e pos) (sStar i j F) := fun φ Hf0 H0 ρ σ Hf H out Dn S hF P => by
  unfold sStar at hF
  split at hF
  · rename_i d hd
    split at hF
    · rename_i hl
      split at hF
      · rename_i a ys hsq
        split at hF
        · rename_i hlen
          cases hF
          refine toS (ps_asg peW (pg_star hc (pgs_cons (pg_name hN hi hx hfx) (pgs_starred (pg_name hN hj hy hfy) pgs_nil q2) q1) hn hst) hs hw h1) (h φ Hf0 H0 ρ σ Hf H d _ S hd fun v Hf1 H1 g1 r1 => ?_)
          obtain ⟨l, vs, e1, q, r⟩ := r1.lst_f hl hsq
          cases r with
          | cons ra rr =>
            rename_i va vsa
            refine ⟨l, va, vsa, e1, g1.s.seq q, by rw [List.length_cons, ← rr.length]; exact hlen, fun D hD => ?_⟩
            refine ⟨_, _, rfl, ⟨_, _, rfl, ⟨rfl, ?_⟩⟩⟩
            have g2 : Gr Hf1 H1 (upd Hf1 D (.lst vsa)) (upd H1 D (.lst vsa)) := Gr.new g1.s hD
            have S2 := ((S.gr g1).gr g2)
            refine P _ _ _ (g1.trans g2).f ((S2.set i (ra.mono g2.f)).set j (.lst upd_same (rr.mono g2.f)))
        · cases hF
      · cases hF
    · cases hF
  · cases hF
end

/-! ### dicts of the module with text keys -/
structure TabAt (K : PySem.W.Frag) (w : World) (mg : Str → Option Value) (x : Str) (tb : List (Str × D)) : Prop where
  ok : ∃ (a : Addr) (es : Array DictEntry) (n : Nat), mg x = some (.ref a) ∧ KDict K w a es n ∧ ∀ q ∈ tb, ∃ u v, PySem.W.nsIn K a q.1 = some (some u) ∧ RelV v u ∧ RpK K q.2 v
def tabB (K : PySem.W.Frag) (x : Str) (tb : List (Str × D)) : Bool := match PySem.W.nsIn K mainGlobals x with
  | some (some (.ref a)) => decide (a = He.ga K x) && tb.all fun q => (match PySem.W.nsIn K a q.1 with | some (some u) => cB K q.2 u | _ => false)
  | _ => false
theorem tabB_ok {K : PySem.W.Frag} {w : World} {h : Heap} {mg : Str → Option Value} (X : K.In h) (G : h.Ns mainGlobals mg) {x : Str} {tb : List (Str × D)} (c : tabB K x tb = true) (t : ∃ es n, KDict K w (He.ga K x) es n) : TabAt K w mg x tb := by
  unfold tabB at c
  split at c
  · rename_i a ha
    rw [Bool.and_eq_true] at c
    have e := of_decide_eq_true c.1
    subst e
    obtain ⟨es, n, D⟩ := t
    refine ⟨_, es, n, PySem.W.mg_of X G ha, D, fun q hq => ?_⟩
    have c2 := List.all_eq_true.mp c.2 q hq
    split at c2
    · rename_i u hu
      obtain ⟨v, r1, r2⟩ := cB_ok c2
      exact ⟨u, v, hu, r1, r2⟩
    · cases c2
  · cases c
def tbGet (tb : List (Str × D)) (z : Str) : Option D := match tb.find? fun q => decide (q.1 = z) with | some q => some q.2 | none => none
theorem tbGet_mem {tb : List (Str × D)} {z : Str} {d : D} (h : tbGet tb z = some d) : (z, d) ∈ tb := by
  unfold tbGet at h
  split at h
  · rename_i q hq
    cases h
    have h1 := List.find?_some hq
    have : q.1 = z := of_decide_eq_true h1
    subst this
    exact List.mem_of_find?_eq_some hq
  · cases h
def tbItem (tb : List (Str × D)) : D → Option D | .str z => tbGet tb z | _ => none
def tbHas (tb : List (Str × D)) (neg : Bool) : D → Option D | .str z => (match tbGet tb z with | some _ => some (.bl (!neg)) | none => none) | _ => none
section
variable {X : Cx} {O : List Nat} {e : Expr} {F : Env → Option D} {x : Str} {p pos : Pos} {tb : List (Str × D)}
theorem fe_tbItem (T : TabAt X.K X.w X.mg x tb) (hg : Gl X x) (h : FE X O e F) (hd : (x == ("__debug__" : Str)) = false := by decide +kernel) (hs : PlainIx e) : FE X O (.Subscript (.Name x p) e pos) (e1 (tbItem tb) F) := by
  obtain ⟨a, es, n, h1, D, hk⟩ := T.ok
  intro φ Hf0 H0 ρ σ Hf H d Q S hF k
  obtain ⟨y, hy, h2⟩ := e1_some hF
  unfold tbItem at h2
  split at h2
  · rename_i z
    obtain ⟨u, v, k1, k2, k3⟩ := hk _ (tbGet_mem h2)
    refine toE (pe_ix ix_kdict (pe_glob hg h1 (v := .ref a) rfl hd) peW hs) ?_
    refine h φ Hf0 H0 ρ σ Hf H _ _ S hy fun v1 Hf1 H1 g1 r1 => ?_
    cases r1
    exact ⟨a, z, v, rfl, rfl, ⟨es, n, u, D.at_, D.lit, k1, k2⟩, k v Hf1 H1 g1 (k3 φ Hf1)⟩
  · cases h2
end

/-! ### the head's facts, one more Bool, and tables -/
abbrev AlG : Type := (He.AlD × Bool) × List (Option (List (Option (Str × Int))))
def obsG (n : Nat) (fa : List He.Fa) (fn : List He.DefD) (ex : PySem.W.Frag → Bool) (ts : List He.Tab) (g : Addr → Option Obj) : AlG := ((He.obsD fa fn (He.frG g (He.asD g n)), ex (He.frG g (He.asD g n))), ts.map fun t => He.dicW (He.frG g (He.asD g n)) (t.1 (He.frG g (He.asD g n))))
def SaysG (fa : List He.Fa) (fn : List He.DefD) (ex : PySem.W.Frag → Bool) (ts : List He.Tab) (w : World) (K : PySem.W.Frag) : Prop := (He.SaysD fa fn K ∧ ex K = true) ∧ (ts.map fun t => He.dicW K (t.1 K)) = ts.map fun t => some (He.keysIn w.params t.2)
def hookG (n : Nat) (fa : List He.Fa) (fn : List He.DefD) (ex : PySem.W.Frag → Bool) (ts : List He.Tab) : PySem.W.Hook where
  α := AlG
  obs := fun s => obsG n fa fn ex ts s.heap.get?
  val := fun w => ((He.valD fn, true), ts.map fun t => some (He.keysIn w.params t.2))
  says := fun w h => ∃ K : PySem.W.Frag, K.In h ∧ SaysG fa fn ex ts w K
  of := fun w _ e => ⟨_, He.frG_in, ⟨congrArg (fun z : AlG => z.1.1) e, congrArg (fun z : AlG => z.1.2) e⟩, (congrArg (fun z : AlG => z.2) e : _ = ts.map fun t => some (He.keysIn w.params t.2))⟩
  keeps := fun _ _ _ ⟨K, hK, c⟩ k => ⟨K, PySem.W.Frag.In.keeps hK k, c⟩
end FL
namespace FL
variable [HW]
open PySem PySem.Spec L2

/-! ### objects that change -/
inductive Kd where
  | ins | lst | dic | dkt
  deriving DecidableEq
structure Ob where
  k : Kd
  c : Str
  fs : List Str
  xs : List D
def Ext (φ φ' : Nat → Option Addr) : Prop := ∀ i a, φ i = some a → φ' i = some a
theorem Ext.refl (φ : Nat → Option Addr) : Ext φ φ := fun _ _ h => h
theorem Ext.trans {φ φ1 φ2 : Nat → Option Addr} (a : Ext φ φ1) (b : Ext φ1 φ2) : Ext φ φ2 := fun i x h => b i x (a i x h)
section
variable {K : PySem.W.Frag} {φ φ' : Nat → Option Addr} {H : Hp}
mutual
theorem Rp.ext (e : Ext φ φ') : ∀ {d : D} {v : V}, Rp K φ H d v → Rp K φ' H d v
  | _, _, .non => .non
  | _, _, .bl b => .bl b
  | _, _, .int i => .int i
  | _, _, .str x => .str x
  | _, _, .tup s r => .tup s (RpAll.ext e r)
  | _, _, .lst s r => .lst s (RpAll.ext e r)
  | _, _, .klst s r => .klst s (RpAll.ext e r)
  | _, _, .obj h => .obj (e _ _ h)
  | _, _, .ins s l r => .ins s l (RpAll.ext e r)
  | _, _, .dct s l r => .dct s l (RpAll.ext e r)
  | _, _, .dkt s a b c d f g r t => .dkt s a b c d f g (RpAll.ext e r) (RpAll.ext e t)
  | _, _, .xtp s p r => .xtp s p (RpAll.ext e r)
theorem RpAll.ext (e : Ext φ φ') : ∀ {ds : List D} {vs : List V}, RpAll K φ H ds vs → RpAll K φ' H ds vs
  | _, _, .nil => .nil
  | _, _, .cons r t => .cons (r.ext e) (RpAll.ext e t)
end
end
/-! no object as data in it -/
mutual
def noIns : D → Bool
  | .tup xs => noInss xs | .lst _ => false | .klst _ => false | .ins _ _ _ => false | .dct _ _ => false | .dkt fz ks xs => fz && (noInss ks && noInss xs) | .xtp xs => noInss xs | _ => true
def noInss : List D → Bool
  | [] => true
  | d :: ds => noIns d && noInss ds
end
section
variable {K : PySem.W.Frag} {φ : Nat → Option Addr} {H H' : Hp}
theorem SqT_cut (k : ∀ a o, H a = some o → ((∃ xs, o = .tup xs) ∨ ∃ q u, o = .frz q u) → H' a = some o) {a : Addr} {xs : List V} (h : SqT K H a xs) : SqT K H' a xs := by
  rcases h with (h | ⟨o, h⟩) | h
  · exact .inl (.inl (k _ _ h (.inl ⟨_, rfl⟩)))
  · exact .inl (.inr ⟨o, k _ _ h (.inr ⟨_, _, rfl⟩)⟩)
  · exact .inr h
mutual
theorem Rp.cut (k : ∀ a o, H a = some o → ((∃ xs, o = .tup xs) ∨ ∃ q u, o = .frz q u) → H' a = some o) : ∀ {d : D} {v : V}, noIns d = true → Rp K φ H d v → Rp K φ H' d v
  | _, _, _, .non => .non
  | _, _, _, .bl b => .bl b
  | _, _, _, .int i => .int i
  | _, _, _, .str x => .str x
  | .tup _, _, h, .tup s r => .tup (SqT_cut k s) (RpAll.cut k (by simpa [noIns] using h) r)
  | .lst _, _, h, .lst _ _ => by simp [noIns] at h
  | .klst _, _, h, .klst _ _ => by simp [noIns] at h
  | _, _, _, .obj h => .obj h
  | .ins _ _ _, _, h, .ins _ _ _ => by simp [noIns] at h
  | .dct _ _, _, h, .dct _ _ _ => by simp [noIns] at h
  | .xtp _, _, h, .xtp s p r => .xtp (k _ _ s (.inr ⟨_, _, rfl⟩)) p (RpAll.cut k (by simpa [noIns] using h) r)
  | .dkt fz _ _, _, h, .dkt s a b c d f g r t => by
    obtain ⟨h1, h2⟩ := Bool.and_eq_true_iff.mp (show (fz && (noInss _ && noInss _)) = true from h)
    obtain ⟨h3, h4⟩ := Bool.and_eq_true_iff.mp h2
    subst h1
    obtain ⟨o, s⟩ := s
    exact .dkt ⟨o, k _ _ s (.inr ⟨_, _, rfl⟩)⟩ a b c d f g (RpAll.cut k h3 r) (RpAll.cut k h4 t)
theorem RpAll.cut (k : ∀ a o, H a = some o → ((∃ xs, o = .tup xs) ∨ ∃ q u, o = .frz q u) → H' a = some o) : ∀ {ds : List D} {vs : List V}, noInss ds = true → RpAll K φ H ds vs → RpAll K φ H' ds vs
  | [], _, _, .nil => .nil
  | _ :: _, _, h, .cons r t => by
    have h' := Bool.and_eq_true_iff.mp (show (noIns _ && noInss _) = true from h)
    exact .cons (Rp.cut k h'.1 r) (RpAll.cut k h'.2 t)
end
end
def ObAt (φ : Nat → Option Addr) (S : List Ob) (a : Addr) : Prop := ∃ i, i < S.length ∧ φ i = some a
def OAt (K : PySem.W.Frag) (φ : Nat → Option Addr) (Hf : Hp) (o : Ob) (x : Option HO) : Prop := ∃ vs, RpAll K φ Hf o.xs vs ∧ match o.k with
  | .ins => o.fs.length = vs.length ∧ ∃ dx, x = some (.ins (He.ga K o.c) dx (o.fs.zip vs))
  | .lst => x = some (.lst vs)
  | .dic => o.fs.length = vs.length ∧ x = some (.dK ((o.fs.map Sum.inr).zip vs))
  | .dkt => ∃ (a : Addr) (ks ds : List D) (ns : List NestedKey) (as : List Addr) (ws : List V) (us : List Value), x = some (dkO a (kents ns as us)) ∧ o.xs = ks ++ ds ∧ vs = as.map V.ref ++ ws ∧ ks.length = ds.length ∧ ks.length = as.length ∧ nqAll ks = some ns ∧ ns.Nodup ∧ NestedKey.depthAll ns ≤ 8 ∧ ks.length ≤ 1000000 ∧ Vals ws us
theorem OAt.mk_ins {K : PySem.W.Frag} {φ : Nat → Option Addr} {Hf : Hp} {c : Str} {fs : List Str} {xs : List D} {vs : List V} {dx : Addr} {x : Option HO} (h : x = some (.ins (He.ga K c) dx (fs.zip vs))) (l : fs.length = vs.length) (r : RpAll K φ Hf xs vs) : OAt K φ Hf ⟨.ins, c, fs, xs⟩ x := ⟨vs, r, l, dx, h⟩
theorem OAt.ins {K : PySem.W.Frag} {φ : Nat → Option Addr} {Hf : Hp} {o : Ob} {x : Option HO} (h : OAt K φ Hf o x) (hk : o.k = .ins) : ∃ dx vs, x = some (.ins (He.ga K o.c) dx (o.fs.zip vs)) ∧ o.fs.length = vs.length ∧ RpAll K φ Hf o.xs vs := by
  obtain ⟨vs, r, q⟩ := h
  rw [hk] at q
  obtain ⟨l, dx, e⟩ := q
  exact ⟨dx, vs, e, l, r⟩
theorem OAt.some {K : PySem.W.Frag} {φ : Nat → Option Addr} {Hf : Hp} {o : Ob} {x : Option HO} (h : OAt K φ Hf o x) : ∃ u, x = Option.some u ∧ (∀ xs, u ≠ .tup xs) ∧ ∀ q w, u ≠ .frz q w := by
  obtain ⟨vs, _, q⟩ := h
  split at q
  · obtain ⟨_, dx, e⟩ := q; exact ⟨_, e, fun _ z => (nomatch z), fun _ _ z => (nomatch z)⟩
  · exact ⟨_, q, fun _ z => (nomatch z), fun _ _ z => (nomatch z)⟩
  · exact ⟨_, q.2, fun _ z => (nomatch z), fun _ _ z => (nomatch z)⟩
  · obtain ⟨a, ks, ds, ns, as, ws, us, e, _⟩ := q; exact ⟨_, e, fun _ z => (nomatch z), fun _ _ z => (nomatch z)⟩
theorem OAt.mono {K : PySem.W.Frag} {φ φ' : Nat → Option Addr} {Hf Hf' : Hp} {o : Ob} {x : Option HO} (h : OAt K φ Hf o x) (e : Ext φ φ') (s : Same Hf Hf') : OAt K φ' Hf' o x := let ⟨vs, r, q⟩ := h; ⟨vs, (RpAll.ext e r).mono s, q⟩
structure Cells (K : PySem.W.Frag) (φ : Nat → Option Addr) (Hf H : Hp) (S : List Ob) : Prop where
  at_ : ∀ i o, S[i]? = some o → ∃ a, φ i = some a ∧ Hf a = none ∧ OAt K φ Hf o (H a)
  inj : ∀ i j a, φ i = some a → φ j = some a → i = j
  out : ∀ i, S.length ≤ i → φ i = none
theorem Cells.get {K : PySem.W.Frag} {φ : Nat → Option Addr} {Hf H : Hp} {S : List Ob} (c : Cells K φ Hf H S) {a : Addr} (h : ObAt φ S a) : ∃ u, H a = some u ∧ Hf a = none ∧ (∀ xs, u ≠ .tup xs) ∧ ∀ q w, u ≠ .frz q w := by
  obtain ⟨i, hi, e⟩ := h
  obtain ⟨a', e', q1, q2⟩ := c.at_ i S[i] (List.getElem?_eq_getElem hi)
  rw [e] at e'
  cases e'
  obtain ⟨u, z1, z2⟩ := q2.some
  exact ⟨u, z1, q1, z2⟩
open Classical in
noncomputable def bas (φ : Nat → Option Addr) (S : List Ob) (B Hf H : Hp) : Hp := fun a => if ObAt φ S a then H a else match B a with | some o => some o | none => Hf a
open Classical in
noncomputable def fzc (φ : Nat → Option Addr) (S : List Ob) (Hf H : Hp) : Hp := fun a => if ObAt φ S a then H a else Hf a
open Classical in
noncomputable def ofc (φ : Nat → Option Addr) (S : List Ob) (Hf : Hp) : Hp := fun a => if ObAt φ S a then none else Hf a
section
variable {φ : Nat → Option Addr} {S : List Ob} {B Hf H : Hp} {a : Addr}
theorem bas_at (h : ObAt φ S a) : bas φ S B Hf H a = H a := by unfold bas; rw [if_pos h]
theorem bas_no (h : ¬ ObAt φ S a) : bas φ S B Hf H a = (match B a with | some o => some o | none => Hf a) := by unfold bas; rw [if_neg h]
theorem fzc_at (h : ObAt φ S a) : fzc φ S Hf H a = H a := by unfold fzc; rw [if_pos h]
theorem fzc_no (h : ¬ ObAt φ S a) : fzc φ S Hf H a = Hf a := by unfold fzc; rw [if_neg h]
theorem ofc_at (h : ObAt φ S a) : ofc φ S Hf a = none := by unfold ofc; rw [if_pos h]
theorem ofc_no (h : ¬ ObAt φ S a) : ofc φ S Hf a = Hf a := by unfold ofc; rw [if_neg h]
end
structure MSR (K : PySem.W.Frag) (φ : Nat → Option Addr) (B Bf : Hp) (O : List Nat) (ρ : Env) (S : List Ob) (σ : L2.St) (Hf H : Hp) : Prop where
  sr : SR K φ Hf (bas φ S B Hf H) O ρ σ Hf H
  cl : Cells K φ Hf H S
  fb : Same B H
  fn : ∀ a o, B a = some o → Bf a = none → Hf a = none
  nb : ∀ a, ObAt φ S a → B a = none
section
variable {K : PySem.W.Frag} {φ : Nat → Option Addr} {B Bf : Hp} {O O' : List Nat} {ρ ρ' : Env} {S : List Ob} {σ σ' : L2.St} {Hf H Hf' H' : Hp}
theorem MSR.sub (M : MSR K φ B Bf O ρ S σ Hf H) : Same Hf H := M.sr.sub
theorem MSR.step (M : MSR K φ B Bf O ρ S σ Hf H) (T : SR K φ Hf (bas φ S B Hf H) O' ρ' σ' Hf' H') : MSR K φ B Bf O' ρ' S σ' Hf' H' := by
  have keep : ∀ a, ObAt φ S a → H' a = H a ∧ Hf' a = none := fun a h => by
    obtain ⟨u, e1, e2, _⟩ := M.cl.get h
    have e3 : bas φ S B Hf H a = some _ := (bas_at h).trans e1
    exact ⟨(T.gh _ _ e3).trans e1.symm, T.gn a _ e3 e2⟩
  refine ⟨⟨T.len, T.sub, Same.refl _, fun a o e => ?_, fun _ _ _ z => z, T.val, fun i d e m => ?_, T.ne⟩, ⟨fun i o e => ?_, M.cl.inj, M.cl.out⟩, fun a o e => ?_, fun a o e1 e2 => ?_, M.nb⟩
  · by_cases h : ObAt φ S a
    · rw [bas_at h] at e; exact e
    · rw [bas_no h] at e
      split at e
      · rename_i o' hb
        cases e
        refine T.gh _ _ ?_
        rw [bas_no h, hb]
      · exact T.sub _ _ e
  · obtain ⟨a, xs, vs, q1, q2, q3, q4, q5, r⟩ := T.own i d e m
    refine ⟨a, xs, vs, q1, q2, q3, q4, ?_, r⟩
    have h : ¬ ObAt φ S a := fun h => by
      obtain ⟨_, e1, _⟩ := M.cl.get h
      rw [bas_at h, e1] at q5; cases q5
    rw [bas_no h] at q5 ⊢
    split at q5
    · cases q5
    · exact q4
  · obtain ⟨a, e0, e1, e2⟩ := M.cl.at_ i o e
    have h : ObAt φ S a := ⟨i, (List.getElem?_eq_some_iff.mp e).1, e0⟩
    obtain ⟨k1, k2⟩ := keep a h
    exact ⟨a, e0, k2, by rw [k1]; exact e2.mono (.refl φ) T.gf⟩
  · refine T.gh _ _ ?_
    have h : ¬ ObAt φ S a := fun h => by rw [M.nb a h] at e; cases e
    rw [bas_no h, e]
  · have h : ¬ ObAt φ S a := fun h => by rw [M.nb a h] at e1; cases e1
    have e3 : bas φ S B Hf H a = some o := by rw [bas_no h, e1]
    exact T.gn a o e3 (M.fn a o e1 e2)
/-! ### a snapshot -/
def shw (S : List Ob) : Option D → Option D
  | some (.obj i) => (match S[i]? with | some ⟨.ins, c, fs, xs⟩ => some (.ins c fs xs) | some ⟨.lst, _, _, xs⟩ => some (.lst xs) | _ => some (.obj i))
  | d => d
theorem MSR.back (M : MSR K φ B Bf O ρ S σ Hf H) (g : Gr (fzc φ S Hf H) H Hf' H') : MSR K φ B Bf O ρ S σ (ofc φ S Hf') H' ∧ Same Hf (ofc φ S Hf') := by
  have s1 : Same Hf (ofc φ S Hf') := fun a o e => by
    have h : ¬ ObAt φ S a := fun h => by
      obtain ⟨_, _, e2, _⟩ := M.cl.get h
      rw [e2] at e; cases e
    rw [ofc_no h]
    exact g.f _ _ ((fzc_no h).trans e)
  have s2 : Same (ofc φ S Hf') H' := fun a o e => by
    by_cases h : ObAt φ S a
    · rw [ofc_at h] at e; cases e
    · rw [ofc_no h] at e; exact g.s _ _ e
  refine ⟨?_, s1⟩
  have T : SR K φ Hf (bas φ S B Hf H) O ρ σ (ofc φ S Hf') H' := by
    refine ⟨M.sr.len, s2, s1, fun a o e => ?_, fun a o e1 e2 => ?_, fun i d e n => ?_, fun i d e m => ?_, M.sr.ne⟩
    · exact g.h _ _ (M.sr.gh _ _ e)
    · by_cases h : ObAt φ S a
      · exact ofc_at h
      · rw [ofc_no h]
        exact g.n a o (M.sr.gh _ _ e1) ((fzc_no h).trans e2)
    · obtain ⟨v, e1, r⟩ := M.sr.val i d e n
      exact ⟨v, e1, r.mono s1⟩
    · obtain ⟨a, xs, vs, q1, q2, q3, q4, q5, r⟩ := M.sr.own i d e m
      have h : ¬ ObAt φ S a := fun h => by
        rw [bas_at h, q3] at q5; cases q5
      exact ⟨a, xs, vs, q1, q2, g.h _ _ q3, (ofc_no h).trans (g.n a _ q3 ((fzc_no h).trans q4)), q5, r.mono s1⟩
  exact M.step T
end
end FL
namespace FL
variable [HW]
open PySem PySem.Spec L2

/-! ### what changes objects: expressions, tests, statements -/
def ME (X : Cx) (O : List Nat) (e : Expr) (F : Env → List Ob → Option (D × List Ob)) : Prop :=
  ∀ (φ : Nat → Option Addr) (B Bf : Hp) (ρ : Env) (S : List Ob) (σ : L2.St) (Hf H : Hp) (d : D) (S' : List Ob) (Q : VK), MSR X.K φ B Bf O ρ S σ Hf H → F ρ S = some (d, S') →
    (∀ φ' v Hf' H', Ext φ φ' → Same Hf Hf' → MSR X.K φ' B Bf O ρ S' σ Hf' H' → Rp X.K φ' Hf' d v → Q v H') → wE X e σ H Q
def MT (X : Cx) (O : List Nat) (e : Expr) (F : Env → List Ob → Option (Bool × List Ob)) : Prop :=
  ∀ (φ : Nat → Option Addr) (B Bf : Hp) (ρ : Env) (S : List Ob) (σ : L2.St) (Hf H : Hp) (b : Bool) (S' : List Ob) (Q : Bool → Hp → Prop), MSR X.K φ B Bf O ρ S σ Hf H → F ρ S = some (b, S') →
    (∀ φ' Hf' H', Ext φ φ' → Same Hf Hf' → MSR X.K φ' B Bf O ρ S' σ Hf' H' → Q b H') → wT X e σ H Q
inductive MOut where
  | nx (ρ : Env) (S : List Ob) | rt (d : D) (S : List Ob)
structure MDone (K : PySem.W.Frag) (φ : Nat → Option Addr) (B Bf : Hp) (S : List Ob) (Hf H : Hp) : Prop where
  sub : Same Hf H
  cl : Cells K φ Hf H S
  fb : Same B H
  fn : ∀ a o, B a = some o → Bf a = none → Hf a = none
  nb : ∀ a, ObAt φ S a → B a = none
def MPost (K : PySem.W.Frag) (φ : Nat → Option Addr) (B Bf : Hp) (O : List Nat) (Hf : Hp) (Dn : Ends) : MOut → Prop
  | .nx ρ S => ∀ φ' σ' Hf' H', Ext φ φ' → Same Hf Hf' → MSR K φ' B Bf O ρ S σ' Hf' H' → Dn.nx σ' H'
  | .rt d S => ∀ φ' v Hf' H', Ext φ φ' → Same Hf Hf' → MDone K φ' B Bf S Hf' H' → Rp K φ' Hf' d v → Dn.rt v H'
section
variable {K : PySem.W.Frag} {φ φ1 : Nat → Option Addr} {B Bf : Hp} {O : List Nat} {ρ : Env} {S : List Ob} {σ : L2.St} {Hf H Hf1 : Hp} {Dn : Ends}
theorem MPost.mono (e : Ext φ φ1) (s : Same Hf Hf1) : ∀ {out : MOut}, MPost K φ B Bf O Hf Dn out → MPost K φ1 B Bf O Hf1 Dn out
  | .nx _ _, h => fun φ' σ' Hf' H' e' s' => h φ' σ' Hf' H' (e.trans e') (s.trans s')
  | .rt _ _, h => fun φ' v Hf' H' e' s' => h φ' v Hf' H' (e.trans e') (s.trans s')
theorem MSR.done (M : MSR K φ B Bf O ρ S σ Hf H) : MDone K φ B Bf S Hf H := ⟨M.sub, M.cl, M.fb, M.fn, M.nb⟩
theorem MSR.set (M : MSR K φ B Bf O ρ S σ Hf H) (i : Nat) {d : D} {v : V} (r : Rp K φ Hf d v) : MSR K φ B Bf (O.filter (· != i)) (ρ.set i (some d)) S (σ.set i (some v)) Hf H := M.step (M.sr.set i r)
end
def MS (X : Cx) (O O' : List Nat) (st : Stmt) (G : Env → List Ob → Option MOut) : Prop :=
  ∀ (φ : Nat → Option Addr) (B Bf : Hp) (ρ : Env) (S : List Ob) (σ : L2.St) (Hf H : Hp) (out : MOut) (Dn : Ends), MSR X.K φ B Bf O ρ S σ Hf H → G ρ S = some out → MPost X.K φ B Bf O' Hf Dn out → wS X st Dn σ H
def MSs (X : Cx) (O O' : List Nat) (sts : List Stmt) (G : Env → List Ob → Option MOut) : Prop :=
  ∀ (φ : Nat → Option Addr) (B Bf : Hp) (ρ : Env) (S : List Ob) (σ : L2.St) (Hf H : Hp) (out : MOut) (Dn : Ends), MSR X.K φ B Bf O ρ S σ Hf H → G ρ S = some out → MPost X.K φ B Bf O' Hf Dn out → wSs X sts Dn σ H
/-! the mirror's words -/
def qSnap (F : Env → Option D) : Env → List Ob → Option (D × List Ob) := fun ρ S => match F (ρ.map (shw S)) with | some d => if noIns d = true then some (d, S) else none | none => none
def qTst (T : Env → Option Bool) : Env → List Ob → Option (Bool × List Ob) := fun ρ S => match T (ρ.map (shw S)) with | some b => some (b, S) | none => none
def mNil : Env → List Ob → Option MOut := fun ρ S => some (.nx ρ S)
def mSeq (F G : Env → List Ob → Option MOut) : Env → List Ob → Option MOut := fun ρ S => match F ρ S with | some (.nx ρ' S') => G ρ' S' | o => o
def mPure (G : Env → Option Out) : Env → List Ob → Option MOut := fun ρ S => match G ρ with | some (.nx ρ') => some (.nx ρ' S) | some (.rt d) => some (.rt d S) | _ => none
def mSet (i : Nat) (F : Env → List Ob → Option (D × List Ob)) : Env → List Ob → Option MOut := fun ρ S => match F ρ S with | some (d, S') => some (.nx (ρ.set i (some d)) S') | none => none
def mRet (F : Env → List Ob → Option (D × List Ob)) : Env → List Ob → Option MOut := fun ρ S => match F ρ S with | some (d, S') => some (.rt d S') | none => none
def mIf (T : Env → List Ob → Option (Bool × List Ob)) (F G : Env → List Ob → Option MOut) : Env → List Ob → Option MOut := fun ρ S => match T ρ S with | some (true, S') => F ρ S' | some (false, S') => G ρ S' | none => none
def mForget (vs : List Nat) (G : Env → List Ob → Option MOut) : Env → List Ob → Option MOut := fun ρ S => G (wipeE ρ vs) S
section
variable {X : Cx} {O O' O1 : List Nat} {e c : Expr} {st : Stmt} {sts a b : List Stmt} {F : Env → Option D} {T : Env → Option Bool} {p2 pos : Pos} {ME1 : Env → List Ob → Option (D × List Ob)} {MT1 : Env → List Ob → Option (Bool × List Ob)} {G G2 : Env → List Ob → Option MOut} {Gp : Env → Option Out}
theorem MSR.weak {K : PySem.W.Frag} {φ : Nat → Option Addr} {B Bf : Hp} {ρ : Env} {S : List Ob} {σ : L2.St} {Hf H : Hp} (M : MSR K φ B Bf O ρ S σ Hf H) (L : List Nat) (hL : L.all (O.contains ·) = true) : ∃ Hf1, Same Hf Hf1 ∧ MSR K φ B Bf L ρ S σ Hf1 H := by
  obtain ⟨Hf1, s1, S1⟩ := M.sr.weak L hL
  exact ⟨Hf1, s1, M.step S1⟩
end
end FL
namespace FL
variable [HW]
open PySem PySem.Spec L2

/-! ### behind a def, ahead of a def -/
section
variable {K : PySem.W.Frag} {φ φ1 : Nat → Option Addr} {B Bf : Hp} {O : List Nat} {ρ : Env} {S S1 : List Ob} {σ : L2.St} {Hf H Hf1 H1 : Hp}
theorem MDone.bas (D : MDone K φ B Bf S Hf H) : Same (bas φ S B Hf H) H := fun a o e => by
  by_cases h : ObAt φ S a
  · rw [bas_at h] at e; exact e
  · rw [bas_no h] at e
    split at e
    · rename_i o' hb
      cases e
      exact D.fb _ _ hb
    · exact D.sub _ _ e
theorem MDone.msr (D : MDone K φ B Bf S Hf H) (len : ρ.length = σ.length) (val : ∀ i d, ρ[i]? = some (some d) → i ∉ O → ∃ v, σ[i]? = some (some v) ∧ Rp K φ Hf d v)
    (own : ∀ i d, ρ[i]? = some (some d) → i ∈ O → ∃ a xs vs, d = .lst xs ∧ σ[i]? = some (some (.ref a)) ∧ H a = some (.lst vs) ∧ Hf a = none ∧ B a = none ∧ ¬ ObAt φ S a ∧ RpAll K φ Hf xs vs)
    (ne : ∀ i j d e a, ρ[i]? = some (some d) → ρ[j]? = some (some e) → i ∈ O → j ∈ O → i ≠ j → σ[i]? = some (some (.ref a)) → σ[j]? ≠ some (some (.ref a))) : MSR K φ B Bf O ρ S σ Hf H := by
  refine ⟨⟨len, D.sub, Same.refl _, D.bas, fun _ _ _ z => z, val, fun i d e m => ?_, ne⟩, D.cl, D.fb, D.fn, D.nb⟩
  obtain ⟨a, xs, vs, q1, q2, q3, q4, q5, q6, r⟩ := own i d e m
  refine ⟨a, xs, vs, q1, q2, q3, q4, ?_, r⟩
  rw [bas_no q6, q5]
  exact q4
theorem MSR.own (M : MSR K φ B Bf O ρ S σ Hf H) : ∀ i d, ρ[i]? = some (some d) → i ∈ O → ∃ a xs vs, d = .lst xs ∧ σ[i]? = some (some (.ref a)) ∧ H a = some (.lst vs) ∧ Hf a = none ∧ B a = none ∧ ¬ ObAt φ S a ∧ RpAll K φ Hf xs vs := fun i d e m => by
  obtain ⟨a, xs, vs, q1, q2, q3, q4, q5, r⟩ := M.sr.own i d e m
  have h : ¬ ObAt φ S a := fun h => by
    rw [bas_at h, q3] at q5; cases q5
  refine ⟨a, xs, vs, q1, q2, q3, q4, ?_, h, r⟩
  rw [bas_no h] at q5
  split at q5
  · cases q5
  · assumption
open Classical in
noncomputable def hid (φ : Nat → Option Addr) (S : List Ob) (H : Hp) : Hp := fun a => if ObAt φ S a then none else H a
theorem hid_at {a : Addr} (h : ObAt φ S a) : hid φ S H a = none := by unfold hid; rw [if_pos h]
theorem hid_no {a : Addr} (h : ¬ ObAt φ S a) : hid φ S H a = H a := by unfold hid; rw [if_neg h]
theorem MSR.hid (M : MSR K φ B Bf O ρ S σ Hf H) : MDone K φ (hid φ S H) Hf S Hf H := by
  refine ⟨M.sub, M.cl, fun a o e => ?_, fun _ _ _ z => z, fun a h => hid_at h⟩
  by_cases h : ObAt φ S a
  · rw [hid_at h] at e; cases e
  · rw [hid_no h] at e; exact e
theorem MSR.called (M : MSR K φ B Bf O ρ S σ Hf H) (e : Ext φ φ1) (s : Same Hf Hf1) (D : MDone K φ1 (FL.hid φ S H) Hf S1 Hf1 H1) : MSR K φ1 B Bf O ρ S1 σ Hf1 H1 := by
  have hb : ∀ a o, B a = some o → FL.hid φ S H a = some o := fun a o q => by
    have h : ¬ ObAt φ S a := fun h => by rw [M.nb a h] at q; cases q
    rw [hid_no h]; exact M.fb _ _ q
  have D' : MDone K φ1 B Bf S1 Hf1 H1 := by
    refine ⟨D.sub, D.cl, fun a o q => D.fb _ _ (hb a o q), fun a o q1 q2 => D.fn a o (hb a o q1) (M.fn a o q1 q2), fun a h => ?_⟩
    have := D.nb a h
    cases hq : B a with
    | none => rfl
    | some o => rw [hb a o hq] at this; cases this
  refine D'.msr M.sr.len (fun i d q n => ?_) (fun i d q m => ?_) M.sr.ne
  · obtain ⟨v, e1, r⟩ := M.sr.val i d q n
    exact ⟨v, e1, (r.ext e).mono s⟩
  · obtain ⟨a, xs, vs, q1, q2, q3, q4, q5, q6, r⟩ := M.own i d q m
    have h3 : FL.hid φ S H a = some (.lst vs) := by rw [hid_no q6]; exact q3
    exact ⟨a, xs, vs, q1, q2, D.fb _ _ h3, D.fn _ _ h3 q4, q5, fun z => (by rw [D.nb a z] at h3; cases h3), (RpAll.ext e r).mono s⟩
/-! a new object -/
def nphi (φ : Nat → Option Addr) (n : Nat) (x : Addr) : Nat → Option Addr := fun i => if i = n then some x else φ i
theorem nphi_ext {n : Nat} {x : Addr} (h : φ n = none) : Ext φ (nphi φ n x) := fun i a q => by
  unfold nphi
  split
  · rename_i hi; subst hi; rw [h] at q; cases q
  · exact q
theorem MSR.add {o : Ob} {x : Addr} (M : MSR K φ B Bf O ρ S σ Hf H) (h : OAt K φ Hf o (H x)) (hx : Hf x = none) (hB : B x = none) (new : ∀ i, φ i ≠ some x) (hown : ∀ i d, ρ[i]? = some (some d) → i ∈ O → σ[i]? ≠ some (some (.ref x))) :
    Ext φ (nphi φ S.length x) ∧ MSR K (nphi φ S.length x) B Bf O ρ (S ++ [o]) σ Hf H := by
  have ex : Ext φ (nphi φ S.length x) := nphi_ext (M.cl.out _ (Nat.le_refl _))
  refine ⟨ex, ?_⟩
  have lt : ∀ i, i < S.length → nphi φ S.length x i = φ i := fun i hi => by unfold nphi; rw [if_neg (by omega)]
  have at1 : ∀ a, ObAt (nphi φ S.length x) (S ++ [o]) a → ObAt φ S a ∨ a = x := fun a ⟨i, hi, e⟩ => by
    rw [List.length_append] at hi
    by_cases h1 : i < S.length
    · rw [lt i h1] at e; exact .inl ⟨i, h1, e⟩
    · have : i = S.length := by simp at hi; omega
      subst this
      unfold nphi at e
      rw [if_pos rfl] at e
      cases e
      exact .inr rfl
  have D : MDone K (nphi φ S.length x) B Bf (S ++ [o]) Hf H := by
    refine ⟨M.sub, ⟨fun i o e => ?_, fun i j a e1 e2 => ?_, fun i hi => ?_⟩, M.fb, M.fn, fun a ha => ?_⟩
    · by_cases h1 : i < S.length
      · rw [List.getElem?_append_left h1] at e
        obtain ⟨a, q1, q2, q3⟩ := M.cl.at_ i _ e
        exact ⟨a, (lt i h1).trans q1, q2, q3.mono ex (Same.refl _)⟩
      · rw [List.getElem?_append_right (by omega)] at e
        have h2 : i = S.length := by
          have := (List.getElem?_eq_some_iff.mp e).1
          simp at this; omega
        subst h2
        rw [Nat.sub_self] at e
        cases e
        exact ⟨x, by unfold nphi; rw [if_pos rfl], hx, h.mono ex (Same.refl _)⟩
    · unfold nphi at e1 e2
      split at e1
      · cases e1
        split at e2
        · rename_i a b; rw [a, b]
        · exact absurd e2 (new _)
      · split at e2
        · cases e2; exact absurd e1 (new _)
        · exact M.cl.inj _ _ _ e1 e2
    · rw [List.length_append] at hi
      simp at hi
      unfold nphi
      rw [if_neg (by omega)]
      exact M.cl.out _ (by omega)
    · rcases at1 a ha with q | q
      · exact M.nb a q
      · rw [q]; exact hB
  refine D.msr M.sr.len (fun i d q n => ?_) (fun i d q m => ?_) M.sr.ne
  · obtain ⟨v, e1, r⟩ := M.sr.val i d q n
    exact ⟨v, e1, r.ext ex⟩
  · obtain ⟨a, xs, vs, q1, q2, q3, q4, q5, q6, r⟩ := M.own i d q m
    refine ⟨a, xs, vs, q1, q2, q3, q4, q5, fun z => ?_, RpAll.ext ex r⟩
    rcases at1 a z with z | z
    · exact q6 z
    · exact hown i d q m (by rw [← z]; exact q2)
/-! an attribute set anew -/
def stF {α : Type} (f : Str) (v : α) : List Str → List α → List α
  | g :: fs, w :: ws => if g = f then v :: ws else w :: stF f v fs ws
  | _, ws => ws
theorem putF_st (f : Str) (v : V) : ∀ (fs : List Str) (ws : List V), fs.length = ws.length → fs.contains f = true → putF f v (fs.zip ws) = fs.zip (stF f v fs ws)
  | [], _, _, h => by simp at h
  | _ :: _, [], h, _ => by simp at h
  | g :: fs, w :: ws, hl, h => by
    show (if g = f then (g, v) :: fs.zip ws else (g, w) :: putF f v (fs.zip ws)) = (g :: fs).zip (if g = f then v :: ws else w :: stF f v fs ws)
    by_cases e : g = f
    · rw [if_pos e, if_pos e]; rfl
    · rw [if_neg e, if_neg e, putF_st f v fs ws (by simpa using hl) (by simpa [Ne.symm e] using h)]; rfl
theorem stF_len {α : Type} (f : Str) (v : α) : ∀ (fs : List Str) (ws : List α), (stF f v fs ws).length = ws.length
  | [], _ => by unfold stF; rfl
  | _ :: _, [] => rfl
  | g :: fs, w :: ws => by
    unfold stF
    split
    · rfl
    · simp [stF_len f v fs ws]
theorem RpAll.stF {f : Str} {d : D} {v : V} (q : Rp K φ Hf d v) : ∀ (fs : List Str) {xs : List D} {ws : List V}, RpAll K φ Hf xs ws → RpAll K φ Hf (FL.stF f d fs xs) (FL.stF f v fs ws)
  | [], _, _, r => by unfold FL.stF; exact r
  | _ :: _, _, _, .nil => .nil
  | g :: fs, _, _, .cons r t => by
    unfold FL.stF
    split
    · exact .cons q t
    · exact .cons r (RpAll.stF q fs t)
def putO (S : List Ob) (i : Nat) (f : Str) (d : D) : List Ob := match S[i]? with | some o => S.set i ⟨o.k, o.c, o.fs, stF f d o.fs o.xs⟩ | none => S
theorem MSR.put {f : Str} {d : D} {v : V} {i : Nat} {o : Ob} {a dx : Addr} {gs : List (Str × V)} (M : MSR K φ B Bf O ρ S σ Hf H) (ho : S[i]? = some o) (hk : o.k = .ins) (hp : φ i = some a) (h : H a = some (.ins (He.ga K o.c) dx gs)) (hf : o.fs.contains f = true) (r : Rp K φ Hf d v) :
    MSR K φ B Bf O ρ (putO S i f d) σ Hf (upd H a (.ins (He.ga K o.c) dx (putF f v gs))) := by
  obtain ⟨a', q1, q3, q0⟩ := M.cl.at_ i o ho
  rw [hp] at q1
  cases q1
  obtain ⟨dx', vs, q2, q4, q5⟩ := q0.ins hk
  rw [h] at q2
  cases q2
  have hi : i < S.length := (List.getElem?_eq_some_iff.mp ho).1
  have hat : ObAt φ S a := ⟨i, hi, hp⟩
  unfold putO
  rw [ho]
  have len : (S.set i ⟨o.k, o.c, o.fs, FL.stF f d o.fs o.xs⟩).length = S.length := List.length_set
  have D : MDone K φ B Bf (S.set i ⟨o.k, o.c, o.fs, FL.stF f d o.fs o.xs⟩) Hf (upd H a (.ins (He.ga K o.c) dx (putF f v (o.fs.zip vs)))) := by
    refine ⟨fun b u e => ?_, ⟨fun j o' e => ?_, M.cl.inj, fun j hj => M.cl.out j (by rw [len] at hj; exact hj)⟩, fun b u e => ?_, M.fn, fun b ⟨j, hj, e⟩ => M.nb b ⟨j, by rw [len] at hj; exact hj, e⟩⟩
    · have hb : b ≠ a := by rintro rfl; rw [q3] at e; cases e
      rw [upd_ne hb]; exact M.sub _ _ e
    · by_cases hji : j = i
      · subst hji
        rw [List.getElem?_set_self hi] at e
        cases e
        refine ⟨a, hp, q3, ?_⟩
        rw [hk]
        refine .mk_ins (vs := FL.stF f v o.fs vs) (dx := dx) ?_ (by rw [stF_len]; exact q4) (RpAll.stF r _ q5)
        rw [upd_same, putF_st f v _ _ q4 hf]
      · rw [List.getElem?_set_ne (Ne.symm hji)] at e
        obtain ⟨b, p1, p2, p3⟩ := M.cl.at_ j o' e
        refine ⟨b, p1, p2, ?_⟩
        have hb : b ≠ a := by rintro rfl; exact hji (M.cl.inj _ _ _ p1 hp)
        rw [upd_ne hb]; exact p3
    · have hb : b ≠ a := by rintro rfl; rw [M.nb _ hat] at e; cases e
      rw [upd_ne hb]; exact M.fb _ _ e
  refine D.msr M.sr.len M.sr.val (fun j d' q m => ?_) M.sr.ne
  obtain ⟨b, xs, ws, p1, p2, p3, p4, p5, p6, r'⟩ := M.own j d' q m
  have hb : b ≠ a := by rintro rfl; rw [h] at p3; cases p3
  exact ⟨b, xs, ws, p1, p2, by rw [upd_ne hb]; exact p3, p4, p5, fun ⟨j, hj, e⟩ => p6 ⟨j, by rw [len] at hj; exact hj, e⟩, r'⟩
end
end FL
namespace FL
variable [HW]
open PySem PySem.Spec L2

/-! ### arguments -/
def MA (X : Cx) (O : List Nat) (es : List Expr) (F : Env → List Ob → Option (List D × List Ob)) : Prop :=
  ∀ (φ : Nat → Option Addr) (B Bf : Hp) (ρ : Env) (S : List Ob) (σ : L2.St) (Hf H : Hp) (ds : List D) (S' : List Ob) (Q : List V → Hp → Prop), MSR X.K φ B Bf O ρ S σ Hf H → F ρ S = some (ds, S') →
    (∀ φ' vs Hf' H', Ext φ φ' → Same Hf Hf' → MSR X.K φ' B Bf O ρ S' σ Hf' H' → RpAll X.K φ' Hf' ds vs → Q vs H') → wA X es σ H Q
def qPure (F : Env → Option D) : Env → List Ob → Option (D × List Ob) := fun ρ S => match F ρ with | some d => some (d, S) | none => none
def qPureA (F : Env → Option (List D)) : Env → List Ob → Option (List D × List Ob) := fun ρ S => match F ρ with | some d => some (d, S) | none => none
def qNil : Env → List Ob → Option (List D × List Ob) := fun ρ S => some ([], S)
def qCons (F : Env → List Ob → Option (D × List Ob)) (G : Env → List Ob → Option (List D × List Ob)) : Env → List Ob → Option (List D × List Ob) := fun ρ S => match F ρ S with | some (d, S1) => (match G ρ S1 with | some (ds, S2) => some (d :: ds, S2) | none => none) | none => none
section
variable {X : Cx} {O : List Nat} {e : Expr} {es : List Expr} {F : Env → Option D} {Fs : Env → Option (List D)} {M1 : Env → List Ob → Option (D × List Ob)} {A1 : Env → List Ob → Option (List D × List Ob)}
theorem MSR.gr {K : PySem.W.Frag} {φ : Nat → Option Addr} {B Bf : Hp} {ρ : Env} {S : List Ob} {σ : L2.St} {Hf H Hf1 H1 : Hp} (M : MSR K φ B Bf O ρ S σ Hf H) (g : Gr Hf H Hf1 H1) : MSR K φ B Bf O ρ S σ Hf1 H1 := M.step (M.sr.gr g)
end
/-! ### the promise of a def that changes objects -/
def spE (K : PySem.W.Frag) (n : Nat) (mir : List D → List Ob → Option (D × List Ob)) : Sp := fun vs H Q _ => ∃ (φ : Nat → Option Addr) (B Bf : Hp) (S : List Ob) (Hf : Hp) (ds : List D) (d : D) (S' : List Ob), MDone K φ B Bf S Hf H ∧ RpAll K φ Hf ds vs ∧ ds.length = n ∧ mir ds S = some (d, S') ∧
  ∀ φ' v Hf' H', Ext φ φ' → Same Hf Hf' → MDone K φ' B Bf S' Hf' H' → Rp K φ' Hf' d v → Q v H'
def runM (N n : Nat) (G : Env → List Ob → Option MOut) (ds : List D) (S : List Ob) : Option (D × List Ob) := match G (envOf N n ds) S with
  | some (.rt d S') => some (d, S')
  | some (.nx _ S') => some (.non, S')
  | none => none
structure CalE (P : Program) (w : World) (K : PySem.W.Frag) (mg : Str → Option Value) (base : Heap) (k : Nat) (x : Str) (n : Nat) (mir : List D → List Ob → Option (D × List Ob)) : Prop where
  ok : ∃ (f : Addr) (fd : FuncData) (ps : List Str), FnOk P w K mg base CX0 k f fd ps (spE K n mir) ∧ mg x = some (.ref f) ∧ PySem.W.keepIn K (.ref f) = true ∧ Binds K fd ps []
structure CalME (P : Program) (w : World) (K : PySem.W.Frag) (mg : Str → Option Value) (base : Heap) (k : Nat) (c m : Str) (n : Nat) (mir : List D → List Ob → Option (D × List Ob)) : Prop where
  ok : ∃ (f : Addr) (fd : FuncData) (ps : List Str), FnOk P w K mg base CX0 k f fd ps (spE K n mir) ∧ Cls K (He.ga K c) ∧ Meth K (He.ga K c) m f ∧ Binds K fd ps []
section
variable {P : Program} {w : World} {K : PySem.W.Frag} {mg : Str → Option Value} {base : Heap} {k : Nat} {a : Addr} {ps N : List Str} {x q c m : Str} {st : Stmt} {G : Env → List Ob → Option MOut} {dvs : List V} {kws : List (Str × V)}
end
/-! ### calls -/
section
variable {X : Cx} {O : List Nat} {e o : Expr} {es : List Expr} {c m x f : Str} {p pos apos pos' : Pos} {Fo : Env → Option D} {A1 : Env → List Ob → Option (List D × List Ob)} {M1 : Env → List Ob → Option (D × List Ob)} {k j n i : Nat} {fs : List Str} {mi : List D → Option (List D)} {mir : List D → List Ob → Option (D × List Ob)}
def mNew (c : Str) (fs : List Str) (n : Nat) (mi : List D → Option (List D)) (A : Env → List Ob → Option (List D × List Ob)) : Env → List Ob → Option (D × List Ob) := fun ρ S => match A ρ S with
  | some (ds, S1) => if ds.length = n then (match mi ds with | some xs => some (.obj S1.length, S1 ++ [⟨.ins, c, fs, xs⟩]) | none => none) else none
  | none => none
def mCall (n : Nat) (mir : List D → List Ob → Option (D × List Ob)) (A : Env → List Ob → Option (List D × List Ob)) : Env → List Ob → Option (D × List Ob) := fun ρ S => match A ρ S with
  | some (ds, S1) => if ds.length = n then mir ds S1 else none
  | none => none
theorem MSR.into {K : PySem.W.Frag} {φ : Nat → Option Addr} {B Bf : Hp} {ρ : Env} {S S' : List Ob} {σ : L2.St} {Hf H : Hp} {ds : List D} {vs : List V} {d : D} {Q : VK} {E : XK} (M : MSR K φ B Bf O ρ S σ Hf H) (r : RpAll K φ Hf ds vs) (hl : ds.length = n) (hm : mir ds S = some (d, S'))
    (k : ∀ φ' v Hf' H', Ext φ φ' → Same Hf Hf' → MSR K φ' B Bf O ρ S' σ Hf' H' → Rp K φ' Hf' d v → Q v H') : spE K n mir vs H Q E :=
  ⟨φ, FL.hid φ S H, Hf, S, Hf, ds, d, S', M.hid, r, hl, hm, fun φ' v Hf' H' e s D r' => k φ' v Hf' H' e s (M.called e s D) r'⟩
def mMe (c m : Str) (n : Nat) (mir : List D → List Ob → Option (D × List Ob)) (Fo : Env → Option D) (A : Env → List Ob → Option (List D × List Ob)) : Env → List Ob → Option (D × List Ob) := fun ρ S => match Fo ρ with
  | some (.obj i) => (match S[i]? with
    | some o => if o.k = .ins ∧ o.c = c ∧ o.fs.contains m = false then (match A ρ S with
      | some (ds, S1) => if ds.length + 1 = n then mir (.obj i :: ds) S1 else none
      | none => none) else none
    | none => none)
  | _ => none
/-! ### statements -/
def mPut (c f : Str) (Fo : Env → Option D) (M1 : Env → List Ob → Option (D × List Ob)) : Env → List Ob → Option MOut := fun ρ S => match M1 ρ S with
  | some (d, S1) => (match Fo ρ with
    | some (.obj i) => (match S1[i]? with | some o => if o.k = .ins ∧ o.c = c ∧ o.fs.contains f = true ∧ o.fs.length < 1000 then some (.nx ρ (putO S1 i f d)) else none | none => none)
    | _ => none)
  | none => none
/-! x op= e, the class says how -/
def ipMe (K : PySem.W.Frag) (c : Str) (mir : List D → List Ob → Option (D × List Ob)) : TIp := fun x y H Q => ∃ a dx gs, x = .ref a ∧ H a = some (.ins (He.ga K c) dx gs) ∧ spE K 2 mir [x, y] H Q fun _ _ _ => False
def mAug (i : Nat) (c : Str) (mir : List D → List Ob → Option (D × List Ob)) (M1 : Env → List Ob → Option (D × List Ob)) : Env → List Ob → Option MOut := fun ρ S => match ρ[i]? with
  | some (some (.obj t)) => (match M1 ρ S with
    | some (y, S1) => (match S1[t]? with
      | some o => if o.k = .ins ∧ o.c = c then (match mir [.obj t, y] S1 with | some (d, S2) => some (.nx (ρ.set i (some d)) S2) | none => none) else none
      | none => none)
    | none => none)
  | _ => none
end
/-! ### the law's end -/
end FL
namespace FL
variable [HW]
open PySem PySem.Spec PyProof.Rows L2

/-! ### *o, o an object of our own with __len__ whose __iter__ returns a tuple's iterator -/
section
variable {X : Cx} {pins : List (Addr × Obj)} {σ : L2.St} {c g : Str} {j k : Nat} {mir : List D → Option D}
variable {O : List Nat} {e : Expr} {es : List Expr} {F : Env → Option D} {Fs : Env → Option (List D)}
def aStarI (c g : Str) (mir : List D → Option D) (F : Env → Option D) (Fs : Env → Option (List D)) : Env → Option (List D) := fun ρ => match F ρ with
  | some d => (match fldD c g d with
    | some (.tup xs) => (match mir [d] with
      | some (.int n) => if 0 ≤ n ∧ n ≤ 1000 ∧ xs.length < 1000 then (match Fs ρ with | some ds => some (xs ++ ds) | none => none) else none
      | _ => none)
    | _ => none)
  | none => none
end
end FL
namespace FL
variable [HW]
open PySem PySem.Spec L2
section
variable {X : Cx} {O O' O1 : List Nat} {st : Stmt} {G : Env → List Ob → Option MOut}
end
end FL
namespace FL
variable [HW]
open PySem PySem.Spec L2

/-! ### lists that change -/
section
variable {X : Cx} {O O' : List Nat} {e o : Expr} {es : List Expr} {F Fo : Env → Option D} {p pos : Pos} {k : Nat} {M1 : Env → List Ob → Option (D × List Ob)} {A1 : Env → List Ob → Option (List D × List Ob)}
def mLst (F : Env → Option D) : Env → List Ob → Option (D × List Ob) := fun ρ S => match F ρ with
  | some (.lst xs) => some (.obj S.length, S ++ [⟨.lst, "", [], xs⟩])
  | _ => none
/-! ### a look whose value is a new list -/
def qSnapN (F : Env → Option D) : Env → List Ob → Option (D × List Ob) := fun ρ S => match F (ρ.map (shw S)) with | some (.lst xs) => if noInss xs = true then some (.lst xs, S) else none | _ => none
/-! ### loops -/
def mLoop (g : D → Env → Option Env) (G : Env → List Ob → Option MOut) : List D → Env → List Ob → Option MOut
  | [], ρ, S => some (.nx ρ S)
  | d :: ds, ρ, S => match g d ρ with
    | none => none
    | some ρ1 => match G ρ1 S with
      | some (.nx ρ2 S2) => mLoop g G ds ρ2 S2
      | some (.rt d S2) => some (.rt d S2)
      | none => none
def mFor (Fi : Env → Option (List D)) (g : D → Env → Option Env) (G : Env → List Ob → Option MOut) : Env → List Ob → Option MOut := fun ρ S => match Fi ρ with | some ds => mLoop g G ds ρ S | none => none
end
end FL
namespace FL
variable [HW]
open PySem PySem.Spec L2

/-! ### lists that change in place -/
theorem OAt.lst {K : PySem.W.Frag} {φ : Nat → Option Addr} {Hf : Hp} {o : Ob} {x : Option HO} (h : OAt K φ Hf o x) (hk : o.k = .lst) : ∃ vs, x = Option.some (.lst vs) ∧ RpAll K φ Hf o.xs vs := by
  obtain ⟨vs, r, q⟩ := h
  rw [hk] at q
  exact ⟨vs, q, r⟩
section
variable {K : PySem.W.Frag} {φ : Nat → Option Addr} {B Bf : Hp} {O : List Nat} {ρ : Env} {S : List Ob} {σ : L2.St} {Hf H : Hp}
def setL (S : List Ob) (i : Nat) (ys : List D) : List Ob := match S[i]? with | some o => S.set i ⟨o.k, o.c, o.fs, ys⟩ | none => S
end
section
variable {X : Cx} {O : List Nat} {e : Expr} {es : List Expr} {pos : Pos} {A1 : Env → List Ob → Option (List D × List Ob)}
def mMut (i : Nat) (f : List D → List D → Option (List D)) (A : Env → List Ob → Option (List D × List Ob)) : Env → List Ob → Option MOut := fun ρ S => match ρ[i]? with
  | some (some (.obj t)) => (match S[t]? with
    | some o => if o.k = .lst then (match A ρ S with
      | some (ds, S1) => (match S1[t]? with
        | some o1 => if o1.k = .lst then (match f o1.xs ds with | some ys => some (.nx ρ (setL S1 t ys)) | none => none) else none
        | none => none)
      | none => none) else none
    | none => none)
  | _ => none
def mPutI (i : Nat) (Fi : Env → Option D) (M1 : Env → List Ob → Option (D × List Ob)) : Env → List Ob → Option MOut := fun ρ S => match M1 ρ S with
  | some (d, S1) => (match Fi ρ with
    | some (.int k) => (match ρ[i]? with
      | some (some (.obj t)) => (match S1[t]? with
        | some o => if o.k = .lst then (match ixN o.xs.length k with | some j => some (.nx ρ (setL S1 t (o.xs.set j d))) | none => none) else none
        | none => none)
      | _ => none)
    | _ => none)
  | none => none
def mMutE (M0 : Env → List Ob → Option (D × List Ob)) (f : List D → List D → Option (List D)) (A : Env → List Ob → Option (List D × List Ob)) : Env → List Ob → Option MOut := fun ρ S => match M0 ρ S with
  | some (.obj t, S0) => (match S0[t]? with
    | some o => if o.k = .lst then (match A ρ S0 with
      | some (ds, S1) => (match S1[t]? with
        | some o1 => if o1.k = .lst then (match f o1.xs ds with | some ys => some (.nx ρ (setL S1 t ys)) | none => none) else none
        | none => none)
      | none => none) else none
    | none => none)
  | _ => none
end
end FL
namespace FL
variable [HW]
open PySem PySem.Spec L2

/-! ### dicts with text keys: their words -/
section
variable {α β : Type}
def dget (k : Str) : List Str → List α → Option α
  | g :: gs, x :: xs => if g = k then some x else dget k gs xs
  | _, _ => none
def dhas (k : Str) : List Str → Bool
  | [] => false
  | g :: gs => if g = k then true else dhas k gs
def rplX (k : Str) (d : α) : List Str → List α → List α
  | g :: gs, x :: xs => (if g = k then d else x) :: rplX k d gs xs
  | _, xs => xs
def dputK (ks : List Str) (k : Str) : List Str := if dhas k ks = true then ks else ks ++ [k]
def dputX (k : Str) (d : α) (ks : List Str) (xs : List α) : List α := if dhas k ks = true then rplX k d ks xs else xs ++ [d]
def ddelK (k : Str) : List Str → List Str
  | [] => []
  | g :: gs => if g = k then ddelK k gs else g :: ddelK k gs
def ddelX (k : Str) : List Str → List α → List α
  | g :: gs, x :: xs => if g = k then ddelX k gs xs else x :: ddelX k gs xs
  | _, _ => []
abbrev kz (ks : List Str) (xs : List α) : List (Key × α) := (ks.map Sum.inr).zip xs
end
section
variable {K : PySem.W.Frag} {φ : Nat → Option Addr} {H : Hp}
theorem RpAll.dget (k : Str) : ∀ (ks : List Str) {xs : List D} {vs : List V}, RpAll K φ H xs vs → (∀ d, FL.dget k ks xs = some d → ∃ v, FL.dget k ks vs = some v ∧ Rp K φ H d v) ∧ (FL.dget k ks xs = none → FL.dget k ks vs = none)
  | [], _, _, r => by unfold FL.dget; exact ⟨fun _ h => (nomatch h), fun _ => rfl⟩
  | _ :: _, _, _, .nil => by unfold FL.dget; exact ⟨fun _ h => (nomatch h), fun _ => rfl⟩
  | g :: gs, _, _, .cons r t => by
    unfold FL.dget
    by_cases e : g = k
    · rw [if_pos e, if_pos e]; exact ⟨fun d h => by cases h; exact ⟨_, rfl, r⟩, fun h => nomatch h⟩
    · rw [if_neg e, if_neg e]; exact RpAll.dget k gs t
theorem RpAll.rplX {k : Str} {d : D} {v : V} (q : Rp K φ H d v) : ∀ (ks : List Str) {xs : List D} {vs : List V}, RpAll K φ H xs vs → RpAll K φ H (FL.rplX k d ks xs) (FL.rplX k v ks vs)
  | [], _, _, r => by unfold FL.rplX; exact r
  | _ :: _, _, _, .nil => .nil
  | g :: gs, _, _, .cons r t => by
    unfold FL.rplX
    split
    · exact .cons q (RpAll.rplX q gs t)
    · exact .cons r (RpAll.rplX q gs t)
theorem RpAll.dputX {k : Str} {d : D} {v : V} (q : Rp K φ H d v) {ks : List Str} {xs : List D} {vs : List V} (r : RpAll K φ H xs vs) : RpAll K φ H (FL.dputX k d ks xs) (FL.dputX k v ks vs) := by
  unfold FL.dputX
  split
  · exact r.rplX q ks
  · exact r.append (.one q)
theorem RpAll.ddelX {k : Str} : ∀ (ks : List Str) {xs : List D} {vs : List V}, RpAll K φ H xs vs → RpAll K φ H (FL.ddelX k ks xs) (FL.ddelX k ks vs)
  | [], _, _, r => by unfold FL.ddelX; exact .nil
  | _ :: _, _, _, .nil => by unfold FL.ddelX; exact .nil
  | g :: gs, _, _, .cons r t => by
    unfold FL.ddelX
    split
    · exact RpAll.ddelX gs t
    · exact .cons r (RpAll.ddelX gs t)
end
/-! ### a dict that is not changed any more -/
def dgetD (x y : D) : Option D := match x, y with | .dct ks xs, .str k => dget k ks xs | _, _ => none
def dget1D (x y : D) : Option D := match x, y with | .dct ks xs, .str k => (match dget k ks xs with | some d => some d | none => if dhas k ks = false then some .non else none) | _, _ => none
def dinD (neg : Bool) (y x : D) : Option D := match x, y with | .dct ks xs, .str k => some (.bl (if neg = true then !dhas k ks else dhas k ks)) | _, _ => none
section
variable {X : Cx} {O : List Nat} {o i e : Expr} {F G : Env → Option D} {p pos apos cpos : Pos}
end
/-! ### new dicts -/
def FD (X : Cx) (O : List Nat) (e : Expr) (F : Env → Option D) : Prop :=
  ∀ (φ : Nat → Option Addr) (Hf0 H0 : Hp) (ρ : Env) (σ : L2.St) (Hf H : Hp) (d : D) (Q : VK), SR X.K φ Hf0 H0 O ρ σ Hf H → F ρ = some d →
    (∀ a ks xs vs Hf' H', d = .dct ks xs → Gr Hf H Hf' H' → H a = none → Hf' a = none → H' a = some (.dK (kz ks vs)) → ks.length = vs.length → RpAll X.K φ Hf' xs vs → Q (.ref a) H') → wE X e σ H Q
def dcL (g : D → Env → Option Env) (T : Env → Option Bool) (Kf E : Env → Option D) (ρ : Env) : List D → List Str → List D → Option (List Str × List D)
  | [], ks, xs => some (ks, xs)
  | d :: ds, ks, xs => match g d ρ with
    | none => none
    | some ρ1 => match T ρ1 with
      | none => none
      | some false => dcL g T Kf E ρ ds ks xs
      | some true => match Kf ρ1 with
        | some (.str k) => (match E ρ1 with
          | some y => if ks.length < 1000 then dcL g T Kf E ρ ds (dputK ks k) (dputX k y ks xs) else none
          | none => none)
        | _ => none
def eDc (vs : List Nat) (Fi : Env → Option (List D)) (g : D → Env → Option Env) (T : Env → Option Bool) (Kf E : Env → Option D) : Env → Option D := fun ρ => match Fi ρ with
  | some ds => if ds.length < 1000000 then (match dcL g T Kf E (wipeE ρ vs) ds [] [] with | some (ks, xs) => some (.dct ks xs) | none => none) else none
  | none => none
section
variable {X : Cx} {O O2 : List Nat} {tg iter kx elt : Expr} {scope : Scope} {own : List (Str × Nat)} {pos : Pos}
end
section
variable {X : Cx} {O : List Nat} {e : Expr} {F : Env → Option D} {pos : Pos}
def mDct (F : Env → Option D) : Env → List Ob → Option (D × List Ob) := fun ρ S => match F ρ with
  | some (.dct ks xs) => some (.obj S.length, S ++ [⟨.dic, "", ks, xs⟩])
  | _ => none
def qSnapD (F : Env → Option D) : Env → List Ob → Option (D × List Ob) := fun ρ S => match F (ρ.map (shw S)) with | some (.dct ks xs) => if noInss xs = true then some (.dct ks xs, S) else none | _ => none
end
end FL
namespace FL
variable [HW]
open PySem PySem.Spec L2

/-! ### tests, calls and loops over what changes objects -/
section
variable {X : Cx} {O O' O1 : List Nat} {e a b tg iter : Expr} {es rest : List Expr} {T : Env → Option Bool} {p pos : Pos} {M1 M2 : Env → List Ob → Option (D × List Ob)} {T1 T2 : Env → List Ob → Option (Bool × List Ob)} {A1 : Env → List Ob → Option (List D × List Ob)} {x : Str} {n j k : Nat}
def qTp (T : Env → Option Bool) : Env → List Ob → Option (Bool × List Ob) := fun ρ S => match T ρ with | some b => some (b, S) | none => none
def qBl (M1 : Env → List Ob → Option (D × List Ob)) : Env → List Ob → Option (Bool × List Ob) := fun ρ S => match M1 ρ S with | some (.bl b, S') => some (b, S') | _ => none
def qNot (T1 : Env → List Ob → Option (Bool × List Ob)) : Env → List Ob → Option (Bool × List Ob) := fun ρ S => match T1 ρ S with | some (b, S') => some (!b, S') | none => none
def MW (X : Cx) (O : List Nat) (e : Expr) (F : Env → List Ob → Option (Bool × List Ob)) : Prop :=
  ∃ t : TT, PW X e t ∧ ∀ (φ : Nat → Option Addr) (B Bf : Hp) (ρ : Env) (S : List Ob) (σ : L2.St) (Hf H : Hp) (b : Bool) (S' : List Ob) (Q : Bool → Hp → Prop), MSR X.K φ B Bf O ρ S σ Hf H → F ρ S = some (b, S') →
    (∀ φ' Hf' H', Ext φ φ' → Same Hf Hf' → MSR X.K φ' B Bf O ρ S' σ Hf' H' → Q b H') → t σ H Q
def qAnd (T1 T2 : Env → List Ob → Option (Bool × List Ob)) : Env → List Ob → Option (Bool × List Ob) := fun ρ S => match T1 ρ S with | some (true, S') => T2 ρ S' | some (false, S') => some (false, S') | none => none
def qOr (T1 T2 : Env → List Ob → Option (Bool × List Ob)) : Env → List Ob → Option (Bool × List Ob) := fun ρ S => match T1 ρ S with | some (false, S') => T2 ρ S' | some (true, S') => some (true, S') | none => none
/-! a def that changes nothing, called with what changes objects -/
def pMir (m : List D → Option D) : List D → List Ob → Option (D × List Ob) := fun ds S => match m ds with | some d => some (d, S) | none => none
/-! what is walked -/
def MI (X : Cx) (O : List Nat) (tg iter : Expr) (F : Env → List Ob → Option (List D × List Ob)) : Prop :=
  ∀ (φ : Nat → Option Addr) (B Bf : Hp) (ρ : Env) (S : List Ob) (σ : L2.St) (Hf H : Hp) (ds : List D) (S' : List Ob) (R : It → Hp → Prop), MSR X.K φ B Bf O ρ S σ Hf H → F ρ S = some (ds, S') →
    (∀ φ' J Hf' H', Ext φ φ' → Same Hf Hf' → MSR X.K φ' B Bf O ρ S' σ Hf' H' → ItD X.K φ' Hf' ds J → R J H') → wI X tg iter σ H R
def jPure (Fi : Env → Option (List D)) : Env → List Ob → Option (List D × List Ob) := fun ρ S => match Fi ρ with | some ds => some (ds, S) | none => none
def jSeq (p : D → Bool) (M1 : Env → List Ob → Option (D × List Ob)) : Env → List Ob → Option (List D × List Ob) := fun ρ S => match M1 ρ S with | some (d, S') => if p d = true then (match seqD d with | some ds => some (ds, S') | none => none) else none | none => none
def mForM (Fi : Env → List Ob → Option (List D × List Ob)) (g : D → Env → Option Env) (G : Env → List Ob → Option MOut) : Env → List Ob → Option MOut := fun ρ S => match Fi ρ S with | some (ds, S1) => mLoop g G ds ρ S1 | none => none
end
section
variable {X : Cx} {O : List Nat} {e o : Expr} {es : List Expr} {c m x f : Str} {p pos apos pos' : Pos} {Fo : Env → Option D} {A1 : Env → List Ob → Option (List D × List Ob)} {M1 : Env → List Ob → Option (D × List Ob)} {k j n i : Nat} {fs : List Str} {mi : List D → Option (List D)} {mir : List D → List Ob → Option (D × List Ob)}
end
/-! a list of our own becomes a list that changes -/
section
variable {X : Cx} {O O1 : List Nat} {st : Stmt} {G : Env → List Ob → Option MOut}
def mProm (i : Nat) (G : Env → List Ob → Option MOut) : Env → List Ob → Option MOut := fun ρ S => match G ρ S with
  | some (.nx ρ1 S1) => (match ρ1[i]? with | some (some (.lst xs)) => some (.nx (ρ1.set i (some (.obj S1.length))) (S1 ++ [⟨.lst, "", [], xs⟩])) | _ => none)
  | _ => none
def mEx (M1 : Env → List Ob → Option (D × List Ob)) : Env → List Ob → Option MOut := fun ρ S => match M1 ρ S with | some (_, S') => some (.nx ρ S') | none => none
end
end FL
namespace FL
variable [HW]
open PySem PySem.Spec L2

/-! ### steps of mirrors over objects -/
section
variable {A B : Env → Option Out} {T : Env → Option Bool} {F Fo Fi : Env → Option D} {G A1 B1 : Env → List Ob → Option MOut} {F1 : Env → List Ob → Option (D × List Ob)} {T1 : Env → List Ob → Option (Bool × List Ob)} {ρ ρ' : Env} {S S1 S2 : List Ob} {d y : D} {i t : Nat} {o : Option MOut} {vs : List Nat} {b : Bool}
end
/-! dicts -/
end FL
namespace FL
variable [HW]
open PySem PySem.Spec L2

/-! ### a look that goes through objects -/
def shd (S : List Ob) : Nat → D → D
  | n + 1, .obj i => (match S[i]? with
    | some ⟨.ins, c, fs, xs⟩ => .ins c fs (xs.map (shd S n))
    | some ⟨.lst, _, _, xs⟩ => .lst (xs.map (shd S n))
    | some ⟨.dic, _, fs, xs⟩ => .dct fs (xs.map (shd S n))
    | some ⟨.dkt, _, _, xs⟩ => .dkt false (xs.take (xs.length / 2)) ((xs.drop (xs.length / 2)).map (shd S n))
    | none => .obj i)
  | _, d => d
def shE (S : List Ob) : Option D → Option D | some d => some (shd S 6 d) | none => none
section
variable {K : PySem.W.Frag} {φ : Nat → Option Addr} {B Bf : Hp} {O : List Nat} {ρ : Env} {S : List Ob} {σ : L2.St} {Hf H Hf' H' : Hp}
theorem OAt.dic {o : Ob} {x : Option HO} (h : OAt K φ Hf o x) (hk : o.k = .dic) : ∃ vs, x = Option.some (.dK (kz o.fs vs)) ∧ o.fs.length = vs.length ∧ RpAll K φ Hf o.xs vs := by
  obtain ⟨vs, r, q⟩ := h
  rw [hk] at q
  exact ⟨vs, q.2, q.1, r⟩
theorem MSR.s1 (M : MSR K φ B Bf O ρ S σ Hf H) : Same Hf (fzc φ S Hf H) := fun a o e => by
  by_cases h : ObAt φ S a
  · obtain ⟨_, _, e2, _⟩ := M.cl.get h
    rw [e2] at e; cases e
  · rw [fzc_no h]; exact e
mutual
theorem Rp.shd (M : MSR K φ B Bf O ρ S σ Hf H) : ∀ (n : Nat) {d : D} {v : V}, Rp K φ Hf d v → Rp K φ (fzc φ S Hf H) (FL.shd S n d) v
  | 0, d, v, r => by unfold FL.shd; exact r.mono M.s1
  | n + 1, d, v, r => by
    cases r with
    | @obj i a h =>
      unfold FL.shd
      split
      · rename_i c fs xs ho
        obtain ⟨a', q1, q2, q3⟩ := M.cl.at_ _ _ ho
        rw [h] at q1
        cases q1
        obtain ⟨dx, vs, z1, z2, z3⟩ := q3.ins rfl
        exact .ins ((fzc_at ⟨_, (List.getElem?_eq_some_iff.mp ho).1, h⟩).trans z1) z2 (RpAll.shd M n z3)
      · rename_i c fs xs ho
        obtain ⟨a', q1, q2, q3⟩ := M.cl.at_ _ _ ho
        rw [h] at q1
        cases q1
        obtain ⟨vs, z2, z1⟩ := q3.lst rfl
        exact .lst ((fzc_at ⟨_, (List.getElem?_eq_some_iff.mp ho).1, h⟩).trans z2) (RpAll.shd M n z1)
      · rename_i c fs xs ho
        obtain ⟨a', q1, q2, q3⟩ := M.cl.at_ _ _ ho
        rw [h] at q1
        cases q1
        obtain ⟨vs, z2, z3, z1⟩ := q3.dic rfl
        exact .dct (.inl ((fzc_at ⟨_, (List.getElem?_eq_some_iff.mp ho).1, h⟩).trans z2)) z3 (RpAll.shd M n z1)
      · rename_i c fs xs ho
        obtain ⟨a', q1, q2, q3⟩ := M.cl.at_ _ _ ho
        rw [h] at q1
        cases q1
        obtain ⟨vs, r, b, ks, ds, ns, as, ws, us, e1, e2, e3, e4, e5, e6, e7, e8, e9, e10⟩ := q3
        have e2 : xs = ks ++ ds := e2
        have hr : RpAll K φ Hf xs vs := r
        subst e2 e3
        have hl : (ks ++ ds).length / 2 = ks.length := by rw [List.length_append]; omega
        rw [hl, List.take_left, List.drop_left]
        obtain ⟨r1, r2⟩ := RpAll.split (by rw [List.length_map]; exact e5) hr
        exact .dkt (fz := false) (.inl ((fzc_at ⟨_, (List.getElem?_eq_some_iff.mp ho).1, h⟩).trans e1)) e6 e7 e8 (by rw [List.length_map]; exact e4) e9 e10 (r1.mono M.s1) (RpAll.shd M n r2)
      · exact .obj h
    | non => exact .non
    | bl b => exact .bl b
    | int i => exact .int i
    | str x => exact .str x
    | tup s r => exact (Rp.tup s r).mono M.s1
    | lst s r => exact (Rp.lst s r).mono M.s1
    | klst s r => exact (Rp.klst s r).mono M.s1
    | ins s l r => exact (Rp.ins s l r).mono M.s1
    | dct s l r => exact (Rp.dct s l r).mono M.s1
    | dkt s a b c d f g r t => exact (Rp.dkt s a b c d f g r t).mono M.s1
    | xtp s p r => exact (Rp.xtp s p r).mono M.s1
theorem RpAll.shd (M : MSR K φ B Bf O ρ S σ Hf H) : ∀ (n : Nat) {ds : List D} {vs : List V}, RpAll K φ Hf ds vs → RpAll K φ (fzc φ S Hf H) (ds.map (FL.shd S n)) vs
  | _, _, _, .nil => .nil
  | n, _, _, .cons r t => .cons (Rp.shd M n r) (RpAll.shd M n t)
end
end
section
variable {X : Cx} {O : List Nat} {e c : Expr} {F : Env → Option D} {T : Env → Option Bool}
def qLk (F : Env → Option D) : Env → List Ob → Option (D × List Ob) := fun ρ S => match F (ρ.map (shE S)) with | some d => if noIns d = true then some (d, S) else none | none => none
def qTl (T : Env → Option Bool) : Env → List Ob → Option (Bool × List Ob) := fun ρ S => match T (ρ.map (shE S)) with | some b => some (b, S) | none => none
def qLkN (F : Env → Option D) : Env → List Ob → Option (D × List Ob) := fun ρ S => match F (ρ.map (shE S)) with | some (.lst xs) => if noInss xs = true then some (.lst xs, S) else none | _ => none
def qLkD (F : Env → Option D) : Env → List Ob → Option (D × List Ob) := fun ρ S => match F (ρ.map (shE S)) with | some (.dct ks xs) => if noInss xs = true then some (.dct ks xs, S) else none | _ => none
def qLkL (F : Env → Option D) : Env → List Ob → Option (D × List Ob) := fun ρ S => match F (ρ.map (shE S)) with | some (.lst xs) => if noInss xs = true then some (.obj S.length, S ++ [⟨.lst, "", [], xs⟩]) else none | _ => none
end
end FL
namespace FL
variable [HW]
open PySem PySem.Spec L2

/-! ### an object set anew, whole -/
section
variable {K : PySem.W.Frag} {φ : Nat → Option Addr} {B Bf : Hp} {O : List Nat} {ρ : Env} {S : List Ob} {σ : L2.St} {Hf H : Hp}
end
/-! an attribute, set anew or new -/
def putAK (fs : List Str) (f : Str) : List Str := if fs.contains f = true then fs else fs ++ [f]
def putAX {α : Type} (f : Str) (d : α) (fs : List Str) (xs : List α) : List α := if fs.contains f = true then stF f d fs xs else xs ++ [d]
def putA (S : List Ob) (i : Nat) (f : Str) (d : D) : List Ob := match S[i]? with | some o => S.set i ⟨o.k, o.c, putAK o.fs f, putAX f d o.fs o.xs⟩ | none => S
theorem RpAll.putAX {K : PySem.W.Frag} {φ : Nat → Option Addr} {H : Hp} {f : Str} {d : D} {v : V} (q : Rp K φ H d v) {fs : List Str} {xs : List D} {ws : List V} (r : RpAll K φ H xs ws) : RpAll K φ H (FL.putAX f d fs xs) (FL.putAX f v fs ws) := by
  unfold FL.putAX
  split
  · exact RpAll.stF q fs r
  · exact r.append (.one q)
section
variable {X : Cx} {O O1 O' : List Nat} {e o : Expr} {es : List Expr} {c m x f : Str} {p pos pos' apos : Pos} {Fo : Env → Option D} {A1 : Env → List Ob → Option (List D × List Ob)} {M1 M2 : Env → List Ob → Option (D × List Ob)} {k j n i : Nat} {mir : List D → List Ob → Option (D × List Ob)}
def mPutA (c f : Str) (Fo : Env → Option D) (M1 : Env → List Ob → Option (D × List Ob)) : Env → List Ob → Option MOut := fun ρ S => match M1 ρ S with
  | some (d, S1) => (match Fo ρ with
    | some (.obj i) => (match S1[i]? with | some o => if o.k = .ins ∧ o.c = c ∧ o.fs.length < 1000 then some (.nx ρ (putA S1 i f d)) else none | none => none)
    | _ => none)
  | none => none
def mFld (c f : Str) (M1 : Env → List Ob → Option (D × List Ob)) : Env → List Ob → Option (D × List Ob) := fun ρ S => match M1 ρ S with
  | some (.obj i, S1) => (match S1[i]? with | some o => if o.k = .ins ∧ o.c = c then (match dget f o.fs o.xs with | some d => some (d, S1) | none => none) else none | none => none)
  | _ => none
/-! objects whose __init__ changes them -/
structure CalCM (P : Program) (w : World) (K : PySem.W.Frag) (mg : Str → Option Value) (base : Heap) (k : Nat) (c : Str) (n : Nat) (mir : List D → List Ob → Option (D × List Ob)) : Prop where
  ok : ∃ (f : Addr) (fd : FuncData) (ps : List Str), FnOk P w K mg base CX0 k f fd ps (spE K (n + 1) mir) ∧ Mk K (He.ga K c) f ∧ mg c = some (.ref (He.ga K c)) ∧ Binds K fd ps []
structure CalCD (P : Program) (w : World) (K : PySem.W.Frag) (mg : Str → Option Value) (base : Heap) (k : Nat) (c : Str) (n : Nat) (mir : List D → List Ob → Option (D × List Ob)) (df : List D) : Prop where
  ok : ∃ (f : Addr) (fd : FuncData) (ps : List Str) (ds : List Value) (dvs : List V), FnOk P w K mg base CX0 k f fd ps (spE K (n + 1) mir) ∧ Mk K (He.ga K c) f ∧ mg c = some (.ref (He.ga K c)) ∧ Binds K fd ps ds ∧ Vals dvs ds ∧ ∀ φ H, RpAll K φ H df dvs
theorem CalCM.d {P : Program} {w : World} {K : PySem.W.Frag} {mg : Str → Option Value} {base : Heap} (h : CalCM P w K mg base k c n mir) : CalCD P w K mg base k c n mir [] := by
  obtain ⟨f, fd, ps, a, b, c, d⟩ := h.ok
  exact ⟨f, fd, ps, [], [], a, b, c, d, .nil, fun _ _ => .nil⟩
def mNewM (c : Str) (n : Nat) (mir : List D → List Ob → Option (D × List Ob)) (df : List D) (A : Env → List Ob → Option (List D × List Ob)) : Env → List Ob → Option (D × List Ob) := fun ρ S => match A ρ S with
  | some (ds, S1) => if (ds ++ df).length = n then (match mir (.obj S1.length :: (ds ++ df)) (S1 ++ [⟨.ins, c, [], []⟩]) with | some (.non, S2) => some (.obj S1.length, S2) | _ => none) else none
  | none => none
/-! a, (b, c) = e -/
def mAsg (g : D → Env → Option Env) (M1 : Env → List Ob → Option (D × List Ob)) : Env → List Ob → Option MOut := fun ρ S => match M1 ρ S with | some (d, S1) => (match g d ρ with | some ρ1 => some (.nx ρ1 S1) | none => none) | none => none
end
end FL
/-! ### a def read off its class -/
namespace FL
variable [HW]
open PySem PySem.Spec L2
structure CFn (K : PySem.W.Frag) (C : Addr) (m : Str) (f : Addr) : Prop where
  rd : PySem.W.readsIn K C (.type "type") = true
  ga : PySem.W.specialIn K (.ref C) "__getattribute__" = some (some (.builtin "type.__getattribute__"))
  at_ : PySem.W.findCls K (.ref C) (.type "type") m = some (.val (.ref f))
  ty : PySem.W.typeIn K (.ref f) = some (.type "function")
  kp : PySem.W.keepIn K (.ref f) = true
def cfnB (K : PySem.W.Frag) (c m : Str) : Bool :=
  PySem.W.readsIn K (He.ga K c) (.type "type") && (He.eqO (PySem.W.specialIn K (.ref (He.ga K c)) "__getattribute__") (some (some (.builtin "type.__getattribute__"))) &&
    ((match PySem.W.findCls K (.ref (He.ga K c)) (.type "type") m with | some (.val (.ref f)) => decide (f = He.ma K (He.ga K c) m) | _ => false) &&
    (decide (PySem.W.typeIn K (.ref (He.ma K (He.ga K c) m)) = some (.type "function")) && PySem.W.keepIn K (.ref (He.ma K (He.ga K c) m)))))
section
variable {X : Cx} {O : List Nat} {e o : Expr} {es : List Expr} {c m x f : Str} {p pos apos : Pos} {C fa : Addr} {CX : CXT} {k j n : Nat} {fd : FuncData} {ps : List Str} {sp : Sp} {dvs : List V} {ds : List Value} {E : XK} {ta : TE} {t : TA} {A1 : Env → List Ob → Option (List D × List Ob)} {M1 : Env → List Ob → Option (D × List Ob)} {mir : List D → List Ob → Option (D × List Ob)}
def tCFn (C : Addr) (sp : Sp) (dvs : List V) (E : XK) (ta : TE) (t : TA) : TE := fun σ H Q => ta σ H fun x H1 => x = .ref C ∧ t σ H1 fun vs H2 => sp (vs ++ dvs) H2 Q E
structure CalCF (P : Program) (w : World) (K : PySem.W.Frag) (mg : Str → Option Value) (base : Heap) (k : Nat) (c m : Str) (n : Nat) (mir : List D → List Ob → Option (D × List Ob)) : Prop where
  ok : ∃ (f : Addr) (fd : FuncData) (ps : List Str), FnOk P w K mg base CX0 k f fd ps (spE K n mir) ∧ mg c = some (.ref (He.ga K c)) ∧ CFn K (He.ga K c) m f ∧ Binds K fd ps []
/-! ### properties -/
def pAd (K : PySem.W.Frag) (C : Addr) (f : Str) : Addr := match PySem.W.recIn K (He.ma K C f) "property" with
  | some (.ref g :: _) => g
  | _ => (match PySem.W.recIn K (He.ma K C f) "staticmethod" with
    | some (.ref g :: _) => g
    | _ => (match PySem.W.recIn K (He.ma K C f) "classmethod" with
      | some (.ref g :: _) => g
      | _ => 0))
def propB (K : PySem.W.Frag) (c f : Str) : Bool :=
  He.eqO (PySem.W.findIn K (.ref (He.ga K c)) f) (some (some (.ref (He.ma K (He.ga K c) f)))) && (He.eqO (PySem.W.specialIn K (.ref (He.ma K (He.ga K c) f)) "__get__") (some (some (.builtin "property.__get__"))) &&
    (decide (PySem.W.takesIn K (.ref (He.ma K (He.ga K c) f)) = some true) && (match PySem.W.recIn K (He.ma K (He.ga K c) f) "property" with | some (.ref g :: _) => decide (g = pAd K (He.ga K c) f) | _ => false)))
structure CalP (P : Program) (w : World) (K : PySem.W.Frag) (mg : Str → Option Value) (base : Heap) (k : Nat) (c f : Str) (fr : Bool) (m : List D → Option D) : Prop where
  ok : ∃ (p g : Addr) (fd : FuncData) (ps : List Str), FnOk P w K mg base CX0 k g fd ps (spF K fr 1 m) ∧ Cls K (He.ga K c) ∧ PropOf K (He.ga K c) f p g ∧ Binds K fd ps []
def eP (c : Str) (m : List D → Option D) (Fo : Env → Option D) : Env → Option D := fun ρ => match Fo ρ with
  | some (.ins c' fs xs) => if c' = c then m [.ins c' fs xs] else none
  | _ => none
end
end FL
namespace FL
variable [HW]
open PySem PySem.Spec L2

/-! ### the head's facts: getters of properties too -/
def fnAW (K : PySem.W.Frag) (a : Addr) : He.FnW := match K.lookup a with
  | some ⟨_, _, .func fd, _⟩ => some (fd.name, fd.qualname, fd.params, fd.body, fd.scope, fd.globals, fd.closure, fd.builtins)
  | _ => none
def okAt (K : PySem.W.Frag) (d : He.DefD) (a : Addr) : Bool := PySem.W.keepIn K (.ref a) && (match K.lookup a with
  | some ⟨_, _, .func fd, _⟩ => PySem.W.codeIn K fd.code d.qual && (He.dflB K fd.defaults (d.dvs K) && He.kwdB K fd.kwdefaults (d.kws K))
  | _ => false)
theorem funD_at {K : PySem.W.Frag} {d : He.DefD} {a : Addr} (e : fnAW K a = d.val) (c : okAt K d a = true) : ∃ fd, FunD K d.name d.qual d.params d.body d.scope (d.dvs K) (d.kws K) a fd := by
  obtain ⟨kp, c2⟩ := He.ba c
  unfold fnAW at e
  cases q : K.lookup a with
  | none =>
    rw [q] at c2
    cases c2
  | some o =>
    obtain ⟨oc, od, dt, osl⟩ := o
    rw [q] at c2 e
    cases dt with
    | func fd =>
      obtain ⟨m1, m2, m3, m4, m5, m6, m7, m8, m9, m10, m11, m12, m13, m14, m15⟩ := fd
      have e2 : (some (m1, m2, m3, m4, m5, m6, m7, m15) : He.FnW) = some (d.name, d.qual, d.params, .stmts d.body, d.scope, mainGlobals, [], builtinsNs) := e
      simp only [Option.some.injEq, Prod.mk.injEq] at e2
      obtain ⟨h1, h2, h3, h4, h5, h6, h7, h8⟩ := e2
      subst h1 h2 h3 h4 h5 h6 h7 h8
      have c3 : (PySem.W.codeIn K m13 d.qual && (He.dflB K m8 (d.dvs K) && He.kwdB K m9 (d.kws K))) = true := c2
      obtain ⟨k1, k2⟩ := He.ba c3
      obtain ⟨k3, k4⟩ := He.ba k2
      exact ⟨_, ⟨oc, od, m8, m9, m10, m11, m12, m13, m14, osl, rfl, q, k1, He.dflB_ok k3, He.kwdB_ok k4⟩, kp⟩
    | _ => cases c2
abbrev PrD : Type := Str × Str × He.DefD
def prA (K : PySem.W.Frag) (q : PrD) : Addr := pAd K (He.ga K q.1) q.2.1
abbrev AlP : Type := AlG × (Bool × List He.FnW)
def obsPr (ps : List PrD) (K : PySem.W.Frag) : Bool × List He.FnW := (ps.all fun q => okAt K q.2.2 (prA K q), ps.map fun q => fnAW K (prA K q))
def valPr (ps : List PrD) : Bool × List He.FnW := (true, ps.map fun q => q.2.2.val)
def asP (g : Addr → Option Obj) (n : Nat) : List Addr := PySem.cStatics :: He.asD g n
def obsPK (fa : List He.Fa) (fn : List He.DefD) (ex : PySem.W.Frag → Bool) (ts : List He.Tab) (ps : List PrD) (K : PySem.W.Frag) : AlP := (((He.obsD fa fn K, ex K), ts.map fun t => He.dicW K (t.1 K)), obsPr ps K)
def obsP (n : Nat) (fa : List He.Fa) (fn : List He.DefD) (ex : PySem.W.Frag → Bool) (ts : List He.Tab) (ps : List PrD) (g : Addr → Option Obj) : AlP := obsPK fa fn ex ts ps (He.frG g (asP g n))
def SaysP (fa : List He.Fa) (fn : List He.DefD) (ex : PySem.W.Frag → Bool) (ts : List He.Tab) (ps : List PrD) (w : World) (K : PySem.W.Frag) : Prop := SaysG fa fn ex ts w K ∧ obsPr ps K = valPr ps
def hookP (n : Nat) (fa : List He.Fa) (fn : List He.DefD) (ex : PySem.W.Frag → Bool) (ts : List He.Tab) (ps : List PrD) : PySem.W.Hook where
  α := AlP
  obs := fun s => obsP n fa fn ex ts ps s.heap.get?
  val := fun w => (((He.valD fn, true), ts.map fun t => some (He.keysIn w.params t.2)), valPr ps)
  says := fun w h => ∃ K : PySem.W.Frag, K.In h ∧ SaysP fa fn ex ts ps w K
  of := fun w _ e => ⟨_, He.frG_in, ⟨⟨congrArg (fun z : AlP => z.1.1.1) e, congrArg (fun z : AlP => z.1.1.2) e⟩, (congrArg (fun z : AlP => z.1.2) e : _ = ts.map fun t => some (He.keysIn w.params t.2))⟩, congrArg (fun z : AlP => z.2) e⟩
  keeps := fun _ _ _ ⟨K, hK, c⟩ k => ⟨K, PySem.W.Frag.In.keeps hK k, c⟩
theorem getter_of {fa : List He.Fa} {fn : List He.DefD} {ex : PySem.W.Frag → Bool} {ts : List He.Tab} {ps : List PrD} {w : World} {K : PySem.W.Frag} (c : SaysP fa fn ex ts ps w K) (i : Nat) {q : PrD} (h : ps[i]? = some q := by rfl) :
    ∃ fd, FunD K q.2.2.name q.2.2.qual q.2.2.params q.2.2.body q.2.2.scope (q.2.2.dvs K) (q.2.2.kws K) (prA K q) fd := by
  have c1 : (ps.all fun q => okAt K q.2.2 (prA K q)) = true := congrArg (fun z : Bool × List He.FnW => z.1) c.2
  have e : (ps.map fun q => fnAW K (prA K q)) = ps.map fun q => q.2.2.val := congrArg (fun z : Bool × List He.FnW => z.2) c.2
  have e2 : (ps.map fun q => fnAW K (prA K q))[i]? = (ps.map fun q => q.2.2.val)[i]? := by rw [e]
  rw [List.getElem?_map, List.getElem?_map, h] at e2
  exact funD_at (Option.some.inj e2) (List.all_eq_true.mp c1 q (List.mem_of_getElem? h))
/-! ### promises -/
section
variable {P : Program} {w : World} {K : PySem.W.Frag} {mg : Str → Option Value} {base : Heap} {k : Nat} {a : Addr} {ps N : List Str} {x q c m f : Str} {st : Stmt} {G : Env → List Ob → Option MOut} {Gp : Env → Option Out} {dvs : List V} {kws : List (Str × V)}
end
end FL
/-! ### {**d, k: v} -/
namespace FL
variable [HW]
open PySem PySem.Spec
section
variable {prog : Program} {w : World} {K : Type} [DecidableEq K] {knd : KeyKind prog w K} {A : Around} {E : Value → Shared → Prop} {s : Shared}
end
end FL
namespace FL
variable [HW]
open PySem PySem.Spec L2
def tStarD (to tk tv : TE) : TE := fun σ H Q => ∀ p, H p = none → to σ (upd H p (.dK [])) fun x H1 => ∃ a kvs, x = .ref a ∧ a ≠ p ∧ Rd H1 a (.dK kvs) ∧ kvs.length < 1000 ∧ H1 p = some (.dK []) ∧
  ∀ q, upd H1 p (.dK (mergeK [] kvs)) q = none → tPairs [(tk, tv)] σ (upd (upd H1 p (.dK (mergeK [] kvs))) q (.dK [])) fun ps H4 => ∃ key z, ps = [(kV key, z)] ∧ H4 q = some (.dK []) ∧ H4 p = some (.dK (mergeK [] kvs)) ∧
    Q (.ref p) (upd (upd H4 q (.dK [(key, z)])) p (.dK (putK (mergeK [] kvs) key z)))
section
variable {X : Cx} {o kx vx : Expr} {pos : Pos} {to tk tv : TE}
end
end FL
namespace FL
variable [HW]
open PySem PySem.Spec L2 PyProof.Rows
/-! ### {**d, k: v} -/
def dmrgK : List Str → List Str → List Str
  | [], ka => ka
  | g :: gs, ka => dmrgK gs (dputK ka g)
def dmrgX {α : Type} : List Str → List α → List Str → List α → List α
  | g :: gs, x :: xs, ka, xa => dmrgX gs xs (dputK ka g) (dputX g x ka xa)
  | _, _, _, xa => xa
theorem RpAll.dmrgX {K : PySem.W.Frag} {φ : Nat → Option Addr} {H : Hp} : ∀ (ks : List Str) {xs xa : List D} {vs va : List V} {ka : List Str}, RpAll K φ H xs vs → RpAll K φ H xa va → RpAll K φ H (FL.dmrgX ks xs ka xa) (FL.dmrgX ks vs ka va)
  | [], _, _, _, _, _, _, r => by unfold FL.dmrgX; exact r
  | _ :: _, _, _, _, _, _, .nil, r => by unfold FL.dmrgX; exact r
  | g :: gs, _, _, _, _, _, .cons q t, r => by unfold FL.dmrgX; exact RpAll.dmrgX gs t (r.dputX q)
section
variable {X : Cx} {O : List Nat} {o kx vx : Expr} {F Kf E : Env → Option D} {pos : Pos}
def eStarD (F Kf E : Env → Option D) : Env → Option D := fun ρ => match F ρ with
  | some (.dct ks xs) => (match Kf ρ with
    | some (.str k) => (match E ρ with | some y => if ks.length < 1000 then some (.dct (dputK (dmrgK ks []) k) (dputX k y (dmrgK ks []) (dmrgX ks xs [] []))) else none | none => none)
    | _ => none)
  | _ => none
end
/-! ### a walk over a dict's keys -/
section
variable {K : PySem.W.Frag} {φ : Nat → Option Addr} {H H' : Hp} {a : Addr} {kvs : List (Key × V)}
theorem rdK {b : Addr} {o : HO} (h : Rd H a (.dK kvs)) (e : H b = some o) (n : ∀ k, o ≠ .dK k) (n2 : ∀ q k, o ≠ .frz q (.dK k)) : b ≠ a := by
  rintro rfl
  rcases h with h | ⟨q, h⟩
  · rw [h] at e; cases e; exact n _ rfl
  · rw [h] at e; cases e; exact n2 _ _ rfl
theorem SqT_swap (h1 : Rd H a (.dK kvs)) (k : ∀ b o, b ≠ a → H b = some o → H' b = some o) {b : Addr} {xs : List V} (h : SqT K H b xs) : SqT K H' b xs := by
  rcases h with (h | ⟨o, h⟩) | h
  · exact .inl (.inl (k _ _ (rdK h1 h (fun _ z => nomatch z) fun _ _ z => nomatch z) h))
  · exact .inl (.inr ⟨o, k _ _ (rdK h1 h (fun _ z => nomatch z) fun _ _ z => nomatch z) h⟩)
  · exact .inr h
theorem SqL_swap (h1 : Rd H a (.dK kvs)) (k : ∀ b o, b ≠ a → H b = some o → H' b = some o) {b : Addr} {xs : List V} (h : SqL K H b xs) : SqL K H' b xs := by
  rcases h with (h | ⟨o, h⟩) | h
  · exact .inl (.inl (k _ _ (rdK h1 h (fun _ z => nomatch z) fun _ _ z => nomatch z) h))
  · exact .inl (.inr ⟨o, k _ _ (rdK h1 h (fun _ z => nomatch z) fun _ _ z => nomatch z) h⟩)
  · exact .inr h
theorem rd_swap (h1 : Rd H a (.dK kvs)) (h2 : Rd H' a (.dK kvs)) (k : ∀ b o, b ≠ a → H b = some o → H' b = some o) {b : Addr} {l : List (Key × V)} (h : Rd H b (.dK l)) : Rd H' b (.dK l) := by
  by_cases e : b = a
  · subst e
    have : l = kvs := by
      rcases h1 with h1 | ⟨q, h1⟩ <;> rcases h with h | ⟨q', h⟩ <;> rw [h1] at h <;> cases h <;> rfl
    rw [this]; exact h2
  · exact h.imp (k _ _ e) fun ⟨o, h⟩ => ⟨o, k _ _ e h⟩
mutual
theorem Rp.swap (h1 : Rd H a (.dK kvs)) (h2 : Rd H' a (.dK kvs)) (k : ∀ b o, b ≠ a → H b = some o → H' b = some o) : ∀ {d : D} {v : V}, Rp K φ H d v → Rp K φ H' d v
  | _, _, .non => .non
  | _, _, .bl b => .bl b
  | _, _, .int i => .int i
  | _, _, .str x => .str x
  | _, _, .tup s r => .tup (SqT_swap h1 k s) (RpAll.swap h1 h2 k r)
  | _, _, .lst s r => .lst (k _ _ (rdK h1 s (fun _ z => nomatch z) fun _ _ z => nomatch z) s) (RpAll.swap h1 h2 k r)
  | _, _, .klst s r => .klst (SqL_swap h1 k s) (RpAll.swap h1 h2 k r)
  | _, _, .obj h => .obj h
  | _, _, .ins s l r => .ins (k _ _ (rdK h1 s (fun _ z => nomatch z) fun _ _ z => nomatch z) s) l (RpAll.swap h1 h2 k r)
  | _, _, .dct s l r => .dct (rd_swap h1 h2 k s) l (RpAll.swap h1 h2 k r)
  | _, _, .xtp s p r => .xtp (k _ _ (rdK h1 s (fun _ z => nomatch z) fun _ _ z => (by cases z)) s) p (RpAll.swap h1 h2 k r)
  | _, _, .dkt s a b c d f g r t => .dkt (s.map fun v e z => k _ _ (rdK h1 e (fun _ w => by rcases z with rfl | ⟨o, rfl⟩ <;> (first | cases w | (unfold dkO at w; cases w))) (fun _ _ w => by rcases z with rfl | ⟨o, rfl⟩ <;> (unfold dkO at w; cases w))) e) a b c d f g (RpAll.swap h1 h2 k r) (RpAll.swap h1 h2 k t)
theorem RpAll.swap (h1 : Rd H a (.dK kvs)) (h2 : Rd H' a (.dK kvs)) (k : ∀ b o, b ≠ a → H b = some o → H' b = some o) : ∀ {ds : List D} {vs : List V}, RpAll K φ H ds vs → RpAll K φ H' ds vs
  | _, _, .nil => .nil
  | _, _, .cons r t => .cons (r.swap h1 h2 k) (RpAll.swap h1 h2 k t)
end
end
section
variable {X : Cx} {O O2 : List Nat} {tg kx elt : Expr} {scope : Scope} {own : List (Str × Nat)} {pos xpos : Pos}
def eDcK (i0 : Nat) (vs : List Nat) (g : D → Env → Option Env) (T : Env → Option Bool) (Kf E : Env → Option D) : Env → Option D := fun ρ => match ρ[i0]? with
  | some (some (.dct ks0 _)) => (match dcL g T Kf E (wipeE ρ vs) (ks0.map D.str) [] [] with | some (ks, xs) => some (.dct ks xs) | none => none)
  | _ => none
end
/-! ### tuple(d), list(d) -/
section
variable {X : Cx} {O : List Nat} {e : Expr} {F : Env → Option D} {p pos : Pos} {nm : Str}
def eTupD (F : Env → Option D) : Env → Option D := fun ρ => match F ρ with | some (.dct ks _) => some (.tup (ks.map D.str)) | _ => none
def eLstD (F : Env → Option D) : Env → Option D := fun ρ => match F ρ with | some (.dct ks _) => some (.lst (ks.map D.str)) | _ => none
end
end FL
namespace FL
variable [HW]
open PySem PySem.Spec L2
/-! ### dicts that change in place -/
def setD (S : List Ob) (i : Nat) (ks : List Str) (xs : List D) : List Ob := match S[i]? with | some o => S.set i ⟨.dic, o.c, ks, xs⟩ | none => S
section
variable {X : Cx} {O : List Nat} {e ix : Expr} {es : List Expr} {pos pos' xpos apos cpos : Pos} {Fi : Env → Option D} {i : Nat} {x : Str}
def mPutD (i : Nat) (Fi : Env → Option D) (M1 : Env → List Ob → Option (D × List Ob)) : Env → List Ob → Option MOut := fun ρ S => match M1 ρ S with
  | some (d, S1) => (match Fi ρ with
    | some (.str k) => (match ρ[i]? with
      | some (some (.obj t)) => (match S1[t]? with
        | some o => if o.k = .dic ∧ o.fs.length < 1000 then some (.nx ρ (setD S1 t (dputK o.fs k) (dputX k d o.fs o.xs))) else none
        | none => none)
      | _ => none)
    | _ => none)
  | none => none
def mPopD (i : Nat) (Fi : Env → Option D) : Env → List Ob → Option MOut := fun ρ S => match Fi ρ with
  | some (.str k) => (match ρ[i]? with
    | some (some (.obj t)) => (match S[t]? with
      | some o => if o.k = .dic ∧ dhas k o.fs = true then some (.nx ρ (setD S t (ddelK k o.fs) (ddelX k o.fs o.xs))) else none
      | none => none)
    | _ => none)
  | _ => none
def mMut0 (i : Nat) (f : List D → List D → Option (List D)) : Env → List Ob → Option MOut := fun ρ S => match ρ[i]? with
  | some (some (.obj t)) => (match S[t]? with
    | some o => if o.k = .lst then (match f o.xs [] with | some ys => some (.nx ρ (setL S t ys)) | none => none) else none
    | none => none)
  | _ => none
end
end FL
namespace FL
variable [HW]
open PySem PySem.Spec L2
/-! ### d.get(k), k a text or None -/
section
variable {X : Cx} {pins : List (Addr × Obj)} {σ : L2.St} {H : Hp} {s : Shared} {a : Addr} {kvs : List (Key × V)} {A : Around} {E : Value → Shared → Prop}
end
section
variable {X : Cx} {O : List Nat} {o e : Expr} {F G : Env → Option D} {apos cpos : Pos} {td ty : TE}
def tDGetN (td ty : TE) : TE := fun σ H Q => td σ H fun x H1 => ∃ a, x = .ref a ∧ IsD H1 a ∧ ty σ H1 fun y H2 => (∃ o, DGet H2 a y o ∧ Q (o.getD .non) H2) ∨ (y = .non ∧ (∃ kvs, Rd H2 a (.dK kvs)) ∧ Q .non H2)
def dgetND (x y : D) : Option D := match x, y with
  | .dct ks xs, .str k => (match dget k ks xs with | some d => some d | none => if dhas k ks = false then some .non else none)
  | .dct _ _, .non => some .non
  | _, _ => none
end
end FL
namespace FL
variable [HW]
open PySem PySem.Spec L2
/-! ### tuples and comparisons over what changes objects -/
section
variable {X : Cx} {O : List Nat} {e a b : Expr} {es : List Expr} {pos : Pos} {M1 : Env → List Ob → Option (D × List Ob)} {A1 : Env → List Ob → Option (List D × List Ob)} {G : Env → Option D}
def qTup (A : Env → List Ob → Option (List D × List Ob)) : Env → List Ob → Option (D × List Ob) := fun ρ S => match A ρ S with
  | some (ds, S1) => (match tupD ds with | some d => some (d, S1) | none => none)
  | none => none
def qE2 (f : D → D → Option D) (M1 : Env → List Ob → Option (D × List Ob)) (G : Env → Option D) : Env → List Ob → Option (D × List Ob) := fun ρ S => match M1 ρ S with
  | some (x, S1) => (match G ρ with | some y => (match f x y with | some d => some (d, S1) | none => none) | none => none)
  | none => none
end
end FL
namespace FL
variable [HW]
open PySem PySem.Spec L2
/-! ### further steps of mirrors -/
section
variable {S : List Ob}
theorem seq_put {i : Nat} {F Fi : FL.Env → Option D} {G : FL.Env → Option Out} {ρ : FL.Env} {d : D} {k : Int} {xs : List D} {j : Nat} {o : Option Out} (h1 : F ρ = some d) (h2 : Fi ρ = some (.int k)) (h3 : ρ[i]? = some (some (.lst xs))) (h4 : L2.ixN xs.length k = some j)
    (kk : G (ρ.set i (some (.lst (xs.set j d)))) = o) : sSeq (sPut i Fi F) G ρ = o := by
  unfold sSeq sPut
  rw [h1]
  simp only [h2]
  rw [var_v h3]
  simp only [h4]
  exact kk
theorem iLst_v {F : FL.Env → Option D} {ρ : FL.Env} {xs : List D} (h : F ρ = some (.lst xs)) : iSeq isLst F ρ = some xs := by
  unfold iSeq
  rw [h]
  rfl
theorem seq_app {F : FL.Env → Option D} {G : FL.Env → Option Out} {ρ : FL.Env} {k : Nat} {xs : List D} {d : D} {o : Option Out} (h1 : F ρ = some d) (h2 : ρ[k]? = some (some (.lst xs))) (hl : xs.length < 1000000) (kk : G (ρ.set k (some (.lst (xs ++ [d])))) = o) : sSeq (sMut k appendF (aCons F aNil)) G ρ = o := by
  refine seq_mut (ds := [d]) (xs := xs) (ys := xs ++ [d]) (aCons_val h1 rfl) h2 ?_ kk
  unfold appendF
  dsimp only
  rw [if_pos (by rw [sizeLine_eq]; omega)]
end
end FL
namespace FL
variable [HW]
open PySem PySem.Spec L2 PySem.W HandSHeadRun
/-! ### the head's equation, in parts -/
theorem map3 {α β γ δ : Type} {o : Option α} {f : α → β} {g : α → γ} {h : α → δ} {x : β} {y : γ} {z : δ} (h1 : o.map f = some x) (h2 : o.map g = some y) (h3 : o.map h = some z) : o.map (fun s => (f s, g s, h s)) = some (x, y, z) := by
  cases o with
  | none => cases h1
  | some s =>
    have e1 : f s = x := Option.some.inj h1
    have e2 : g s = y := Option.some.inj h2
    have e3 : h s = z := Option.some.inj h3
    show some (f s, g s, h s) = _
    rw [e1, e2, e3]
def obsL (as : List Addr) (fa : List He.Fa) (fn : List He.DefD) (ex : PySem.W.Frag → Bool) (ts : List He.Tab) (ps : List PrD) (g : Addr → Option Obj) : AlP := obsPK fa fn ex ts ps (He.frG g as)
def hookL (as : List Addr) (fa : List He.Fa) (fn : List He.DefD) (ex : PySem.W.Frag → Bool) (ts : List He.Tab) (ps : List PrD) : PySem.W.Hook where
  α := AlP
  obs := fun s => obsL as fa fn ex ts ps s.heap.get?
  val := fun w => (((He.valD fn, true), ts.map fun t => some (He.keysIn w.params t.2)), valPr ps)
  says := fun w h => ∃ K : PySem.W.Frag, K.In h ∧ SaysP fa fn ex ts ps w K
  of := fun w _ e => ⟨_, He.frG_in, ⟨⟨congrArg (fun z : AlP => z.1.1.1) e, congrArg (fun z : AlP => z.1.1.2) e⟩, (congrArg (fun z : AlP => z.1.2) e : _ = ts.map fun t => some (He.keysIn w.params t.2))⟩, congrArg (fun z : AlP => z.2) e⟩
  keeps := fun _ _ _ ⟨K, hK, c⟩ k => ⟨K, PySem.W.Frag.In.keeps hK k, c⟩
end FL
namespace FL
variable [HW]
open PySem PySem.Spec L2
/-! ### x = [.. for .. for ..] on one line -/
section
variable {X : Cx} {elt tg iter : Expr} {ifs : List Expr} {cs : List Comprehension} {scope : Scope} {own : List (Str × Nat)} {pos : Pos} {te : TE}
end
section
variable {X : Cx} {O : List Nat} {tg iter elt : Expr} {scope : Scope} {own : List (Str × Nat)} {pos : Pos} {cs : List Comprehension} {ls : List Lv} {R : Env → Option (List D)}
end
end FL
namespace FL
variable [HW]
open PySem PySem.Spec PyProof.Rows L2
/-! ### list(o), o an object of our own with __len__ whose __iter__ returns a tuple's iterator -/
section
variable {X : Cx} {pins : List (Addr × Obj)} {σ : L2.St} {c g : Str} {j k : Nat} {mir : List D → Option D}
def rOwnT (c g : Str) (K : PySem.W.Frag) (mir : List D → Option D) : List V → Hp → VK → Prop := fun xs H Q => ∃ (a dx t : Addr) (gs : List (Str × V)) (zs : List V) (R : Addr → Hp → Prop), xs = [.ref a] ∧ H a = some (.ins (He.ga K c) dx gs) ∧ gs.lookup g = some (.ref t) ∧ SqT K H t zs ∧ zs.length < sizeLine ∧
  (∀ q it, H q = none → H it = none → q ≠ it → spF K false 1 mir [.ref a] (upd (upd H q (.lst [])) it (TiO t it)) (fun z H' => ∃ n : Int, z = .int n ∧ 0 ≤ n ∧ n ≤ 1000 ∧ H' q = some (.lst []) ∧ H' it = some (TiO t it) ∧ SqT K H' t zs ∧ R q (upd (ItX.dropH H' it) q (.lst zs))) (fun _ _ _ => False)) ∧
  ∀ q H', H q = none → H' q = some (.lst zs) → R q H' → Q (.ref q) H'
def listOwnD (c g : Str) (mir : List D → Option D) : List D → Option D
  | [d] => (match fldD c g d with
    | some (.tup xs) => (match mir [d] with
      | some (.int n) => if 0 ≤ n ∧ n ≤ 1000 ∧ xs.length < 1000 then some (.lst xs) else none
      | _ => none)
    | _ => none)
  | _ => none
end
end FL
namespace FL
variable [HW]
open PySem PySem.Spec L2
/-! ### C(e, .., k = v), __init__ with keyword-only parameters -/
structure CalCd (P : Program) (w : World) (K : PySem.W.Frag) (mg : Str → Option Value) (base : Heap) (k : Nat) (c : Str) (fs : List Str) (n : Nat) (mi : List D → Option (List D)) (df : List D) : Prop where
  ok : ∃ (f : Addr) (fd : FuncData) (ps : List Str) (ds : List Value) (dvs : List V), FnOk P w K mg base CX0 k f fd ps (spI K c fs n mi) ∧ Mk K (He.ga K c) f ∧ mg c = some (.ref (He.ga K c)) ∧ Binds K fd ps ds ∧ Vals dvs ds ∧ ∀ φ H, RpAll K φ H df dvs
structure CalCk (P : Program) (w : World) (K : PySem.W.Frag) (mg : Str → Option Value) (base : Heap) (k : Nat) (c : Str) (fs : List Str) (n : Nat) (mi : List D → Option (List D)) (n0 : Nat) (ks : List Str) : Prop where
  ok : ∃ (f : Addr) (fd : FuncData) (ps : List Str) (g : List Value → List Value → List Value), FnOk P w K mg base CX0 k f fd ps (spI K c fs n mi) ∧ Mk K (He.ga K c) f ∧ mg c = some (.ref (He.ga K c)) ∧ KBn K fd ps (n0 + 1) ks g (fun vs zs => vs ++ zs)
section
variable {P : Program} {w : World} {K : PySem.W.Frag} {mg : Str → Option Value} {base : Heap} {k : Nat} {ps N : List Str} {q c : Str} {st : Stmt} {steps : List (Str × (Env → Option D))}
end
section
variable {X : Cx} {O : List Nat} {e : Expr} {es : List Expr} {kws : List Keyword} {c : Str} {p pos : Pos} {Fs Gs : Env → Option (List D)} {k j n n0 nk : Nat} {fs ks : List Str} {mi : List D → Option (List D)} {df : List D}
def eMkD (c : Str) (fs : List Str) (n : Nat) (mi : List D → Option (List D)) (df : List D) (Fs : Env → Option (List D)) : Env → Option D := fun ρ => match Fs ρ with
  | some ds => if (ds ++ df).length = n then (match mi (ds ++ df) with | some xs => some (.ins c fs xs) | none => none) else none
  | none => none
end
/-! ### [x] * n -/
def repD (x y : D) : Option D := match x, y with
  | .lst xs, .int k => if 0 ≤ k ∧ k < 1073741824 ∧ xs.length * k.toNat ≤ sizeLine then some (.lst (List.replicate k.toNat xs).flatten) else none
  | _, _ => none
end FL
namespace FL
variable [HW]
open PySem PySem.Spec L2
/-! ### a walk over a list or a tuple -/
def isSeq : D → Bool | .tup _ => true | d => isLst d
section
variable {X : Cx} {O : List Nat} {tg e : Expr} {F : Env → Option D}
end
/-! ### enumerate over what a look gives -/
def jEnum (M1 : Env → List Ob → Option (D × List Ob)) : Env → List Ob → Option (List D × List Ob) := fun ρ S => match M1 ρ S with | some (d, S') => if isLst d = true then (match seqD d with | some ds => some (enumL 0 ds, S') | none => none) else none | none => none
section
variable {X : Cx} {O O' O1 : List Nat} {tg e o ix : Expr} {es : List Expr} {p pos : Pos} {M1 : Env → List Ob → Option (D × List Ob)} {A1 : Env → List Ob → Option (List D × List Ob)} {Fi : Env → Option D}
/-! ### del o[i], o gives a list that changes -/
def mDelE (M0 : Env → List Ob → Option (D × List Ob)) (Fi : Env → Option D) : Env → List Ob → Option MOut := fun ρ S => match M0 ρ S with
  | some (.obj t, S0) => (match Fi ρ with
    | some (.int z) => (match S0[t]? with
      | some o => if o.k = .lst ∧ -(2 ^ 63) ≤ z ∧ z < 2 ^ 63 then (match ixN o.xs.length z with | some j => some (.nx ρ (setL S0 t (o.xs.eraseIdx j))) | none => none) else none
      | none => none)
    | _ => none)
  | _ => none
/-! ### xs.pop(i) as a value -/
def mPopV (i : Nat) (Fi : Env → Option D) : Env → List Ob → Option (D × List Ob) := fun ρ S => match ρ[i]? with
  | some (some (.obj t)) => (match Fi ρ with
    | some (.int z) => (match S[t]? with
      | some o => if o.k = .lst ∧ -(2 ^ 63) ≤ z ∧ z < 2 ^ 63 then (match ixN o.xs.length z with | some j => (match o.xs[j]? with | some d => some (d, setL S t (o.xs.eraseIdx j)) | none => none) | none => none) else none
      | none => none)
    | _ => none)
  | _ => none
/-! ### o(..), the class of o has __call__ -/
end
structure CalO (P : Program) (w : World) (K : PySem.W.Frag) (mg : Str → Option Value) (base : Heap) (k : Nat) (c : Str) (n : Nat) (mir : List D → List Ob → Option (D × List Ob)) : Prop where
  ok : ∃ (f : Addr) (fd : FuncData) (ps : List Str), FnOk P w K mg base CX0 k f fd ps (spE K n mir) ∧ StX.CallO K (He.ga K c) f ∧ Binds K fd ps []
section
variable {P : Program} {w : World} {K : PySem.W.Frag} {mg : Str → Option Value} {base : Heap} {k : Nat} {ps N : List Str} {q c : Str} {st : Stmt} {G : Env → List Ob → Option MOut} {kws : List (Str × V)}
end
def mCallO (c : Str) (n : Nat) (mir : List D → List Ob → Option (D × List Ob)) (M0 : Env → List Ob → Option (D × List Ob)) (A : Env → List Ob → Option (List D × List Ob)) : Env → List Ob → Option (D × List Ob) := fun ρ S => match M0 ρ S with
  | some (.obj i, S0) => (match A ρ S0 with
    | some (ds, S1) => (match S1[i]? with
      | some o => if o.k = .ins ∧ o.c = c ∧ ds.length + 1 = n then mir (.obj i :: ds) S1 else none
      | none => none)
    | none => none)
  | _ => none
section
variable {X : Cx} {O : List Nat} {e fe : Expr} {es : List Expr} {c : Str} {pos : Pos} {A1 : Env → List Ob → Option (List D × List Ob)} {M0 : Env → List Ob → Option (D × List Ob)} {k j n : Nat} {mir : List D → List Ob → Option (D × List Ob)}
end
/-! ### a default that is a tuple -/
def dfB (K : PySem.W.Frag) (c : Str) (i : Nat) (d : D) : Bool := cB K d (.ref (He.dflAt (c, some "__init__") i K))
/-! ### list(xs), xs a list that changes -/
def mListO (i : Nat) : Env → List Ob → Option (D × List Ob) := fun ρ S => match ρ[i]? with
  | some (some (.obj t)) => (match S[t]? with | some o => if o.k = .lst then some (.obj S.length, S ++ [⟨.lst, "", [], o.xs⟩]) else none | none => none)
  | _ => none
section
variable {X : Cx} {O : List Nat} {p xpos pos : Pos}
end
end FL
namespace FL
variable [HW]
open PySem PySem.Spec L2
/-! ### C.m(..), m a staticmethod -/
structure SFn (K : PySem.W.Frag) (C : Addr) (m : Str) (f : Addr) : Prop where
  rd : PySem.W.readsIn K C (.type "type") = true
  ga : PySem.W.specialIn K (.ref C) "__getattribute__" = some (some (.builtin "type.__getattribute__"))
  at_ : ∃ p rest, PySem.W.findCls K (.ref C) (.type "type") m = some (.get (.builtin "staticmethod.__get__") (.ref p) .none (.ref C)) ∧ PySem.W.recIn K p "staticmethod" = some (.ref f :: rest)
  kp : PySem.W.keepIn K (.ref f) = true
def smB (K : PySem.W.Frag) (c m : Str) : Bool :=
  PySem.W.readsIn K (He.ga K c) (.type "type") && (He.eqO (PySem.W.specialIn K (.ref (He.ga K c)) "__getattribute__") (some (some (.builtin "type.__getattribute__"))) &&
    ((match PySem.W.findCls K (.ref (He.ga K c)) (.type "type") m with | some (.get (.builtin g) (.ref p) .none (.ref C)) => decide (g = "staticmethod.__get__") && (decide (C = He.ga K c) && (match PySem.W.recIn K p "staticmethod" with | some (.ref f :: _) => decide (f = pAd K (He.ga K c) m) | _ => false)) | _ => false) &&
    PySem.W.keepIn K (.ref (pAd K (He.ga K c) m))))
theorem sm_ok {K : PySem.W.Frag} {c m : Str} (h : smB K c m = true) : SFn K (He.ga K c) m (pAd K (He.ga K c) m) := by
  unfold smB at h
  simp only [Bool.and_eq_true] at h
  obtain ⟨h1, h2, h3, h4⟩ := h
  refine ⟨h1, He.eqO_ok h2, ?_, h4⟩
  split at h3
  · rename_i g p C e
    obtain ⟨e1, h3⟩ := Bool.and_eq_true_iff.mp h3
    obtain ⟨e2, h3⟩ := Bool.and_eq_true_iff.mp h3
    split at h3
    · rename_i f rest e3
      refine ⟨p, rest, ?_, ?_⟩
      · rw [e, of_decide_eq_true e1, of_decide_eq_true e2]
      · rw [e3, of_decide_eq_true h3]
    · cases h3
  · cases h3
section
variable {X : Cx} {O : List Nat} {e o : Expr} {es : List Expr} {c m : Str} {p pos apos : Pos} {C fa : Addr} {CX : CXT} {k j n : Nat} {fd : FuncData} {ps : List Str} {sp : Sp} {E : XK} {ta : TE} {t : TA} {Fs : Env → Option (List D)} {mir : List D → Option D}
theorem pe_sfn {pl : Sem Bool} (he : PE X o ta) (c : SFn X.K C m fa) (F : FnOk X.prog X.w X.K X.mg X.base CX k fa fd ps sp) (hr : Room k X.A) (hb : Binds X.K fd ps []) (hx : Passes CX X E) (ha : PA X (e :: es) t)
    (hst : starEach (e :: es) X.env = (false, eval e X.env) :: starEach es X.env := by rfl) (hpl : (backTo pos (starEach es X.env)).any (·.1) = false := by rfl)
    (ht : eval (.Call (.Attribute o m apos) (e :: es) [] pos) X.env = (do
      let ov ← eval o X.env
      standAt apos.atName
      let (f, first) ← holding [ov] (getMethod ov m pl)
      callWith pos f first (backTo pos (starEach (e :: es) X.env)) (backToKw pos (keywordEach [] X.env))) := by rfl) :
    PE X (.Call (.Attribute o m apos) (e :: es) [] pos) (tCFn C sp [] E ta t) := by
  refine ⟨fun pins s σ H Q I h => ?_⟩
  refine PySem.W.methodCall_KW (pl := pl) (thn (he.run pins s σ H _ I h) fun u s1 ⟨x, H1, I1, rx, ex, q⟩ => ?_) ht
  subst ex
  obtain rfl : u = Value.ref C := rx
  obtain ⟨q0, rest, hat, hrc⟩ := c.at_
  refine PySem.W.method_cls I1.kIn c.ga (PySem.W.cls_bind I1.kIn c.rd hat (wpAny_call (PySem.W.sm_get (s := { s1 with toks := s1.toks + 1 }) I1.kIn hrc (PySem.W.handed_on rfl ?_))))
  have I2 := I1.tok (s1.toks + 1)
  refine PySem.W.callWith_K (first := []) (h₀ := X.base) I.ok.mod.kin c.kp (thn (ha.run pos pins _ σ H1 _ I2 q) fun us s2 ⟨vs, H2, I3, r, q2⟩ => ⟨I3.kIn, ?_⟩) hst hpl
  exact run_fn (us := us) (vs := vs) (dvs := []) (ds := []) F hr hb .nil hx I3 r q2
structure CalSF (P : Program) (w : World) (K : PySem.W.Frag) (mg : Str → Option Value) (base : Heap) (k : Nat) (c m : Str) (n : Nat) (mir : List D → Option D) : Prop where
  ok : ∃ (f : Addr) (fd : FuncData) (ps : List Str), FnOk P w K mg base CX0 k f fd ps (spF K false n mir) ∧ mg c = some (.ref (He.ga K c)) ∧ SFn K (He.ga K c) m f ∧ Binds K fd ps []
theorem fe_sfn {pl : Sem Bool} (cm : CalSF X.prog X.w X.K X.mg X.base j c m n mir) (hr : Room k X.A) (hk : j ≤ k) (hg : Gl X c) (ha : FA X O (e :: es) Fs) (hdb : (c == ("__debug__" : Str)) = false := by decide +kernel)
    (hst : starEach (e :: es) X.env = (false, eval e X.env) :: starEach es X.env := by rfl) (hpl : (backTo pos (starEach es X.env)).any (·.1) = false := by rfl)
    (ht : eval (.Call (.Attribute (.Name c p) m apos) (e :: es) [] pos) X.env = (do
      let ov ← eval (.Name c p) X.env
      standAt apos.atName
      let (f, first) ← holding [ov] (getMethod ov m pl)
      callWith pos f first (backTo pos (starEach (e :: es) X.env)) (backToKw pos (keywordEach [] X.env))) := by rfl) : FE X O (.Call (.Attribute (.Name c p) m apos) (e :: es) [] pos) (eL (mL n mir) Fs) := by
  obtain ⟨f, fd, ps, Fn, hmg, hc, hb⟩ := cm.ok
  intro φ Hf0 H0 ρ σ Hf H d Q S hF q
  obtain ⟨ds, h1, h2⟩ := eL_some hF
  unfold mL at h2
  split at h2
  · rename_i hl
    refine toE (pe_sfn (pl := pl) (pe_glob hg hmg (v := .ref (He.ga X.K c)) rfl hdb) hc Fn (hr.mono hk) hb pass0 paW hst hpl ht) ?_
    refine ⟨rfl, ?_⟩
    refine ha φ Hf0 H0 ρ σ Hf H ds _ S h1 fun vs Hf1 H1 g1 r1 => ?_
    refine ⟨φ, Hf1, ds, d, g1.s, by rw [List.append_nil]; exact r1, hl, h2, fun v Hf2 H2 g2 r2 => q v Hf2 H2 (g1.trans g2) r2⟩
  · cases h2
end
section
variable {P : Program} {w : World} {K : PySem.W.Frag} {mg : Str → Option Value} {base : Heap} {k : Nat} {ps N : List Str} {q c m : Str} {st : Stmt} {Gp : Env → Option Out}
theorem calSF_of {N' n : Nat} (Dd : FnAt K m q st [] [] (pAd K (He.ga K c) m)) (hg : mg c = some (.ref (He.ga K c))) (hc : smB K c m = true) (S : FnScope N ps (defScope st)) (hN : N' = N.length) (hn : n = ps.length)
    (hbind : ∀ (kV doc pm : Value) (an : Option Addr) (cdv ct : Value) (us : List Value), us.length = ps.length → bindArgs (PySem.W.fnOf m q (defArgs st) (defBody st) (defScope st) .none kV doc pm an cdv ct) ⟨us, []⟩ = pure (ps.zip us))
    (O' : List Nat)
    (hb : ∀ (cdv : Value) (A : Around) (outer : List PySem.Env) (s : Shared) (H : Hp) (E : XK), Room k (A.deeper (PyProof.Rows.envOfC q (defScope st) s.heap.objs.size (pAd K (He.ga K c) m) cdv)) →
      FSs (cxOf CX0 P w K mg base N q (defScope st) (pAd K (He.ga K c) m) cdv A outer s H E).nox false [] [] O' (defBody st) Gp) : CalSF P w K mg base (k + 1) c m n (runD false N' n Gp) := by
  obtain ⟨fd, F⟩ := Dd
  exact ⟨_, fd, ps, fnOk_by F S hN hn O' hb, hg, sm_ok hc, FunD.bindsN F hbind⟩
end
end FL
namespace FL
variable [HW]
open PySem PySem.Spec L2
/-! ### a walk over an own object, a list or a tuple -/
def iOwnSeq (c g : Str) (F : Env → Option D) : Env → Option (List D) := fun ρ => match F ρ with | some (.ins _ _ _) => iOwn c g F ρ | _ => iSeq isSeq F ρ
end FL
namespace FL
variable [HW]
open PySem PySem.Spec L2 PyProof.Rows

/-! ### dicts whose keys are tuples of bools, ints, None -/
theorem dk_addr {P : Program} {w : World} [WW w] {H : Hp} {h : Heap} {a a' : Addr} {es : List DictEntry} (x : ObjOk P w H h a (dkO a' es)) : a' = a := by
  obtain ⟨⟨hs, o, ep, ho, hc, hd⟩, _, st⟩ := x
  by_cases e : a' = a
  · exact e
  · exfalso
    have q := st h (h.update a' (fun _ => { cls := .type "list", dict := none, data := .seq #[] 0, slots := #[] })) ⟨hs, o, ep, ho, hc, hd⟩ (fun ob q => (Heap.get?_update_other _ _ e).trans q)
    obtain ⟨_, o2, ep2, ho2, _, hd2⟩ := q
    rw [Heap.get?_update_self _ ho rfl] at ho2
    cases ho2
    cases hd2
def kget {α : Type} (k : NestedKey) : List NestedKey → List α → Option α
  | n :: ns, x :: xs => if NestedKey.beq n k = true then some x else kget k ns xs
  | _, _ => none
def khas (k : NestedKey) : List NestedKey → Bool
  | [] => false
  | n :: ns => NestedKey.beq n k || khas k ns
def krpl {α : Type} (k : NestedKey) (x : α) : List NestedKey → List α → List α
  | n :: ns, y :: ys => if NestedKey.beq n k = true then x :: ys else y :: krpl k x ns ys
  | _, ys => ys
def kput {α : Type} (k : NestedKey) (ns : List NestedKey) (b : α) (as : List α) : List α := if khas k ns = true then as else as ++ [b]
def kputX {α : Type} (k : NestedKey) (x : α) (ns : List NestedKey) (xs : List α) : List α := if khas k ns = true then krpl k x ns xs else xs ++ [x]
theorem krpl_len {α : Type} (k : NestedKey) (x : α) : ∀ (ns : List NestedKey) (xs : List α), (krpl k x ns xs).length = xs.length
  | [], xs => by unfold krpl; rfl
  | _ :: _, [] => by unfold krpl; rfl
  | n :: ns, y :: ys => by
    unfold krpl
    split
    · rfl
    · simp [krpl_len k x ns ys]
theorem kputX_len {α β : Type} (k : NestedKey) (x : α) (b : β) (ns : List NestedKey) (xs : List α) (as : List β) (h : as.length = xs.length) : (kput k ns b as).length = (kputX k x ns xs).length := by
  unfold kput kputX
  split
  · rw [krpl_len]; exact h
  · simp [h]
section
variable {K : PySem.W.Frag} {φ : Nat → Option Addr} {H : Hp}
theorem RpAll.kget (k : NestedKey) : ∀ (ns : List NestedKey) {xs : List D} {vs : List V}, RpAll K φ H xs vs → (∀ d, FL.kget k ns xs = some d → ∃ v, FL.kget k ns vs = some v ∧ Rp K φ H d v) ∧ (FL.kget k ns xs = none → FL.kget k ns vs = none)
  | [], _, _, r => ⟨fun d e => (by unfold FL.kget at e; cases e), fun _ => by unfold FL.kget; rfl⟩
  | n :: ns, _, _, .nil => ⟨fun d e => (by unfold FL.kget at e; cases e), fun _ => by unfold FL.kget; rfl⟩
  | n :: ns, _, _, .cons q t => by
    have ih := RpAll.kget k ns t
    unfold FL.kget
    split
    · exact ⟨fun d e => by cases e; exact ⟨_, rfl, q⟩, fun e => by cases e⟩
    · exact ih
theorem RpAll.krpl {k : NestedKey} {d : D} {v : V} (q : Rp K φ H d v) : ∀ (ns : List NestedKey) {xs : List D} {vs : List V}, RpAll K φ H xs vs → RpAll K φ H (FL.krpl k d ns xs) (FL.krpl k v ns vs)
  | [], _, _, r => by unfold FL.krpl; exact r
  | n :: ns, _, _, .nil => by unfold FL.krpl; exact .nil
  | n :: ns, _, _, .cons q0 t => by
    unfold FL.krpl
    split
    · exact .cons q t
    · exact .cons q0 (RpAll.krpl q ns t)
theorem RpAll.kputX {k : NestedKey} {d : D} {v : V} (q : Rp K φ H d v) {ns : List NestedKey} {xs : List D} {vs : List V} (r : RpAll K φ H xs vs) : RpAll K φ H (FL.kputX k d ns xs) (FL.kputX k v ns vs) := by
  unfold FL.kputX
  split
  · exact RpAll.krpl q ns r
  · exact r.append (.one q)
end
theorem Vals.kget (k : NestedKey) : ∀ (ns : List NestedKey) {vs : List V} {us : List Value}, Vals vs us → (∀ v, FL.kget k ns vs = some v → ∃ u, FL.kget k ns us = some u ∧ RelV v u) ∧ (FL.kget k ns vs = none → FL.kget k ns us = none)
  | [], _, _, r => ⟨fun d e => (by unfold FL.kget at e; cases e), fun _ => by unfold FL.kget; rfl⟩
  | n :: ns, _, _, .nil => ⟨fun d e => (by unfold FL.kget at e; cases e), fun _ => by unfold FL.kget; rfl⟩
  | n :: ns, _, _, .cons q t => by
    have ih := Vals.kget k ns t
    unfold FL.kget
    split
    · exact ⟨fun d e => by cases e; exact ⟨_, rfl, q⟩, fun e => by cases e⟩
    · exact ih
theorem Vals.krpl {k : NestedKey} {v : V} {u : Value} (q : RelV v u) : ∀ (ns : List NestedKey) {vs : List V} {us : List Value}, Vals vs us → Vals (FL.krpl k v ns vs) (FL.krpl k u ns us)
  | [], _, _, r => by unfold FL.krpl; exact r
  | n :: ns, _, _, .nil => by unfold FL.krpl; exact .nil
  | n :: ns, _, _, .cons q0 t => by
    unfold FL.krpl
    split
    · exact .cons q t
    · exact .cons q0 (Vals.krpl q ns t)
theorem Vals.kputX {k : NestedKey} {v : V} {u : Value} (q : RelV v u) {ns : List NestedKey} {vs : List V} {us : List Value} (r : Vals vs us) : Vals (FL.kputX k v ns vs) (FL.kputX k u ns us) := by
  unfold FL.kputX
  split
  · exact Vals.krpl q ns r
  · exact r.append (.cons q .nil)
/-! keys -/
section
variable {X : Cx} [WW X.w] {pins : List (Addr × Obj)} {σ : L2.St} {H : Hp} {s : Shared} {φ : Nat → Option Addr}
mutual
theorem nq_is (I : Inv X pins σ H s) : ∀ {d : D} {v : V} {u : Value} {k : NestedKey}, nq d = some k → Rp X.K φ H d v → RelV v u → NestedIs s.heap k u
  | .non, _, _, _, h, .non, r => by cases h; cases r; exact .none
  | .bl b, _, _, _, h, .bl _, r => by cases h; cases r; exact .bool rfl
  | .int i, _, _, _, h, .int _, r => by
    cases h
    obtain ⟨t, rfl⟩ := r
    exact .int i t
  | .str x, _, _, _, h, .str _, r => by
    cases h
    obtain ⟨t, rfl⟩ := r
    exact .text x t
  | .tup ds, _, _, _, h, .tup (a := a) (vs := vs) q t, r => by
    unfold nq at h
    split at h
    · rename_i ks hk
      cases h
      cases r
      obtain ⟨its, rv, ⟨o, h1, h2, n, h3⟩, hz⟩ := I.tuple q
      exact .tup h1 h2 h3 (nqAll_is I hk t rv)
    · cases h
  | .lst _, _, _, _, h, _, _ => by cases h
  | .klst _, _, _, _, h, _, _ => by cases h
  | .obj _, _, _, _, h, _, _ => by cases h
  | .ins _ _ _, _, _, _, h, _, _ => by cases h
  | .dct _ _, _, _, _, h, _, _ => by cases h
  | .dkt _ _ _, _, _, _, h, _, _ => by cases h
  | .xtp _, _, _, _, h, _, _ => by cases h
theorem nqAll_is (I : Inv X pins σ H s) : ∀ {ds : List D} {vs : List V} {us : List Value} {ks : List NestedKey}, nqAll ds = some ks → RpAll X.K φ H ds vs → Vals vs us → NestedAll s.heap ks us
  | [], _, _, _, h, .nil, r => by cases h; cases r; exact .nil
  | d :: ds, _, _, _, h, .cons q t, .cons r rs => by
    unfold nqAll at h
    split at h
    · rename_i k hk
      split at h
      · rename_i ks hks
        cases h
        exact .cons (nq_is I hk q r) (nqAll_is I hks t rs)
      · cases h
    · cases h
end
end
mutual
theorem nq_hash (w : World) [WW w] : ∀ {d : D} {k : NestedKey}, nq d = some k → k.hash w = hsh k
  | .non, _, h => by cases h; rfl
  | .bl b, _, h => by cases h; rfl
  | .int i, _, h => by cases h; rfl
  | .tup ds, _, h => by
    unfold nq at h
    split at h
    · rename_i ks hk
      cases h
      unfold NestedKey.hash hsh
      rw [nqAll_hash w hk]
    · cases h
  | .str x, _, h => by
    cases h
    unfold NestedKey.hash hsh
    exact WW.ok x
  | .lst _, _, h => by cases h
  | .klst _, _, h => by cases h
  | .obj _, _, h => by cases h
  | .ins _ _ _, _, h => by cases h
  | .dct _ _, _, h => by cases h
  | .dkt _ _ _, _, h => by cases h
  | .xtp _, _, h => by cases h
theorem nqAll_hash (w : World) [WW w] : ∀ {ds : List D} {ks : List NestedKey}, nqAll ds = some ks → NestedKey.hashes w ks = hshs ks
  | [], _, h => by cases h; rfl
  | d :: ds, _, h => by
    unfold nqAll at h
    split at h
    · rename_i k hk
      split at h
      · rename_i ks hks
        cases h
        unfold NestedKey.hashes hshs
        rw [nq_hash w hk, nqAll_hash w hks]
      · cases h
    · cases h
end
theorem nqAll_len : ∀ {ds : List D} {ks : List NestedKey}, nqAll ds = some ks → ks.length = ds.length
  | [], _, h => by cases h; rfl
  | d :: ds, _, h => by
    unfold nqAll at h
    split at h
    · split at h
      · rename_i ks hks
        cases h
        simp [nqAll_len hks]
      · cases h
    · cases h
theorem nqAll_snoc {d : D} {k : NestedKey} (h1 : nq d = some k) : ∀ {ds : List D} {ks : List NestedKey}, nqAll ds = some ks → nqAll (ds ++ [d]) = some (ks ++ [k])
  | [], _, h => by cases h; show nqAll [d] = _; unfold nqAll; rw [h1]; rfl
  | e :: ds, _, h => by
    unfold nqAll at h
    split at h
    · rename_i k' hk
      split at h
      · rename_i ks hks
        cases h
        show nqAll (e :: (ds ++ [d])) = _
        unfold nqAll
        rw [hk, nqAll_snoc h1 hks]
        rfl
      · cases h
    · cases h
def z3 : List NestedKey → List Addr → List Value → List (NestedKey × Addr × Value)
  | n :: ns, a :: as, u :: us => (n, a, u) :: z3 ns as us
  | _, _, _ => []
theorem kents_z3 {P : Program} {w : World} [WW w] : ∀ {ns : List NestedKey} {as : List Addr} {us : List Value}, NestedKey.hashes w ns = hshs ns → kents ns as us = (z3 ns as us).map (entryOfKey (nestedKind P w))
  | [], _, _, _ => by unfold kents z3; rfl
  | n :: ns, [], _, _ => by unfold kents z3; rfl
  | n :: ns, a :: as, [], _ => by unfold kents z3; rfl
  | n :: ns, a :: as, u :: us, h => by
    unfold NestedKey.hashes hshs at h
    injection h with h1 h2
    unfold kents z3
    rw [List.map_cons, ← kents_z3 h2]
    congr 1
    show DictEntry.mk (hsh n) (.ref a) u = DictEntry.mk (NestedKey.hash w n) (.ref a) u
    rw [h1]
theorem z3_keys : ∀ {ns : List NestedKey} {as : List Addr} {us : List Value}, ns.length = as.length → ns.length = us.length → (z3 ns as us).map (·.1) = ns
  | [], _, _, _, _ => by unfold z3; rfl
  | n :: ns, [], _, h, _ => by simp at h
  | n :: ns, a :: as, [], _, h => by simp at h
  | n :: ns, a :: as, u :: us, h1, h2 => by
    unfold z3
    rw [List.map_cons, z3_keys (by simpa using h1) (by simpa using h2)]
theorem khas_mem (k : NestedKey) : ∀ ns : List NestedKey, khas k ns = true ↔ k ∈ ns
  | [] => by simp [khas]
  | n :: ns => by
    unfold khas
    rw [Bool.or_eq_true, khas_mem k ns, ← NestedKey.decide_eq, decide_eq_true_eq, List.mem_cons]
    exact ⟨fun h => h.imp Eq.symm id, fun h => h.imp Eq.symm id⟩
theorem kput_nodup {k : NestedKey} {ns : List NestedKey} (nd : ns.Nodup) : (kput k ns k ns).Nodup := by
  unfold kput
  split
  · exact nd
  · rename_i h
    rw [List.nodup_append]
    exact ⟨nd, by simp, fun y hy z hz => by
      have hz' : z = k := by simpa using hz
      subst hz'
      rintro rfl
      exact h ((khas_mem _ _).mpr hy)⟩
theorem depthAll_snoc : ∀ (ns : List NestedKey) (k : NestedKey), NestedKey.depthAll ns ≤ 8 → k.depth ≤ 8 → NestedKey.depthAll (ns ++ [k]) ≤ 8
  | [], k, _, h => by show NestedKey.depthAll [k] ≤ 8; unfold NestedKey.depthAll NestedKey.depthAll; omega
  | n :: ns, k, h1, h2 => by
    unfold NestedKey.depthAll at h1
    show NestedKey.depthAll (n :: (ns ++ [k])) ≤ 8
    unfold NestedKey.depthAll
    have := depthAll_snoc ns k (by omega) h2
    omega
theorem depth_mem : ∀ {ns : List NestedKey} {k : NestedKey}, k ∈ ns → NestedKey.depthAll ns ≤ 8 → k.depth ≤ 8
  | n :: ns, k, h, hd => by
    unfold NestedKey.depthAll at hd
    rcases List.mem_cons.mp h with rfl | h
    · omega
    · exact depth_mem h (by omega)
structure DkO (K : PySem.W.Frag) (H : Hp) (x : Option HO) (ns : List NestedKey) (as : List Addr) (vs : List V) (us : List Value) : Prop where
  at_ : ∃ a', x = some (dkO a' (kents ns as us)) ∨ ∃ o, x = some (.frz o (dkO a' (kents ns as us)))
  keys : ∃ φ ks, nqAll ks = some ns ∧ RpAll K φ H ks (as.map V.ref)
  nd : ns.Nodup
  dp : NestedKey.depthAll ns ≤ 8
  len : ns.length ≤ 1000000
  lv : ns.length = vs.length
  rv : Vals vs us
structure KyO (K : PySem.W.Frag) (H : Hp) (k : NestedKey) (b : Addr) : Prop where
  dp : k.depth ≤ 8
  at_ : ∃ φ d, nq d = some k ∧ Rp K φ H d (.ref b)
section
variable {X : Cx} [WW X.w] {pins : List (Addr × Obj)} {σ : L2.St} {H : Hp} {s : Shared} {a b : Addr} {ns : List NestedKey} {as : List Addr} {vs : List V} {us : List Value} {k : NestedKey}
theorem KyO.is (I : Inv X pins σ H s) (h : KyO X.K H k b) : (nestedKind X.prog X.w).is s.heap k b := by
  obtain ⟨φ, d, h1, h2⟩ := h.at_
  exact ⟨nq_is I h1 h2 rfl, h.dp⟩
theorem DkO.la {K : PySem.W.Frag} {x : Option HO} (h : DkO K H x ns as vs us) : ns.length = as.length := by
  obtain ⟨φ, ks, h1, h2⟩ := h.keys
  rw [nqAll_len h1, h2.length, List.length_map]
theorem DkO.lu {K : PySem.W.Frag} {x : Option HO} (h : DkO K H x ns as vs us) : ns.length = us.length := h.lv.trans h.rv.length
theorem nested_mem {h : Heap} : ∀ {ns : List NestedKey} {as : List Addr} {us : List Value}, NestedAll h ns (as.map Value.ref) → ∀ x ∈ z3 ns as us, NestedIs h x.1 (.ref x.2.1)
  | [], _, _, _, x, hx => by unfold z3 at hx; cases hx
  | n :: ns, [], _, _, x, hx => by unfold z3 at hx; cases hx
  | n :: ns, a :: as, [], _, x, hx => by unfold z3 at hx; cases hx
  | n :: ns, a :: as, u :: us, q, x, hx => by
    cases q with
    | cons q1 q2 =>
      unfold z3 at hx
      rcases List.mem_cons.mp hx with rfl | hx
      · exact q1
      · exact nested_mem q2 x hx
theorem z3_mem {x : NestedKey × Addr × Value} : ∀ {ns : List NestedKey} {as : List Addr} {us : List Value}, x ∈ z3 ns as us → x.1 ∈ ns
  | [], _, _, h => by unfold z3 at h; cases h
  | n :: ns, [], _, h => by unfold z3 at h; cases h
  | n :: ns, a :: as, [], h => by unfold z3 at h; cases h
  | n :: ns, a :: as, u :: us, h => by
    unfold z3 at h
    rcases List.mem_cons.mp h with rfl | h
    · exact List.mem_cons_self
    · exact List.mem_cons_of_mem _ (z3_mem h)
theorem vals_ref : ∀ as : List Addr, Vals (as.map V.ref) (as.map Value.ref)
  | [] => .nil
  | _ :: as => .cons rfl (vals_ref as)
theorem DkO.of (I : Inv X pins σ H s) (h : DkO X.K H (H a) ns as vs us) : (a == sysModules) = false ∧ s.heap.DictOfH (nestedKind X.prog X.w) a (z3 ns as us) ∧ ∃ o ep, s.heap.get? a = some o ∧ o.ExactDict ∧ o.data = .dict (kents ns as us).toArray ep := by
  obtain ⟨φ, ks, h1, h2⟩ := h.keys
  have ok : ∃ a', ObjOk X.prog X.w H s.heap a (dkO a' (kents ns as us)) := by
    obtain ⟨a', e | ⟨o, e⟩⟩ := h.at_
    · exact ⟨a', I.hok _ _ e⟩
    · exact ⟨a', (I.hok _ _ e).2⟩
  obtain ⟨a', ok⟩ := ok
  have ea := dk_addr ok
  subst ea
  obtain ⟨⟨hs, o, ep, ho, hc, hd⟩, _, _⟩ := ok
  refine ⟨hs, ⟨o, _, ep, ho, hc, hd, ?_, fun x hx => ⟨nested_mem (nqAll_is I h1 h2 (vals_ref as)) x hx, depth_mem (z3_mem hx) h.dp⟩, ?_⟩, o, ep, ho, hc, hd⟩
  · rw [List.toList_toArray]; exact kents_z3 (nqAll_hash _ h1)
  · rw [z3_keys h.la h.lu]; exact h.nd
end
end FL
namespace FL
variable [HW]
open PySem PySem.Spec L2 PyProof.Rows

/-! ### reading -/
def keyD : D → Option NestedKey
  | .tup ds => (match nq (.tup ds) with | some k => if k.depth ≤ 8 then some k else none | none => none)
  | _ => none
theorem Rp.open {K : PySem.W.Frag} {φ : Nat → Option Addr} {Hf H : Hp} {fz : Bool} {ks ds : List D} {v : V} (s : Same Hf H) (r : Rp K φ Hf (.dkt fz ks ds) v) : ∃ a ns as vs us, v = .ref a ∧ DkO K H (H a) ns as vs us ∧ nqAll ks = some ns ∧ RpAll K φ Hf ds vs ∧ RpAll K φ Hf ks (as.map V.ref) ∧ (fz = true → ∃ o a', Hf a = some (.frz o (dkO a' (kents ns as us)))) := by
  cases r with
  | dkt e h1 h2 h3 h4 h5 h6 h7 h8 =>
    refine ⟨_, _, _, _, _, rfl, ⟨?_, ⟨φ, _, h1, h7.mono s⟩, h2, h3, by rw [nqAll_len h1]; exact h5, by rw [nqAll_len h1, h4, h8.length], h6⟩, h1, h8, h7, ?_⟩
    · cases fz with
      | true => obtain ⟨o, e⟩ := e; exact ⟨_, .inr ⟨o, s _ _ e⟩⟩
      | false =>
        rcases e with e | ⟨o, e⟩
        · exact ⟨_, .inl (s _ _ e)⟩
        · exact ⟨_, .inr ⟨o, s _ _ e⟩⟩
    · intro z
      subst z
      obtain ⟨o, e⟩ := e
      exact ⟨o, _, e⟩
theorem DkO.mono {K : PySem.W.Frag} {H H' : Hp} {a : Addr} {ns : List NestedKey} {as : List Addr} {vs : List V} {us : List Value} (s : Same H H') (h : DkO K H (H a) ns as vs us) : DkO K H' (H' a) ns as vs us := by
  obtain ⟨⟨a', e⟩, ⟨φ, ks, k1, k2⟩, r⟩ := h
  exact ⟨⟨a', e.imp (s _ _) fun ⟨o, e⟩ => ⟨o, s _ _ e⟩⟩, ⟨φ, ks, k1, k2.mono s⟩, r, ‹_›, ‹_›, ‹_›, ‹_›⟩
section
variable {X : Cx} [WW X.w] {pins : List (Addr × Obj)} {σ : L2.St} {H : Hp} {s : Shared} {a b : Addr} {ns : List NestedKey} {as : List Addr} {vs : List V} {us : List Value} {k : NestedKey} {A : Around} {E : Value → Shared → Prop}
end
def tKGet (K : PySem.W.Frag) (td ty : TE) : TE := fun σ H Q => td σ H fun x H1 => ty σ H1 fun y H2 => ∃ a b ns as vs us k v, x = .ref a ∧ y = .ref b ∧ DkO K H2 (H2 a) ns as vs us ∧ KyO K H2 k b ∧ kget k ns vs = some v ∧ Q v H2
def tKGet2 (K : PySem.W.Frag) (td ty tx : TE) : TE := fun σ H Q => td σ H fun x H1 => ∃ a ns0 as0 vs0 us0, x = .ref a ∧ DkO K H1 (H1 a) ns0 as0 vs0 us0 ∧ ty σ H1 fun y H2 => tx σ H2 fun z H3 => ∃ b ns as vs us k, y = .ref b ∧ DkO K H3 (H3 a) ns as vs us ∧ KyO K H3 k b ∧ Q ((kget k ns vs).getD z) H3
def tKIn (K : PySem.W.Frag) (neg : Bool) (ty td : TE) : TE := fun σ H Q => ty σ H fun y H1 => td σ H1 fun x H2 => ∃ a b ns as vs us k, x = .ref a ∧ y = .ref b ∧ DkO K H2 (H2 a) ns as vs us ∧ KyO K H2 k b ∧ Q (.bl (if neg then !khas k ns else khas k ns)) H2
section
variable {X : Cx} [WW X.w] {o i e f : Expr} {pos apos cpos : Pos} {td ty tx : TE}
def tKTru (K : PySem.W.Frag) (td : TE) : TT := fun σ H Q => td σ H fun x H1 => ∃ a ns as vs us, x = .ref a ∧ DkO K H1 (H1 a) ns as vs us ∧ Q (!ns.isEmpty) H1
end
/-! as data -/
def dkGet (x y : D) : Option D := match x with
  | .dkt _ ks ds => (match nqAll ks with | some ns => (match keyD y with | some k => kget k ns ds | none => none) | none => none)
  | _ => none
def dkGet2 (x y z : D) : Option D := match x with
  | .dkt _ ks ds => (match nqAll ks with | some ns => (match keyD y with | some k => some ((kget k ns ds).getD z) | none => none) | none => none)
  | _ => none
def dkIn (neg : Bool) (y x : D) : Option D := match x with
  | .dkt _ ks ds => (match nqAll ks with | some ns => (match keyD y with | some k => some (.bl (if neg then !khas k ns else khas k ns)) | none => none) | none => none)
  | _ => none
def e3 (f : D → D → D → Option D) (F G E : Env → Option D) : Env → Option D := fun ρ => match F ρ with
  | some x => (match G ρ with | some y => (match E ρ with | some z => f x y z | none => none) | none => none)
  | none => none
section
variable {X : Cx} [WW X.w] {O : List Nat} {o i e f : Expr} {pos apos cpos : Pos} {F G E : Env → Option D}
def truK : D → Option Bool
  | .dkt _ ks _ => some (!ks.isEmpty)
  | _ => none
end
end FL
namespace FL
variable [HW]
open PySem PySem.Spec L2 PyProof.Rows

/-! ### walks over the entries -/
section
variable {X : Cx} [WW X.w] {pins : List (Addr × Obj)} {σ : L2.St} {H : Hp} {s : Shared} {d a' : Addr} {o : Obj} {es : List DictEntry}
end
def Itki (d : Addr) (o : Obj) (a' : Addr) (es : List DictEntry) (as : List Addr) (vs : List V) : It :=
  ⟨fun i H => H d = some (.frz o (dkO a' es)) ∧ i < es.length, fun i H x H' => ∃ T q v, as[i]? = some q ∧ vs[i]? = some v ∧ x = .ref T ∧ H T = none ∧ H' = upd H T (.tup [.ref q, v]), fun i H => H d = some (.frz o (dkO a' es)) ∧ es.length ≤ i⟩
def iKItems (K : PySem.W.Frag) (td : TE) : TI := fun σ H R => td σ H fun x H1 => ∃ d o a' ns as us vs, x = .ref d ∧ H1 d = some (.frz o (dkO a' (kents ns as us))) ∧ ns.length = as.length ∧ Vals vs us ∧ ns.length = vs.length ∧ R (Itki d o a' (kents ns as us) as vs) H1
section
variable {X : Cx} [WW X.w] {tg e : Expr} {td : TE} {apos cpos : Pos}
end
def kitD : List D → List D → List D
  | k :: ks, d :: ds => .tup [k, d] :: kitD ks ds
  | _, _ => []
def jKItems (M1 : Env → List Ob → Option (D × List Ob)) : Env → List Ob → Option (List D × List Ob) := fun ρ S => match M1 ρ S with
  | some (.dkt true ks ds, S') => some (kitD ks ds, S')
  | _ => none
section
variable {X : Cx} [WW X.w] {O : List Nat} {e : Expr} {apos cpos : Pos} {M1 : Env → List Ob → Option (D × List Ob)}
end
end FL
namespace FL
variable [HW]
open PySem PySem.Spec L2 PyProof.Rows

/-! ### new dicts, stores -/
def tKNew : TE := fun _ H Q => ∀ p, H p = none → Q (.ref p) (upd H p (dkO p []))
def tKDisp (K : PySem.W.Frag) (tk tv : TE) : TE := fun σ H Q => ∀ p, H p = none → tk σ (upd H p (dkO p [])) fun y H1 => tv σ H1 fun v H2 => ∃ b k, y = .ref b ∧ H2 p = some (dkO p []) ∧ KyO K H2 k b ∧ ∀ u, RelV v u → Q (.ref p) (upd H2 p (dkO p (kents [k] [b] [u])))
def sKPut (K : PySem.W.Frag) (td ty tv : TE) : TS := fun D σ H => tv σ H fun v H1 => td σ H1 fun x H2 => ty σ H2 fun y H3 => ∃ a b a' ns as vs us k, x = .ref a ∧ y = .ref b ∧ H3 a = some (dkO a' (kents ns as us)) ∧ DkO K H3 (H3 a) ns as vs us ∧ KyO K H3 k b ∧ ns.length < 1000000 ∧
  ∀ u, RelV v u → D.nx σ (upd H3 a (dkO a (kents (kput k ns k ns) (kput k ns b as) (kputX k u ns us))))
section
variable {X : Cx} [WW X.w] {pins : List (Addr × Obj)} {σ : L2.St} {H : Hp} {s : Shared} {a b a' : Addr} {ns : List NestedKey} {as : List Addr} {vs : List V} {us : List Value} {k : NestedKey} {A : Around} {E : Value → Shared → Prop}
end
section
variable {X : Cx} [WW X.w] {o i value kx vx : Expr} {pos pos' : Pos} {td ty tv tk : TE}
end
/-! fresh dicts -/
structure KNew (K : PySem.W.Frag) (φ : Nat → Option Addr) (Hf H : Hp) (a : Addr) (ks ds : List D) (ns : List NestedKey) (as : List Addr) (vs : List V) (us : List Value) : Prop where
  at_ : H a = some (dkO a (kents ns as us))
  nf : Hf a = none
  kn : nqAll ks = some ns
  nd : ns.Nodup
  dp : NestedKey.depthAll ns ≤ 8
  ll : ks.length = ds.length
  len : ks.length ≤ 1000000
  rv : Vals vs us
  rk : RpAll K φ Hf ks (as.map V.ref)
  rd : RpAll K φ Hf ds vs
def FDK (X : Cx) (O : List Nat) (e : Expr) (F : Env → Option D) : Prop :=
  ∀ (φ : Nat → Option Addr) (Hf0 H0 : Hp) (ρ : Env) (σ : L2.St) (Hf H : Hp) (d : D) (Q : VK), SR X.K φ Hf0 H0 O ρ σ Hf H → F ρ = some d →
    (∀ a ks ds ns as vs us Hf' H', d = .dkt false ks ds → Gr Hf H Hf' H' → H a = none → KNew X.K φ Hf' H' a ks ds ns as vs us → Q (.ref a) H') → wE X e σ H Q
def eFz (F : Env → Option D) : Env → Option D := fun ρ => match F ρ with | some (.dkt false ks ds) => some (.dkt true ks ds) | _ => none
section
variable {X : Cx} [WW X.w] {O : List Nat} {e kx vx : Expr} {F G : Env → Option D} {pos : Pos}
def eKD1 (F G : Env → Option D) : Env → Option D := fun ρ => match F ρ with
  | some y => (match keyD y with | some _ => (match G ρ with | some x => some (.dkt false [y] [x]) | none => none) | none => none)
  | none => none
def mDK (F : Env → Option D) : Env → List Ob → Option (D × List Ob) := fun ρ S => match F ρ with
  | some (.dkt false ks ds) => some (.obj S.length, S ++ [⟨.dkt, "", [], ks ++ ds⟩])
  | _ => none
def qLkK (F : Env → Option D) : Env → List Ob → Option (D × List Ob) := fun ρ S => match F (ρ.map (shE S)) with
  | some (.dkt false ks ds) => if (noInss ks && noInss ds) = true then some (.dkt true ks ds, S) else none
  | _ => none
end
end FL
namespace FL
variable [HW]
open PySem PySem.Spec L2 PyProof.Rows

/-! ### objects that are such dicts -/
theorem OAt.dkt {K : PySem.W.Frag} {φ : Nat → Option Addr} {Hf : Hp} {o : Ob} {x : Option HO} (h : OAt K φ Hf o x) (hk : o.k = .dkt) : ∃ (a' : Addr) (ks ds : List D) (ns : List NestedKey) (as : List Addr) (ws : List V) (us : List Value), x = Option.some (dkO a' (kents ns as us)) ∧ o.xs.take (o.xs.length / 2) = ks ∧ o.xs.drop (o.xs.length / 2) = ds ∧
    nqAll ks = Option.some ns ∧ ns.Nodup ∧ NestedKey.depthAll ns ≤ 8 ∧ ks.length = ds.length ∧ ks.length ≤ 1000000 ∧ Vals ws us ∧ RpAll K φ Hf ks (as.map V.ref) ∧ RpAll K φ Hf ds ws := by
  obtain ⟨vs, r, q⟩ := h
  rw [hk] at q
  obtain ⟨b, ks, ds, ns, as, ws, us, e1, e2, e3, e4, e5, e6, e7, e8, e9, e10⟩ := q
  rw [e2, e3] at r
  have hl : o.xs.length / 2 = ks.length := by rw [e2, List.length_append]; omega
  obtain ⟨r1, r2⟩ := RpAll.split (by rw [List.length_map]; exact e5) r
  exact ⟨b, ks, ds, ns, as, ws, us, e1, by rw [hl, e2, List.take_left], by rw [hl, e2, List.drop_left], e6, e7, e8, e4, e9, e10, r1, r2⟩
def mKGetO (M0 : Env → List Ob → Option (D × List Ob)) (Fi : Env → Option D) : Env → List Ob → Option (D × List Ob) := fun ρ S => match M0 ρ S with
  | some (.obj i, S1) => (match Fi ρ with
    | some y => (match S1[i]? with
      | some o => if o.k = .dkt then (match nqAll (o.xs.take (o.xs.length / 2)) with | some ns => (match keyD y with | some k => (match kget k ns (o.xs.drop (o.xs.length / 2)) with | some d => some (d, S1) | none => none) | none => none) | none => none) else none
      | none => none)
    | none => none)
  | _ => none
def kputXs (k : NestedKey) (y d : D) (ns : List NestedKey) (xs : List D) : List D := kput k ns y (xs.take (xs.length / 2)) ++ kputX k d ns (xs.drop (xs.length / 2))
def mPutK (M0 : Env → List Ob → Option (D × List Ob)) (Fi : Env → Option D) (M1 : Env → List Ob → Option (D × List Ob)) : Env → List Ob → Option MOut := fun ρ S => match M1 ρ S with
  | some (d, S1) => (match M0 ρ S1 with
    | some (.obj i, S2) => (match Fi ρ with
      | some y => (match S2[i]? with
        | some o => if o.k = .dkt ∧ o.xs.length < 1000000 then (match nqAll (o.xs.take (o.xs.length / 2)) with | some ns => (match keyD y with | some k => some (.nx ρ (setL S2 i (kputXs k y d ns o.xs))) | none => none) | none => none) else none
        | none => none)
      | none => none)
    | _ => none)
  | none => none
theorem kput_nq {y : D} {k : NestedKey} (hy : nq y = some k) {ks : List D} {ns : List NestedKey} (h : nqAll ks = some ns) : nqAll (kput k ns y ks) = some (kput k ns k ns) := by
  unfold kput
  split
  · exact h
  · exact nqAll_snoc hy h
theorem RpAll.kput {K : PySem.W.Frag} {φ : Nat → Option Addr} {H : Hp} {k : NestedKey} {ns : List NestedKey} {y : D} {b : Addr} (q : Rp K φ H y (.ref b)) {ks : List D} {as : List Addr} (r : RpAll K φ H ks (as.map V.ref)) : RpAll K φ H (FL.kput k ns y ks) ((FL.kput k ns b as).map V.ref) := by
  unfold FL.kput
  split
  · exact r
  · rw [List.map_append]
    exact r.append (.one q)
section
variable {X : Cx} [WW X.w] {O : List Nat} {o ix value : Expr} {pos pos' : Pos} {M0 M1 : Env → List Ob → Option (D × List Ob)} {Fi : Env → Option D}
end
/-! ### while -/
def mWhile (n : Nat) (T : Env → List Ob → Option (Bool × List Ob)) (G : Env → List Ob → Option MOut) : Env → List Ob → Option MOut := match n with
  | 0 => fun _ _ => none
  | n + 1 => fun ρ S => match T ρ S with
    | some (true, S1) => (match G ρ S1 with
      | some (.nx ρ2 S2) => mWhile n T G ρ2 S2
      | some (.rt d S2) => some (.rt d S2)
      | none => none)
    | some (false, S1) => some (.nx ρ S1)
    | none => none
/-! ### reversed -/
def jRev (M1 : Env → List Ob → Option (D × List Ob)) : Env → List Ob → Option (List D × List Ob) := fun ρ S => match M1 ρ S with
  | some (.lst xs, S') => some (xs.reverse, S')
  | _ => none
end FL
namespace FL
variable [HW]
open PySem PySem.Spec L2 PyProof.Rows

/-! ### dict comprehensions with such keys -/
def tKPut1 (K : PySem.W.Frag) (tk tv : TE) (D : Addr) (Nx : Hp → Prop) : L2.St → Hp → Prop := fun σ H => tk σ H fun y H4 => tv σ H4 fun v H5 => ∃ b a' ns as vs us k, y = .ref b ∧ H5 D = some (dkO a' (kents ns as us)) ∧ DkO K H5 (H5 D) ns as vs us ∧ KyO K H5 k b ∧ ns.length < 1000000 ∧
  ∀ u, RelV v u → Nx (upd H5 D (dkO D (kents (kput k ns k ns) (kput k ns b as) (kputX k u ns us))))
def tKDc (K : PySem.W.Frag) (l : Lv) (tk tv : TE) : TE := fun σ H Q => l.wi σ H fun J H1 => ∀ D, H1 D = none → Walk l (tKPut1 K tk tv D) J (fun H => Q (.ref D) H) σ (upd H1 D (dkO D []))
section
variable {X : Cx} [WW X.w] {kx vx tg iter : Expr} {ifs : List Expr} {scope : Scope} {own : List (Str × Nat)} {pos : Pos} {tk tv : TE} {ce : PySem.Env} {D : Addr} {s3 : Shared} {H3 : Hp} {fp : List Addr}
end
def kdcL (g : D → Env → Option Env) (T : Env → Option Bool) (Kf E : Env → Option D) (ρ : Env) : List D → List D → List D → Option (List D × List D)
  | [], ks, xs => some (ks, xs)
  | d :: ds, ks, xs => match g d ρ with
    | none => none
    | some ρ1 => match T ρ1 with
      | none => none
      | some false => kdcL g T Kf E ρ ds ks xs
      | some true => match Kf ρ1 with
        | none => none
        | some y => match keyD y with
          | none => none
          | some k => match E ρ1 with
            | none => none
            | some x => match nqAll ks with
              | none => none
              | some ns => if ks.length < 1000 then kdcL g T Kf E ρ ds (kput k ns y ks) (kputX k x ns xs) else none
def eKDc (vs : List Nat) (Fi : Env → Option (List D)) (g : D → Env → Option Env) (T : Env → Option Bool) (Kf E : Env → Option D) : Env → Option D := fun ρ => match Fi ρ with
  | some ds => if ds.length < 1000000 then (match kdcL g T Kf E (wipeE ρ vs) ds [] [] with | some (ks, xs) => some (.dkt false ks xs) | none => none) else none
  | none => none
theorem KNew.put {K : PySem.W.Frag} {φ : Nat → Option Addr} {Hf Hf' H H' : Hp} {a b : Addr} {ks ds : List D} {ns : List NestedKey} {as : List Addr} {vs : List V} {us : List Value} {k : NestedKey} {y x : D} {v : V} {u : Value} (n : KNew K φ Hf H a ks ds ns as vs us) (s : Same Hf Hf') (nf : Hf' a = none) (hy : nq y = some k) (dp : k.depth ≤ 8) (ry : Rp K φ Hf' y (.ref b)) (rx : Rp K φ Hf' x v) (ru : RelV v u) (hl : ks.length < 1000000) :
    KNew K φ Hf' (upd H' a (dkO a (kents (kput k ns k ns) (kput k ns b as) (kputX k u ns us)))) a (kput k ns y ks) (kputX k x ns ds) (kput k ns k ns) (kput k ns b as) (kputX k v ns vs) (kputX k u ns us) := by
  refine ⟨upd_same, nf, kput_nq hy n.kn, kput_nodup n.nd, ?_, kputX_len k x y ns ds ks n.ll, ?_, Vals.kputX ru n.rv, RpAll.kput ry (n.rk.mono s), (n.rd.mono s).kputX rx⟩
  · unfold kput
    split
    · exact n.dp
    · exact depthAll_snoc _ _ n.dp dp
  · unfold kput
    split
    · exact n.len
    · rw [List.length_append, List.length_singleton]; omega
section
variable {X : Cx} [WW X.w] {O O2 : List Nat} {tg iter kx elt : Expr} {scope : Scope} {own : List (Str × Nat)} {pos : Pos}
end
/-! walks over the keys of a dict that no one changes any more -/
def Itkk (d : Addr) (o : Obj) (a' : Addr) (es : List DictEntry) (as : List Addr) : It :=
  ⟨fun i H => H d = some (.frz o (dkO a' es)) ∧ i < es.length, fun i H x H' => H' = H ∧ ∃ q, as[i]? = some q ∧ x = .ref q, fun i H => H d = some (.frz o (dkO a' es)) ∧ es.length ≤ i⟩
def iKKeysT (K : PySem.W.Frag) (td : TE) : TI := fun σ H R => td σ H fun x H1 => ∃ d o a' ns as us, x = .ref d ∧ H1 d = some (.frz o (dkO a' (kents ns as us))) ∧ ns.length = as.length ∧ ns.length = us.length ∧ R (Itkk d o a' (kents ns as us) as) H1
def iKKeys (F : Env → Option D) : Env → Option (List D) := fun ρ => match F ρ with | some (.dkt true ks _) => some ks | _ => none
end FL
namespace FL
variable [HW]
open PySem PySem.Spec L2 PyProof.Rows

/-! ### no object in it -/
mutual
def noOb : D → Bool
  | .obj _ => false | .tup xs => noObs xs | .lst xs => noObs xs | .klst xs => noObs xs | .ins _ _ xs => noObs xs | .dct _ xs => noObs xs | .dkt _ ks xs => noObs ks && noObs xs | .xtp xs => noObs xs | _ => true
def noObs : List D → Bool
  | [] => true
  | d :: ds => noOb d && noObs ds
end
section
variable {K : PySem.W.Frag} {φ φ' : Nat → Option Addr} {H : Hp}
mutual
theorem Rp.anyφ : ∀ {d : D} {v : V}, noOb d = true → Rp K φ H d v → Rp K φ' H d v
  | _, _, _, .non => .non
  | _, _, _, .bl b => .bl b
  | _, _, _, .int i => .int i
  | _, _, _, .str x => .str x
  | .tup _, _, h, .tup s r => .tup s (RpAll.anyφ (by simpa [noOb] using h) r)
  | .lst _, _, h, .lst s r => .lst s (RpAll.anyφ (by simpa [noOb] using h) r)
  | .klst _, _, h, .klst s r => .klst s (RpAll.anyφ (by simpa [noOb] using h) r)
  | .obj _, _, h, _ => by simp [noOb] at h
  | .ins _ _ _, _, h, .ins s l r => .ins s l (RpAll.anyφ (by simpa [noOb] using h) r)
  | .dct _ _, _, h, .dct s l r => .dct s l (RpAll.anyφ (by simpa [noOb] using h) r)
  | .xtp _, _, h, .xtp s p r => .xtp s p (RpAll.anyφ (show noObs _ = true from h) r)
  | .dkt _ _ _, _, h, .dkt s a b c d f g r t => .dkt s a b c d f g (RpAll.anyφ (Bool.and_eq_true_iff.mp (show (noObs _ && noObs _) = true from h)).1 r) (RpAll.anyφ (Bool.and_eq_true_iff.mp (show (noObs _ && noObs _) = true from h)).2 t)
theorem RpAll.anyφ : ∀ {ds : List D} {vs : List V}, noObs ds = true → RpAll K φ H ds vs → RpAll K φ' H ds vs
  | [], _, _, .nil => .nil
  | _ :: _, _, h, .cons r t => .cons (Rp.anyφ (Bool.and_eq_true_iff.mp (show (noOb _ && noObs _) = true from h)).1 r) (RpAll.anyφ (Bool.and_eq_true_iff.mp (show (noOb _ && noObs _) = true from h)).2 t)
end
end
def ltOb (n : Nat) : D → Bool
  | .obj i => decide (i < n)
  | d => noOb d
def pmφ (φ : Nat → Option Addr) (n : Nat) : Nat → Option Addr := fun i => if i < n then φ i else none
theorem Rp.pm {K : PySem.W.Frag} {φ : Nat → Option Addr} {H : Hp} {n : Nat} {d : D} {v : V} (h : ltOb n d = true) (r : Rp K φ H d v) : Rp K (pmφ φ n) H d v := by
  cases d with
  | obj i =>
    cases r with
    | obj e => exact .obj (by unfold pmφ; rw [if_pos (of_decide_eq_true h)]; exact e)
  | _ => exact r.anyφ h
theorem RpAll.pm {K : PySem.W.Frag} {φ : Nat → Option Addr} {H : Hp} {n : Nat} : ∀ {ds : List D} {vs : List V}, ds.all (ltOb n) = true → RpAll K φ H ds vs → RpAll K (pmφ φ n) H ds vs
  | [], _, _, .nil => .nil
  | _ :: _, _, h, .cons r t => by
    rw [List.all_cons, Bool.and_eq_true] at h
    exact .cons (r.pm h.1) (RpAll.pm h.2 t)
/-! ### a dict that changed is fixed: the last object is an object no more -/
def okSl (n : Nat) : Option D → Bool | some d => ltOb n d | none => true
def mScope (j : Nat) (GA GR : Env → List Ob → Option MOut) : Env → List Ob → Option MOut := fun ρ S => match GA ρ S with
  | some (.nx ρ1 S1) => (match S1[S.length]? with
    | some o => (match ρ1[j]? with
      | some (some (.obj n)) => if n = S.length ∧ S1.length = S.length + 1 ∧ o.k = .dkt ∧ ((ρ1.set j none).all (okSl n) = true ∧ (S1.take n).all (fun q => q.xs.all (ltOb n)) = true ∧ noObs o.xs = true) then
          GR (ρ1.set j (some (.dkt true (o.xs.take (o.xs.length / 2)) (o.xs.drop (o.xs.length / 2))))) (S1.take n) else none
      | _ => none)
    | none => none)
  | _ => none
/-! ### a def that changes objects of its own alone -/
def ownM (mir : List D → List Ob → Option (D × List Ob)) : List D → Option D := fun ds => if noObs ds = true then (match mir ds [] with | some (d, _) => if noOb d = true then some d else none | none => none) else none
/-! ### a method of an object that an expression makes -/
def mMeM (c m : Str) (mir : List D → List Ob → Option (D × List Ob)) (M0 : Env → List Ob → Option (D × List Ob)) : Env → List Ob → Option (D × List Ob) := fun ρ S => match M0 ρ S with
  | some (.obj i, S1) => (match S1[i]? with | some o => if o.k = .ins ∧ o.c = c ∧ o.fs.contains m = false then mir [.obj i] S1 else none | none => none)
  | _ => none
end FL
namespace FL
variable [HW]
open PySem PySem.Spec L2
section
variable {P : Program} {w : World} [WW w] {K : PySem.W.Frag} {mg : Str → Option Value} {base : Heap} {k : Nat} {a : Addr} {ps N : List Str} {x q : Str} {st : Stmt} {m : List D → Option D} {G : Env → Option Out}
end
end FL
namespace FL
variable [HW]
open PySem PySem.Spec L2

/-! ### a def that changes objects of its own alone and gives a new list -/
def ownN (N n : Nat) (GA : Env → List Ob → Option MOut) (GR : Env → Option Out) : List D → Option D := fun ds => if noObs ds = true then (match GA (envOf N n ds) [] with
  | some (.nx ρ _) => (match GR ρ with | some (.rt (.lst xs)) => if noObs xs = true then some (.lst xs) else none | _ => none)
  | _ => none) else none
section
variable {P : Program} {w : World} [WW w] {K : PySem.W.Frag} {mg : Str → Option Value} {base : Heap} {k : Nat} {a : Addr} {ps N : List Str} {x q : Str} {st : Stmt} {GA : Env → List Ob → Option MOut} {GR : Env → Option Out} {dvs : List V} {kws : List (Str × V)}
end
/-! ### a variable that gets None or a new list: what follows is asked of each -/
def sSplit (i : Nat) (F F' : Env → Option D) (GA GB : Env → Option Out) : Env → Option Out := fun ρ => match F ρ with
  | some .non => GA (ρ.set i (some .non))
  | some _ => (match F' ρ with | some d => GB (ρ.set i (some d)) | none => none)
  | none => none
end FL
namespace FL
variable [HW]
open PySem PySem.Spec L2
/-! the same, where the first reading may fail -/
def sSplit2 (i : Nat) (F F' : Env → Option D) (GA GB : Env → Option Out) : Env → Option Out := fun ρ => match F ρ with
  | some .non => GA (ρ.set i (some .non))
  | _ => (match F' ρ with | some d => GB (ρ.set i (some d)) | none => none)
end FL
namespace FL
variable [HW]
open PySem PySem.Spec PyProof.Rows L2

/-! ### any of a list of bools and whole numbers -/
def trV : V → Option Bool
  | .bl b => some b
  | .int i => some (!(i == 0))
  | _ => none
def trD : D → Option Bool
  | .bl b => some b
  | .int i => some (!(i == 0))
  | _ => none
def allTr : List D → Option (List Bool)
  | [] => some []
  | d :: ds => (match trD d with | some b => (match allTr ds with | some bs => some (b :: bs) | none => none) | none => none)
def anyM : List D → Option D := fun xs => match xs with | [x] => if isLst x then (match seqD x with | some ys => (match allTr ys with | some bs => some (.bl (bs.any id)) | none => none) | none => none) else none | _ => none
def rAnyM (K : PySem.W.Frag) : List V → Hp → VK → Prop := fun vs H Q => ∃ (a : Addr) (ws : List V) (bs : List Bool), vs = [V.ref a] ∧ SqL K H a ws ∧ ws.map trV = bs.map some ∧ Q (.bl (bs.any id)) H
end FL
namespace FL
variable [HW]
open PySem PySem.Spec L2
/-! ### what changes objects, further in: operators, indexes, int(..), x.pop(), break, a def that calls itself -/
section
variable {X : Cx} [WW X.w] {O O' O1 L : List Nat} {e a b c : Expr} {es : List Expr} {st : Stmt} {sts : List Stmt} {x : Str} {p pos : Pos} {M1 : Env → List Ob → Option (D × List Ob)} {A1 : Env → List Ob → Option (List D × List Ob)} {F G : Env → Option D}
def qIx (f : D → D → Option D) (F : Env → Option D) (M1 : Env → List Ob → Option (D × List Ob)) : Env → List Ob → Option (D × List Ob) := fun ρ S => match F ρ with
  | some x => (match M1 ρ S with | some (y, S1) => (match f x y with | some d => some (d, S1) | none => none) | none => none)
  | none => none
def qL (f : List D → Option D) (A1 : Env → List Ob → Option (List D × List Ob)) : Env → List Ob → Option (D × List Ob) := fun ρ S => match A1 ρ S with
  | some (ds, S1) => (match f ds with | some d => some (d, S1) | none => none)
  | none => none
/-! xs.pop() as a value -/
def mPop0 (i : Nat) : Env → List Ob → Option (D × List Ob) := fun ρ S => match ρ[i]? with
  | some (some (.obj t)) => (match S[t]? with
    | some o => if o.k = .lst then (match o.xs[o.xs.length - 1]? with | some d => some (d, setL S t (o.xs.take (o.xs.length - 1))) | none => none) else none
    | none => none)
  | _ => none
/-! bodies that break -/
inductive MOutB where
  | nx (ρ : Env) (S : List Ob) | rt (d : D) (S : List Ob) | bk (ρ : Env) (S : List Ob)
def MPostB (K : PySem.W.Frag) (φ : Nat → Option Addr) (B Bf : Hp) (O L : List Nat) (Hf : Hp) (Dn : Ends) : MOutB → Prop
  | .nx ρ S => ∀ φ' σ' Hf' H', Ext φ φ' → Same Hf Hf' → MSR K φ' B Bf O ρ S σ' Hf' H' → Dn.nx σ' H'
  | .rt d S => ∀ φ' v Hf' H', Ext φ φ' → Same Hf Hf' → MDone K φ' B Bf S Hf' H' → Rp K φ' Hf' d v → Dn.rt v H'
  | .bk ρ S => ∀ φ' σ' Hf' H', Ext φ φ' → Same Hf Hf' → MSR K φ' B Bf L ρ S σ' Hf' H' → Dn.bk σ' H'
theorem MPostB.mono {K : PySem.W.Frag} {φ φ1 : Nat → Option Addr} {B Bf : Hp} {Hf Hf1 : Hp} {Dn : Ends} (e : Ext φ φ1) (s : Same Hf Hf1) : ∀ {out : MOutB}, MPostB K φ B Bf O L Hf Dn out → MPostB K φ1 B Bf O L Hf1 Dn out
  | .nx _ _, h => fun φ' σ' Hf' H' e' s' => h φ' σ' Hf' H' (e.trans e') (s.trans s')
  | .rt _ _, h => fun φ' v Hf' H' e' s' => h φ' v Hf' H' (e.trans e') (s.trans s')
  | .bk _ _, h => fun φ' σ' Hf' H' e' s' => h φ' σ' Hf' H' (e.trans e') (s.trans s')
def MSsB (X : Cx) (O O' L : List Nat) (sts : List Stmt) (G : Env → List Ob → Option MOutB) : Prop :=
  ∀ (φ : Nat → Option Addr) (B Bf : Hp) (ρ : Env) (S : List Ob) (σ : L2.St) (Hf H : Hp) (out : MOutB) (Dn : Ends), MSR X.K φ B Bf O ρ S σ Hf H → G ρ S = some out → MPostB X.K φ B Bf O' L Hf Dn out → wSs X sts Dn σ H
def bOf : MOut → MOutB
  | .nx ρ S => .nx ρ S
  | .rt d S => .rt d S
def bEnd (G : Env → List Ob → Option MOut) : Env → List Ob → Option MOutB := fun ρ S => (G ρ S).map bOf
def bSeq (F : Env → List Ob → Option MOut) (G : Env → List Ob → Option MOutB) : Env → List Ob → Option MOutB := fun ρ S => match F ρ S with
  | some (.nx ρ' S') => G ρ' S'
  | some (.rt d S') => some (.rt d S')
  | none => none
def bBrk (T : Env → List Ob → Option (Bool × List Ob)) (G : Env → List Ob → Option MOutB) : Env → List Ob → Option MOutB := fun ρ S => match T ρ S with
  | some (true, S') => some (.bk ρ S')
  | some (false, S') => G ρ S'
  | none => none
variable {GM : Env → List Ob → Option MOut} {GB : Env → List Ob → Option MOutB} {MT1 : Env → List Ob → Option (Bool × List Ob)}
end
end FL
namespace FL
variable [HW]
open PySem PySem.Spec L2
/-! ### loops that break, defs that call themselves -/
section
variable {X : Cx} [WW X.w] {O O' O1 L : List Nat}
def mLoopB (g : D → Env → Option Env) (G : Env → List Ob → Option MOutB) : List D → Env → List Ob → Option MOut
  | [], ρ, S => some (.nx ρ S)
  | d :: ds, ρ, S => match g d ρ with
    | none => none
    | some ρ1 => match G ρ1 S with
      | some (.nx ρ2 S2) => mLoopB g G ds ρ2 S2
      | some (.rt d S2) => some (.rt d S2)
      | some (.bk ρ2 S2) => some (.nx ρ2 S2)
      | none => none
def mForB (Fi : Env → Option (List D)) (g : D → Env → Option Env) (G : Env → List Ob → Option MOutB) : Env → List Ob → Option MOut := fun ρ S => match Fi ρ with | some ds => mLoopB g G ds ρ S | none => none
end
section
variable {P : Program} {w : World} [WW w] {K : PySem.W.Frag} {mg : Str → Option Value} {base : Heap} {k : Nat} {a : Addr} {ps : List Str} {x : Str} {st : Stmt}
theorem CalE.mono {j : Nat} {n : Nat} {mir : List D → List Ob → Option (D × List Ob)} (c : CalE P w K mg base j x n mir) (h : j ≤ k) : CalE P w K mg base k x n mir := by
  obtain ⟨f, fd, ps, F, q⟩ := c.ok
  exact ⟨f, fd, ps, F.mono h, q⟩
end
end FL
namespace FL
variable [HW]
open PySem PySem.Spec L2 PyProof.Rows

/-! ### list(d.items()), the keys of d being tuples -/
def layP : List Addr → List (List V) → Hp → Hp
  | t :: ts, q :: qs, H => layP ts qs (upd H t (.tup q))
  | _, _, H => H
def prs (as : List Addr) (vs : List V) : List (List V) := List.zipWith (fun q v => [V.ref q, v]) as vs
def PairsAt (H : Hp) (ts as : List Addr) (vs : List V) : Prop := ∀ (i : Nat) (t : Addr), ts[i]? = some t → ∃ q v, as[i]? = some q ∧ vs[i]? = some v ∧ H t = some (.tup [.ref q, v])
section
variable {X : Cx} [WW X.w] {e : Expr} {te : TE} {p apos cpos pos : Pos}
def rKl (K : PySem.W.Frag) : V → Hp → VK → Prop := fun x H Q => ∃ a ns as vs us, x = .ref a ∧ DkO K H (H a) ns as vs us ∧
  ∀ (H' : Hp) (p : Addr) (ts : List Addr), Same H H' → H p = none → (∀ t ∈ ts, H t = none) → p ∉ ts → H' p = some (.lst (ts.map V.ref)) → ts.length = ns.length → PairsAt H' ts as vs → Q (.ref p) H'
def tKl (K : PySem.W.Frag) (te : TE) : TE := fun σ H Q => te σ H fun x H1 => rKl K x H1 Q
end
def kitL : D → Option D
  | .dkt _ ks ds => some (.lst (kitD ks ds))
  | _ => none
section
variable {X : Cx} [WW X.w] {O : List Nat} {e : Expr} {F : Env → Option D} {p apos cpos pos : Pos} {nm : Str}
end
end FL
namespace FL
variable [HW]
open PySem PySem.Spec L2

/-! ### a def that changes objects of its own alone and gives its own dict, or what has no object in it -/
def ownK (mir : List D → List Ob → Option (D × List Ob)) : List D → Option D := fun ds => if noObs ds = true then (match mir ds [] with
  | some (.obj n, S) => (match S[n]? with
    | some o => if o.k = .dkt ∧ noObs o.xs = true then some (.dkt false (o.xs.take (o.xs.length / 2)) (o.xs.drop (o.xs.length / 2))) else none
    | none => none)
  | some (d, _) => if noOb d = true then some d else none
  | none => none) else none
/-! ### a method of an object fixed for good that makes objects of its own and gives a new list -/
section
variable {P : Program} {w : World} [WW w] {K : PySem.W.Frag} {mg : Str → Option Value} {base : Heap} {k : Nat} {ps N : List Str} {c m q : Str} {st : Stmt} {GA : Env → List Ob → Option MOut} {GR : Env → Option Out} {kws : List (Str × V)}
end
end FL
namespace FL
variable [HW]
open PySem PySem.Spec L2 PyProof.Rows GenW

/-! ### a for in a def that yields -/
section
variable {M : Model} {A : Around} {R : GenEnd} {Y : Protocol} {n : Nat} {s0 : Shared} {c : Code} {fs : List Frame} {s : Shared} {env : PySem.Env}
  {K : Flow → Sem PySem.Fin} {J : Value → Sem PySem.Fin} {gd : Bool → Bool} {lv : List Value → List Value}
end
section
variable {prog : Program} {w : World} [WW w] {A : Around} {R : GenEnd} {Y : Protocol} {n : Nat} {s0 : Shared} {fs : List Frame} {s : Shared} {env : PySem.Env}
def outK (env : PySem.Env) (e : Value) : Sem PySem.Fin := (do noteFrame e env; theTreesLotGoes e : Sem Unit).wrap (fun _ => .raise e) .raise id id
def turnK (c : Code) (f : Flow) : Sem PySem.Fin := match f with
  | .next | .cont => .pure (.again c)
  | .brk => .pure (.done .next)
  | .ret v => .pure (.done (.ret v))
end
section
variable {X : Cx} [WW X.w]
def tGFor (wi : TI) (g : TG) (tb : TGn) : TGn := fun D ys σ H => wi σ H fun J H1 => ∃ W : Nat → Nat → List V → L2.St → Hp → Prop, (∃ m, W 0 m ys σ H1) ∧ ∀ i m ys σ H, W i m ys σ H →
  (J.stop i H ∧ D.nx ys σ H) ∨ (J.go i H ∧ ∃ N : List V → L2.St → Hp → Prop, (∀ ys' σ' H', N ys' σ' H' → ∃ m', m' < m ∧ W (i + 1) m' ys' σ' H') ∧ ∀ x H', J.yld i H x H' → g x σ H' fun σ2 H2 => tb { D with nx := N, ct := N, bk := D.nx } ys σ2 H2)
end
end FL
namespace FL
variable [HW]
open PySem PySem.Spec L2

/-! ### for in a def that yields, by its mirror -/
def yLoop (g : D → Env → Option Env) (G : List D → Env → Option GO) : List D → List D → Env → Option GO
  | [], acc, ρ => some (.nx acc ρ)
  | d :: ds, acc, ρ => match g d ρ with
    | none => none
    | some ρ1 => match G acc ρ1 with
      | some (.nx acc' ρ') => yLoop g G ds acc' ρ'
      | some (.rt acc') => some (.rt acc')
      | none => none
def yFor (Fi : Env → Option (List D)) (g : D → Env → Option Env) (G : List D → Env → Option GO) : List D → Env → Option GO := fun acc ρ => match Fi ρ with | some ds => yLoop g G ds acc ρ | none => none
section
variable {X : Cx} [WW X.w] {O O1 : List Nat} {tgs : List Nat} {tg : Expr} {g : D → Env → Option Env} {pos : Pos} {G : List D → Env → Option GO}
end
/-! ### methods that yield -/
structure CalYM (P : Program) (w : World) (K : PySem.W.Frag) (mg : Str → Option Value) (base : Heap) (k : Nat) (c m : Str) (n : Nat) (mir : List D → Option (List D)) : Prop where
  ok : ∃ (f : Addr) (fd : FuncData) (ps : List Str), GFn P w K mg base k f fd ps (spY K n mir) ∧ Cls K (He.ga K c) ∧ Meth K (He.ga K c) m f ∧ Binds K fd ps []
section
variable {P : Program} {w : World} [WW w] {K : PySem.W.Frag} {mg : Str → Option Value} {base : Heap} {k : Nat} {ps N : List Str} {c m q : Str} {st : Stmt} {G : List D → Env → Option GO} {kws : List (Str × V)}
end
def eMeY (c m : Str) (n : Nat) (mir : List D → Option (List D)) (Fo : Env → Option D) (Fs : Env → Option (List D)) : Env → Option (List D) := fun ρ => match Fo ρ with
  | some (.ins c' fs xs) => if c' = c then (if fs.contains m = false then (match Fs ρ with | some ds => if (D.ins c' fs xs :: ds).length = n then mir (.ins c' fs xs :: ds) else none | none => none) else none) else none
  | _ => none
def eLstY (F : Env → Option (List D)) : Env → Option D := fun ρ => match F ρ with | some ds => some (.lst ds) | none => none
section
variable {X : Cx} [WW X.w] {O : List Nat} {es : List Expr} {e o : Expr} {c m nm : Str} {p2 pos pos' apos : Pos} {Fo : Env → Option D} {Fs : Env → Option (List D)} {k j n : Nat} {mir : List D → Option (List D)}
def FGn (X : Cx) (O : List Nat) (k : Nat) (e : Expr) (F : Env → Option (List D)) : Prop :=
  ∃ tg : TGen, PGen X k e tg (fun _ _ _ => False) ∧ ∀ (φ : Nat → Option Addr) (Hf0 H0 : Hp) (ρ : Env) (σ : L2.St) (Hf H : Hp) (out : List D) (cont : List V → Hp → Prop), SR X.K φ Hf0 H0 O ρ σ Hf H → F ρ = some out → (∀ Hf' H' zs, Gr Hf H Hf' H' → RpAll X.K φ Hf' out zs → cont zs H') → tg σ H cont
end
end FL
namespace FL
variable [HW]
open PySem PySem.Spec L2 PyProof.Rows GenW

/-! ### generators whose consumer is a comprehension: what stands at F is the consumer's -/
structure Nap (F : List Addr) (s s' : Shared) : Prop where
  os : s'.os = s.os
  bare : AllBare s'.gens
  keep : ∀ b o, b ∉ F → s.heap.get? b = some o → s'.heap.get? b = some o
  own : ∀ b ∈ F, ∃ o, s'.heap.get? b = some o ∧ ∀ v, o.data ≠ .cell v
def ApartF (X : Cx) (F : List Addr) : Prop := ∀ S ∈ F, X.s_0.heap.objs.size ≤ S ∧ S ≠ X.env.locals ∧ ∀ x c, X.env.cells.lookup x = some c → c ≠ S
def GF (X : Cx) (F : List Addr) (ip : List (Addr × Obj)) (σ : L2.St) (H : Hp) (s0 s : Shared) : Prop :=
  ∃ fo : List (Addr × Obj), fo.map Prod.fst = F ∧ (∀ p ∈ fo, s0.heap.get? p.1 = some p.2) ∧ Inv X (fo ++ ip) σ H s
theorem fo_get {fo : List (Addr × Obj)} {S : Addr} (h : S ∈ fo.map Prod.fst) : ∃ o, (S, o) ∈ fo := by
  obtain ⟨p, hp, e⟩ := List.mem_map.mp h
  exact ⟨p.2, by rw [← e]; exact hp⟩
section
variable {X : Cx} [WW X.w] {F : List Addr} {ip : List (Addr × Obj)} {σ : L2.St} {H : Hp} {s0 s s' : Shared}
theorem GF.at (h : GF X F ip σ H s0 s) : ∀ S ∈ F, H S = none ∧ S ≠ X.env.locals ∧ S ∉ X.fs ∧ ∃ o, s0.heap.get? S = some o ∧ s.heap.get? S = some o := by
  obtain ⟨fo, rfl, h0, I⟩ := h
  intro S hS
  obtain ⟨o, ho⟩ := fo_get hS
  obtain ⟨h1, h2, h3, h4, _⟩ := I.pin (S, o) (List.mem_append_right _ (List.mem_append_left _ ho))
  exact ⟨h2, h3, h4, o, h0 _ ho, h1⟩
theorem GF.woken (hpn : ∀ p ∈ X.pn, p.1 ∉ F) (hip : ∀ p ∈ ip, p.1 ∉ F) (hA : ApartF X F) (h : GF X F ip σ H s0 s) (z : Nap F s s') : GF X F ip σ H s' s' := by
  have hat := h.at
  obtain ⟨fo, hfo, h0, I⟩ := h
  have I0 : Inv X ip σ H s := I.pins_of fun p hp => I.pin p (List.mem_append_right _ (List.mem_append_right _ hp))
  have nt : ∀ b u, H b = some u → b ∉ F := fun b u q hb => by rw [(hat b hb).1] at q; cases q
  obtain ⟨z1, z2, z3, z4⟩ := z
  obtain ⟨hh, g, d, t, o⟩ := s'
  have ho : o = s.os := z1
  subst ho
  have J : Inv X ip σ H { s with heap := hh, gens := g, drawn := d, toks := t } := by
    refine I0.step (g' := g) (t' := t) (d' := d) (ch := F) (fun b hb => ?_)
      (fun b ob _ _ hc q _ => z3 b ob hc q) (fun b ob _ _ hc q _ => ⟨ob.slots, z3 b ob hc q⟩) (fun _ _ _ _ n => n) (fun b ob hc q => ⟨ob, z3 b ob hc q⟩)
      (fun _ _ q => q) (fun _ _ _ q => q) (fun b ps q => ⟨#[], by rw [q]; simp⟩) (fun m hm => ?_) (fun b u q => ?_) z2
    · obtain ⟨a1, a2, a3⟩ := hA b hb
      refine ⟨.inr a1, a2, a3, fun p hp e => ?_⟩
      rcases List.mem_append.mp hp with hp | hp
      · exact hpn p hp (by rw [e]; exact hb)
      · exact hip p hp (by rw [e]; exact hb)
    · obtain ⟨ob, es, ep, ho, r⟩ := hm
      exact ⟨ob, es, ep, z3 _ ob (fun hb => (hat _ hb).2.1 rfl) ho, r⟩
    · refine (I0.hok b u q).stay (fun c v hc y => z3 c v ?_ y) (fun _ y => y) fun _ _ y => y
      rcases hc with y | y
      · rw [y]; exact nt b u q
      · exact nt c _ y
  have hF : ∀ S ∈ F, ∃ o, ({ s with heap := hh, gens := g, drawn := d, toks := t } : Shared).heap.get? S = some o ∧ ∀ v, o.data ≠ .cell v := z4
  obtain ⟨fo', e1, e2⟩ : ∃ fo' : List (Addr × Obj), fo'.map Prod.fst = F ∧ ∀ p ∈ fo', hh.get? p.1 = some p.2 ∧ ∀ v, p.2.data ≠ .cell v := by
    clear hfo hat hA hpn hip nt z3 z4 J
    induction F with
    | nil => exact ⟨[], rfl, fun p hp => by simp at hp⟩
    | cons b F ih =>
      obtain ⟨o, h1, h2⟩ := hF b (.head _)
      obtain ⟨fo', h3, h4⟩ := ih fun S hS => hF S (.tail _ hS)
      refine ⟨(b, o) :: fo', by rw [List.map_cons, h3], fun p hp => ?_⟩
      rcases List.mem_cons.mp hp with rfl | hp
      · exact ⟨h1, h2⟩
      · exact h4 p hp
  refine ⟨fo', e1, fun p hp => (e2 p hp).1, J.pins_of fun p hp => ?_⟩
  rcases List.mem_append.mp hp with hp' | hp'
  · have hm : p.1 ∈ F := by rw [← e1]; exact List.mem_map_of_mem hp'
    obtain ⟨b1, b2, b3, _⟩ := hat _ hm
    exact ⟨(e2 p hp').1, b1, b2, b3, (e2 p hp').2⟩
  · exact J.pin p (List.mem_append_right _ hp')
end

/-! ### the protocol: Wc, what the consumer keeps, over what is fixed; PY, what each yield tells -/
abbrev ZK := Hp → Prop
abbrev PYK := Nat → V → Hp → Hp → Prop
def GqY (X : Cx) (F : List Addr) (PY : PYK) (Wc : Nat → Shared → ZK) : Protocol := fun n s0 v s kap =>
  ∃ k x ip σ Hf H, n + 1 + k = sizeLine ∧ RelV x v ∧ GF X F ip σ H s0 s ∧ PY k x Hf H ∧ Wc k s0 Hf ∧ ∀ s', Nap F s s' → Wc (k + 1) s' Hf → kap (.send .none) s'
def GqR (X : Cx) (F : List Addr) (Wc : Nat → Shared → ZK) (Q : ZK → Nat → VK) (B : Value → Shared → Prop) : GenEnd := fun n s0 r s => match r with
  | .ok (.ret u) => ∃ k v ip σ H, n + k = sizeLine ∧ GF X F ip σ H s0 s ∧ RelV v u ∧ Q (Wc k s0) k v H
  | .ok _ => False
  | .error e => B e s
structure GqEnds where
  nx : ZK → Nat → L2.St → Hp → Prop
  rt : ZK → Nat → VK
  bk : ZK → Nat → L2.St → Hp → Prop := fun _ _ _ _ => False
  ct : ZK → Nat → L2.St → Hp → Prop := fun _ _ _ _ => False
abbrev TGq := PYK → GqEnds → ZK → Nat → L2.St → Hp → Prop
def GqEnds.at (D : GqEnds) (Z : ZK) (k : Nat) : Ends := { nx := D.nx Z k, rt := D.rt Z k, bk := D.bk Z k, ct := D.ct Z k }
def GqSP (X : Cx) (F : List Addr) (ip : List (Addr × Obj)) (D : GqEnds) (Z : ZK) (k : Nat) (f : Flow) (s0 s : Shared) : Prop :=
  match f with
  | .next => ∃ σ H, GF X F ip σ H s0 s ∧ D.nx Z k σ H
  | .brk => ∃ σ H, GF X F ip σ H s0 s ∧ D.bk Z k σ H
  | .cont => ∃ σ H, GF X F ip σ H s0 s ∧ D.ct Z k σ H
  | .ret u => ∃ v σ H, GF X F ip σ H s0 s ∧ RelV v u ∧ D.rt Z k v H
structure GqC (X : Cx) (F : List Addr) (ip : List (Addr × Obj)) (Wc : Nat → Shared → ZK) (A : Around) (c : Code) (fs : List Frame) (gd : Bool → Bool) : Prop where
  pn : ∀ p ∈ X.pn, p.1 ∉ F
  ip : ∀ p ∈ ip, p.1 ∉ F
  apart : ApartF X F
  mono : ∀ k s Hf Hf', Same Hf Hf' → Wc k s Hf → Wc k s Hf'
  over : A.over c fs = X.A
  split : splitAtGen fs = none
  guard : fs.any Frame.guarded = false
  gd : gd false = false
structure GqK (X : Cx) (F : List Addr) (ip : List (Addr × Obj)) (A : Around) (R : GenEnd) (PY : PYK) (Wc : Nat → Shared → ZK) (c : Code) (fs : List Frame) (K : Flow → Sem PySem.Fin) (J : Value → Sem PySem.Fin) (D : GqEnds) : Prop where
  ok : ∀ (n k : Nat) (s0 s : Shared) (f : Flow), n + k = sizeLine → GqSP X F ip D (Wc k s0) k f s0 s → Seg (model X.prog X.w) A R (GqY X F PY Wc) n s0 c (K f) fs s
  exc : ∀ (n : Nat) (s0 : Shared) (e : Value) (s : Shared), X.xe e s → Seg (model X.prog X.w) A R (GqY X F PY Wc) n s0 c (J e) fs s
structure GqS (X : Cx) (st : Stmt) (t : TGq) : Prop where
  run : ∀ (A : Around) (F : List Addr) (ip : List (Addr × Obj)) (R : GenEnd) (PY : PYK) (Wc : Nat → Shared → ZK) (n k : Nat) (s0 : Shared) (c : Code) (fs : List Frame) (K : Flow → Sem PySem.Fin) (J : Value → Sem PySem.Fin) (gd : Bool → Bool) (lv : List Value → List Value) (s : Shared) (σ : L2.St) (H : Hp) (D : GqEnds),
    GqC X F ip Wc A c fs gd → n + k = sizeLine → GqK X F ip A R PY Wc c fs K J D → GF X F ip σ H s0 s → t PY D (Wc k s0) k σ H →
    Seg (model X.prog X.w) A R (GqY X F PY Wc) n s0 c ((exec st X.env).wrap K J gd lv) fs s
structure GqSs (X : Cx) (st : List Stmt) (t : TGq) : Prop where
  run : ∀ (A : Around) (F : List Addr) (ip : List (Addr × Obj)) (R : GenEnd) (PY : PYK) (Wc : Nat → Shared → ZK) (n k : Nat) (s0 : Shared) (c : Code) (fs : List Frame) (K : Flow → Sem PySem.Fin) (J : Value → Sem PySem.Fin) (gd : Bool → Bool) (lv : List Value → List Value) (s : Shared) (σ : L2.St) (H : Hp) (D : GqEnds),
    GqC X F ip Wc A c fs gd → n + k = sizeLine → GqK X F ip A R PY Wc c fs K J D → GF X F ip σ H s0 s → t PY D (Wc k s0) k σ H →
    Seg (model X.prog X.w) A R (GqY X F PY Wc) n s0 c ((execs st X.env).wrap K J gd lv) fs s
section
variable {X : Cx} [WW X.w] {st : Stmt} {rest : List Stmt}
def tQPlain (t : TS) : TGq := fun _ D Z k σ H => t (D.at Z k) σ H
def tQ0 : TGq := fun _ D Z k σ H => D.nx Z k σ H
def tQThen (t u : TGq) : TGq := fun PY D Z k σ H => t PY { D with nx := fun Z' k' σ' H' => u PY D Z' k' σ' H' } Z k σ H
def tQIf (tc : TT) (t u : TGq) : TGq := fun PY D Z k σ H => tc σ H fun b H1 => if b = true then t PY D Z k σ H1 else u PY D Z k σ H1
def tQYield (te : TE) : TGq := fun PY D Z k σ H => k < sizeLine ∧ te σ H fun x H1 => ∃ Hf1, PY k x Hf1 H1 ∧ Z Hf1 ∧ ∀ Z' : ZK, (∀ Hf Hf', Same Hf Hf' → Z' Hf → Z' Hf') → Z' Hf1 → D.nx Z' (k + 1) σ H1
def tQFor (wi : TI) (g : TG) (tb : TGq) : TGq := fun PY D Z k σ H => wi σ H fun J H1 => ∃ W : Nat → Nat → ZK → Nat → L2.St → Hp → Prop, (∃ m, W 0 m Z k σ H1) ∧ ∀ i m Z k σ H, W i m Z k σ H →
  (J.stop i H ∧ D.nx Z k σ H) ∨ (J.go i H ∧ ∃ N : ZK → Nat → L2.St → Hp → Prop, (∀ Z' k' σ' H', N Z' k' σ' H' → ∃ m', m' < m ∧ W (i + 1) m' Z' k' σ' H') ∧ ∀ x H', J.yld i H x H' → g x σ H' fun σ2 H2 => tb PY { D with nx := N, ct := N, bk := D.nx } Z k σ2 H2)
end
end FL
namespace FL
variable [HW]
open PySem PySem.Spec L2 PyProof.Rows GenW
instance {P : Program} {w : World} {K : PySem.W.Frag} {mg : Str → Option Value} {base : Heap} {N : List Str} {q : Str} {sc : Scope} {f : Addr} {cd : Value} {A : Around} {outer : List PySem.Env} {s : Shared} {H : Hp} {E : XK} {pn : List (Addr × Obj)} [i : WW w] : WW (gcxOf P w K mg base N q sc f cd A outer s H E pn).w := i

/-! ### a def that yields, for such a consumer -/
abbrev CtK := ZK → Nat → Hp → Prop
abbrev SpQ := List V → Hp → Hp → PYK → CtK → Prop
def FAt (F : List Addr) (H' : Hp) (s0 s1 : Shared) : Prop := ∀ S ∈ F, H' S = none ∧ ∃ o, s0.heap.get? S = some o ∧ s1.heap.get? S = some o
def QEnd (P : Program) (w : World) (outer : List PySem.Env) (H : Hp) (s : Shared) (F : List Addr) (a : Addr) (g : Nat) (Wc : Nat → Shared → ZK) (Q : CtK) (E : XK) : GenEnd := fun n s0 r s1 =>
  ((r = .ok (.ret .none) ∨ r = .ok .next) ∧ ∃ H' k, s1.os = s.os ∧ AllBare s1.gens ∧ Un (frs outer) [] H H' s.heap s1.heap ∧ HOk P w H' s1.heap ∧ FAt F H' s0 s1 ∧ n + k = sizeLine ∧ Q (Wc k s0) k H') ∨
  ∃ e, r = .error e ∧ L2.CX P w outer H s E e s1 ∧ s1.heap.IsGen a g
def QItem (P : Program) (w : World) (outer : List PySem.Env) (H : Hp) (s : Shared) (F : List Addr) (a : Addr) (g : Nat) (PY : PYK) (Wc : Nat → Shared → ZK) : Protocol := fun n s0 v s1 kap =>
  ∃ k x Hf H', n + 1 + k = sizeLine ∧ RelV x v ∧ PY k x Hf H' ∧ Wc k s0 Hf ∧ s1.os = s.os ∧ AllBare s1.gens ∧ s1.heap.NoLimit ∧ s1.heap.IsGen a g ∧ Un (frs outer) [] H H' s.heap s1.heap ∧ HOk P w H' s1.heap ∧ FAt F H' s0 s1 ∧
    ∀ s', Nap F s1 s' → Wc (k + 1) s' Hf → kap (.send .none) s'
def QMade (P : Program) (w : World) (k : Nat) (outer : List PySem.Env) (H Hf : Hp) (s : Shared) (PY : PYK) (Q : CtK) (E : XK) (u : Value) (s' : Shared) : Prop :=
  ∃ (a : Addr) (g : Nat) (c : Code), u = .ref a ∧ s.heap.objs.size ≤ a ∧ a < s'.heap.objs.size ∧ s'.heap.IsGen a g ∧ s'.gens[g]? = some (.fresh c) ∧ s'.os = s.os ∧ AllBare s'.gens ∧ s'.heap.NoLimit ∧ (∀ b o, s.heap.get? b = some o → s'.heap.get? b = some o) ∧
    ∀ (A : Around) (F : List Addr) (s2 : Shared) (Wc : Nat → Shared → ZK), Room k A → A.frames = some outer → (∀ S ∈ F, s'.heap.objs.size ≤ S ∧ ∃ o, s2.heap.get? S = some o ∧ ∀ v, o.data ≠ .cell v) → (∀ b o, s'.heap.get? b = some o → s2.heap.get? b = some o) → s2.os = s.os → AllBare s2.gens →
      (∀ k s Hf Hf', Same Hf Hf' → Wc k s Hf → Wc k s Hf') → Wc 0 s2 Hf →
      Seg (model P w) A (QEnd P w outer H s F a g Wc Q E) (QItem P w outer H s F a g PY Wc) sizeLine s2 c ((model P w).den c) [] s2
structure QFn (P : Program) (w : World) (K : PySem.W.Frag) (mg : Str → Option Value) (base : Heap) (k : Nat) (f : Addr) (fd : FuncData) (ps : List Str) (sp : SpQ) : Prop where
  len : ∀ vs H Hf PY Q, sp vs H Hf PY Q → vs.length = ps.length
  run : ∀ (A : Around) (outer : List PySem.Env) (s : Shared) (H Hf : Hp) (args : Args) (us : List Value) (vs : List V) (PY : PYK) (Q : CtK), Room k A → Env0 P w K mg base A outer s H → BindsTo s fd args (ps.zip us) → Vals vs us → sp vs H Hf PY Q →
    codeAny (model P w) A (.call (.ref f) args) (fun r s' => match r with | .ok (.ret u) => QMade P w k outer H Hf s PY Q (fun _ _ _ => False) u s' | _ => False) s

end FL
namespace FL
variable [HW]
open PySem PySem.Spec L2

/-! ### .. by its mirror -/
def MonoZ (Z : ZK) : Prop := ∀ Hf Hf', Same Hf Hf' → Z Hf → Z Hf'
def GO.out : GO → List D
  | .nx acc _ => acc
  | .rt acc => acc
def MonoG (G : List D → Env → Option GO) : Prop := ∀ acc ρ o, G acc ρ = some o → acc <+: o.out
def ZPost (K : PySem.W.Frag) (φ : Nat → Option Addr) (Hf0 H0 : Hp) (O : List Nat) (Hf : Hp) (Dn : GqEnds) : GO → Prop
  | .nx acc ρ => ∀ Z σ' Hf' H', MonoZ Z → Same Hf Hf' → SR K φ Hf0 H0 O ρ σ' Hf' H' → Z Hf' → Dn.nx Z acc.length σ' H'
  | .rt acc => ∀ Z Hf' H', MonoZ Z → Gr Hf0 H0 Hf' H' → Z Hf' → Dn.rt Z acc.length .non H'
theorem ZPost.mono {K : PySem.W.Frag} {φ : Nat → Option Addr} {Hf0 H0 : Hp} {O : List Nat} {Hf Hf1 : Hp} {Dn : GqEnds} (s : Same Hf Hf1) : ∀ {out : GO}, ZPost K φ Hf0 H0 O Hf Dn out → ZPost K φ Hf0 H0 O Hf1 Dn out
  | .nx _ _, h => fun Z σ' Hf' H' m s' => h Z σ' Hf' H' m (s.trans s')
  | .rt _, h => h
def PYok (K : PySem.W.Frag) (φ : Nat → Option Addr) (Hf0 H0 : Hp) (PY : PYK) (out : List D) : Prop :=
  ∀ acc d Hf' H' x, Gr Hf0 H0 Hf' H' → Rp K φ Hf' d x → (acc ++ [d]) <+: out → PY acc.length x Hf' H'
theorem PYok.pre {K : PySem.W.Frag} {φ : Nat → Option Addr} {Hf0 H0 : Hp} {PY : PYK} {o1 o2 : List D} (h : PYok K φ Hf0 H0 PY o2) (p : o1 <+: o2) : PYok K φ Hf0 H0 PY o1 :=
  fun acc d Hf' H' x g r q => h acc d Hf' H' x g r (q.trans p)
def wZ (X : Cx) (st : Stmt) : TGq := fun PY D Z k σ H => Lk (∀ (A : Around) (F : List Addr) (ip : List (Addr × Obj)) (R : GenEnd) (Wc : Nat → Shared → ZK) (n : Nat) (s0 : Shared) (c : Code) (fs : List Frame) (K : Flow → Sem PySem.Fin) (J : Value → Sem PySem.Fin) (gd : Bool → Bool) (lv : List Value → List Value) (s : Shared), Wc k s0 = Z →
  GqC X F ip Wc A c fs gd → n + k = sizeLine → GqK X F ip A R PY Wc c fs K J D → GF X F ip σ H s0 s → Seg (model X.prog X.w) A R (GqY X F PY Wc) n s0 c ((exec st X.env).wrap K J gd lv) fs s)
def wZs (X : Cx) (st : List Stmt) : TGq := fun PY D Z k σ H => Lk (∀ (A : Around) (F : List Addr) (ip : List (Addr × Obj)) (R : GenEnd) (Wc : Nat → Shared → ZK) (n : Nat) (s0 : Shared) (c : Code) (fs : List Frame) (K : Flow → Sem PySem.Fin) (J : Value → Sem PySem.Fin) (gd : Bool → Bool) (lv : List Value → List Value) (s : Shared), Wc k s0 = Z →
  GqC X F ip Wc A c fs gd → n + k = sizeLine → GqK X F ip A R PY Wc c fs K J D → GF X F ip σ H s0 s → Seg (model X.prog X.w) A R (GqY X F PY Wc) n s0 c ((execs st X.env).wrap K J gd lv) fs s)
section
variable {X : Cx} [WW X.w] {st : Stmt} {sts : List Stmt} {PY : PYK} {Z : ZK} {k : Nat} {σ : L2.St} {H : Hp} {D : GqEnds}
end
def FZ (X : Cx) (O O' : List Nat) (st : Stmt) (G : List D → Env → Option GO) : Prop := MonoG G ∧
  ∀ (φ : Nat → Option Addr) (Hf0 H0 : Hp) (ρ : Env) (σ : L2.St) (Hf H : Hp) (acc : List D) (Z : ZK) (out : GO) (Dn : GqEnds) (PY : PYK), SR X.K φ Hf0 H0 O ρ σ Hf H → MonoZ Z → Z Hf → G acc ρ = some out → PYok X.K φ Hf0 H0 PY out.out → ZPost X.K φ Hf0 H0 O' Hf Dn out → wZ X st PY Dn Z acc.length σ H
def FZs (X : Cx) (O O' : List Nat) (sts : List Stmt) (G : List D → Env → Option GO) : Prop := MonoG G ∧
  ∀ (φ : Nat → Option Addr) (Hf0 H0 : Hp) (ρ : Env) (σ : L2.St) (Hf H : Hp) (acc : List D) (Z : ZK) (out : GO) (Dn : GqEnds) (PY : PYK), SR X.K φ Hf0 H0 O ρ σ Hf H → MonoZ Z → Z Hf → G acc ρ = some out → PYok X.K φ Hf0 H0 PY out.out → ZPost X.K φ Hf0 H0 O' Hf Dn out → wZs X sts PY Dn Z acc.length σ H
section
variable {X : Cx} [WW X.w] {O O' O1 : List Nat} {st : Stmt} {sts : List Stmt} {e : Expr} {pos yp : Pos} {F : Env → Option D} {G G2 : List D → Env → Option GO}
end
def spZ (K : PySem.W.Frag) (n : Nat) (m : List D → Option (List D)) : SpQ := fun vs H Hf PY Q => ∃ (φ : Nat → Option Addr) (ds out : List D), Same Hf H ∧ RpAll K φ Hf ds vs ∧ ds.length = n ∧ m ds = some out ∧ PYok K φ Hf H PY out ∧ ∀ Z Hf' H', MonoZ Z → Gr Hf H Hf' H' → Z Hf' → Q Z out.length H'
structure CalZM (P : Program) (w : World) (K : PySem.W.Frag) (mg : Str → Option Value) (base : Heap) (k : Nat) (c m : Str) (n : Nat) (mir : List D → Option (List D)) : Prop where
  ok : ∃ (f : Addr) (fd : FuncData) (ps : List Str), QFn P w K mg base k f fd ps (spZ K n mir) ∧ Cls K (He.ga K c) ∧ Meth K (He.ga K c) m f ∧ Binds K fd ps []
section
variable {P : Program} {w : World} [WW w] {K : PySem.W.Frag} {mg : Str → Option Value} {base : Heap} {k : Nat} {ps N : List Str} {c m q : Str} {st : Stmt} {G : List D → Env → Option GO} {kws : List (Str × V)}
end
end FL
namespace FL
variable [HW]
open PySem PySem.Spec L2 PyProof.Rows

/-! ### expressions that leave the generators and all that stands in the heap as they are -/
structure Kp (s s' : Shared) : Prop where
  os : s'.os = s.os
  gens : s'.gens = s.gens
  keep : ∀ b o, s.heap.get? b = some o → s'.heap.get? b = some o
theorem Kp.refl (s : Shared) : Kp s s := ⟨rfl, rfl, fun _ _ e => e⟩
theorem Kp.trans {s s1 s2 : Shared} (a : Kp s s1) (b : Kp s1 s2) : Kp s s2 := ⟨b.os.trans a.os, b.gens.trans a.gens, fun c o e => b.keep c o (a.keep c o e)⟩
def QL (X : Cx) (O : List Nat) (e : Expr) (F : Env → Option D) : Prop :=
  ∀ (φ : Nat → Option Addr) (Hf0 H0 : Hp) (ρ : Env) (σ : L2.St) (Hf H : Hp) (d : D), SR X.K φ Hf0 H0 O ρ σ Hf H → F ρ = some d → ∀ pins s, Inv X pins σ H s →
    wpAny (model X.prog X.w) X.A (eval e X.env) (fun u s' => Kp s s' ∧ Inv X pins σ H s' ∧ ∃ v, RelV v u ∧ Rp X.K φ Hf d v) X.xe s
def QB (X : Cx) (O : List Nat) (e : Expr) (F : Env → Option D) : Prop :=
  ∀ (φ : Nat → Option Addr) (Hf0 H0 : Hp) (ρ : Env) (σ : L2.St) (Hf H : Hp) (d : D), SR X.K φ Hf0 H0 O ρ σ Hf H → F ρ = some d → ∀ pins s, Inv X pins σ H s →
    wpAny (model X.prog X.w) X.A (eval e X.env) (fun u s' => Kp s s' ∧ ∃ v Hf' H', Gr Hf H Hf' H' ∧ Inv X pins σ H' s' ∧ RelV v u ∧ Rpb X.K φ Hf' H' d v) X.xe s
def QA (X : Cx) (O : List Nat) (es : List Expr) (F : Env → Option (List D)) : Prop :=
  ∀ (φ : Nat → Option Addr) (Hf0 H0 : Hp) (ρ : Env) (σ : L2.St) (Hf H : Hp) (ds : List D), SR X.K φ Hf0 H0 O ρ σ Hf H → F ρ = some ds → ∀ pos pins s, Inv X pins σ H s →
    wpAny (model X.prog X.w) X.A (spliced (backTo pos (starEach es X.env))) (fun us s' => Kp s s' ∧ Inv X pins σ H s' ∧ ∃ vs, Vals vs us ∧ RpAll X.K φ Hf ds vs) X.xe s
def QT (X : Cx) (O : List Nat) (e : Expr) (F : Env → Option Bool) : Prop :=
  ∀ (φ : Nat → Option Addr) (Hf0 H0 : Hp) (ρ : Env) (σ : L2.St) (Hf H : Hp) (b : Bool), SR X.K φ Hf0 H0 O ρ σ Hf H → F ρ = some b → ∀ pins s, Inv X pins σ H s →
    wpAny (model X.prog X.w) X.A (isTrue e X.env (eval e X.env)) (fun b' s' => b' = b ∧ Kp s s' ∧ ∃ Hf' H', Gr Hf H Hf' H' ∧ Inv X pins σ H' s') X.xe s
def QW (X : Cx) (O : List Nat) (e : Expr) (F : Env → Option Bool) : Prop :=
  ∀ (φ : Nat → Option Addr) (Hf0 H0 : Hp) (ρ : Env) (σ : L2.St) (Hf H : Hp) (b : Bool), SR X.K φ Hf0 H0 O ρ σ Hf H → F ρ = some b → ∀ whole pins s, Inv X pins σ H s →
    wpAny (model X.prog X.w) X.A (isTrue e X.env whole) (fun b' s' => b' = b ∧ Kp s s' ∧ ∃ Hf' H', Gr Hf H Hf' H' ∧ Inv X pins σ H' s') X.xe s
section
variable {X : Cx} [WW X.w] {O : List Nat} {a b e : Expr} {es : List Expr} {pos : Pos} {F G : Env → Option D} {Fs : Env → Option (List D)}
theorem Inv.kp {pins : List (Addr × Obj)} {σ : L2.St} {H : Hp} {s : Shared} {t' : Nat} (I : Inv X pins σ H s) : Inv X pins σ H { s with toks := t' } := I.tok _
def ixT (x y : D) : Option D := match x, y with | .tup xs, .int i => atI xs i | _, _ => none
def inQ (neg : Bool) (x y : D) : Option D := match seqD y with
  | some xs => if isLst y && okD x && okD y then some (.bl (neg != xs.any fun z => deq z x)) else none
  | none => none
def eqQ (x y : D) : Option D := if okD x && okD y then some (.bl (deq x y)) else none
end
end FL
namespace FL
variable [HW]
open PySem PySem.Spec L2 PyProof.Rows GenW

/-! ### o.m(..) as a generator that a comprehension will turn -/
def PYs (K : PySem.W.Frag) (φ : Nat → Option Addr) (Hf H : Hp) (out : List D) : PYK := fun k x Hf' H' => ∃ acc d, acc.length = k ∧ Gr Hf H Hf' H' ∧ Rp K φ Hf' d x ∧ (acc ++ [d]) <+: out
def Qs (Hf H : Hp) (out : List D) : CtK := fun Z k H' => ∃ Hf', Gr Hf H Hf' H' ∧ Z Hf' ∧ k = out.length
def QGn (X : Cx) (O : List Nat) (j : Nat) (e : Expr) (F : Env → Option (List D)) : Prop :=
  ∀ (φ : Nat → Option Addr) (Hf0 H0 : Hp) (ρ : Env) (σ : L2.St) (Hf H : Hp) (out : List D), SR X.K φ Hf0 H0 O ρ σ Hf H → F ρ = some out → ∀ pins s, Inv X pins σ H s →
    wpAny (model X.prog X.w) X.A (eval e X.env) (fun u s' => ∃ Hf1 H1 sc, Gr Hf H Hf1 H1 ∧ Inv X pins σ H1 sc ∧ QMade X.prog X.w j X.stack H1 Hf1 sc (PYs X.K φ Hf1 H1 out) (Qs Hf1 H1 out) (fun _ _ _ => False) u s') X.xe s
section
variable {X : Cx} [WW X.w] {O : List Nat} {es : List Expr} {e o : Expr} {c m : Str} {pos pos' apos : Pos} {Fo : Env → Option D} {Fs : Env → Option (List D)} {k j n : Nat} {mir : List D → Option (List D)}
end

/-! ### the block of such a comprehension -/
section
variable {X : Cx} [WW X.w] {pins : List (Addr × Obj)} {σ0 σ : L2.St} {H1 H3 H Hc Hn : Hp} {sc s3 s s1 : Shared} {scope : Scope} {cenv : PySem.Env}
end
end FL
namespace FL
variable [HW]
open PySem PySem.Spec L2 PyProof.Rows GenW

def QTs (X : Cx) (O : List Nat) (ifs : List Expr) (F : Env → Option Bool) : Prop :=
  ∀ (φ : Nat → Option Addr) (Hf0 H0 : Hp) (ρ : Env) (σ : L2.St) (Hf H : Hp) (b : Bool), SR X.K φ Hf0 H0 O ρ σ Hf H → F ρ = some b → ∀ pins s, Inv X pins σ H s →
    wpAny (model X.prog X.w) X.A (forIn ifs true fun c r => if r = true then do let ok ← isTrue c X.env (eval c X.env); pure (ForInStep.yield ok) else pure (ForInStep.yield r)) (fun b' s' => b' = b ∧ Kp s s' ∧ ∃ Hf' H', Gr Hf H Hf' H' ∧ Inv X pins σ H' s') X.xe s
/-! the mirror by parts -/
section
variable {g : D → Env → Option Env} {T : Env → Option Bool} {E : Env → Option D} {ρ : Env}
end
section
variable {X : Cx} [WW X.w] {O : List Nat}
end
end FL
namespace FL
variable [HW]
open PySem PySem.Spec L2 PyProof.Rows

/-! ### a call whose value is a dict that no one changes any more: it is fixed for good at once -/
def ownF (mir : List D → List Ob → Option (D × List Ob)) : List D → Option D := fun ds => if noObs ds = true then (match mir ds [] with
  | some (.obj n, S) => (match S[n]? with
    | some o => if o.k = .dkt ∧ noObs o.xs = true then some (.dkt true (o.xs.take (o.xs.length / 2)) (o.xs.drop (o.xs.length / 2))) else none
    | none => none)
  | some (d, _) => if noOb d = true then some d else none
  | none => none) else none
section
variable {X : Cx} [WW X.w] {O : List Nat} {es : List Expr} {e : Expr} {x : Str} {p pos : Pos} {Fs : Env → Option (List D)} {k j n : Nat} {mir : List D → List Ob → Option (D × List Ob)}
end
/-! ### for k in such a dict -/
/-! ### quiet: k in such a dict -/
section
variable {X : Cx} [WW X.w] {O : List Nat} {a b : Expr} {pos : Pos} {F G : Env → Option D}
end
end FL
namespace FL
variable [HW]
open PySem PySem.Spec PyProof.Rows

/-! ### repr of nested tuples: some bounded text -/
def RSome (P : Program) (w : World) (h₀ : Heap) (d : Nat) (x : Value) (L : Nat) : Prop :=
  ∀ (base : Nat), base + L ≤ sizeLine → ∀ (A : Around) (E : Value → Shared → Prop) (s : Shared) (Q : Str → Shared → Prop), A.units + d < cLine → (∀ b o, h₀.get? b = some o → s.heap.get? b = some o) →
    (∀ (t : Str) (tk : Tok), t.length ≤ L → Q t { s with toks := tk }) → wpAny (model P w) A (pyReprUnder base x) Q E s
theorem RSome.of_is {P : Program} {w : World} [WW w] {h₀ : Heap} {d : Nat} {x : Value} {t : Str} {L : Nat} (h : ReprIs P w x t) (hl : t.length ≤ L) : RSome P w h₀ d x L :=
  fun base hb A E s Q _ _ hQ => h base (by omega) A E s Q fun tk => hQ t tk hl
inductive RSomes (P : Program) (w : World) (h₀ : Heap) (d : Nat) : List Value → Nat → Prop
  | nil : RSomes P w h₀ d [] 0
  | cons {x : Value} {xs : List Value} {L M : Nat} : RSome P w h₀ d x L → RSomes P w h₀ d xs M → RSomes P w h₀ d (x :: xs) (L + 2 + M)
section
variable {P : Program} {w : World} [WW w] {h₀ : Heap} {d : Nat}
theorem rs_fold {A : Around} {E : Value → Shared → Prop} (hu : A.units + d < cLine) : ∀ (l : List Value) (M : Nat) (acc : Array Str) (n : Nat) (s : Shared) (Q : (Array Str × Nat) → Shared → Prop), RSomes P w h₀ d l M → n + M ≤ sizeLine →
    (∀ b o, h₀.get? b = some o → s.heap.get? b = some o) → (∀ (ts : List Str) (tk : Tok), ts.length = l.length → piled ts ≤ M → Q ⟨acc ++ ts.toArray, n + piled ts⟩ { s with toks := tk }) →
    wpAny (model P w) A (forIn l (⟨acc, n⟩ : (Array Str × Nat)) tupBody) Q E s := by
  intro l
  induction l with
  | nil =>
    intro M acc n s Q hT _ _ h
    cases hT
    have h0 := h [] s.toks rfl (Nat.le_refl _)
    simp only [List.forIn_nil]
    exact wpAny_pure (by simpa [piled] using h0)
  | cons x l ih =>
    intro M acc n s Q hT hn hk0 h
    cases hT with
    | @cons _ _ L M' hx hl =>
      rw [List.forIn_cons]
      refine wpAny_bind (wpAny_bind (hx (n + 1) (by omega) _ _ _ _ hu hk0 fun t tk ht => wpAny_pure ?_))
      refine ih M' (acc.push t) (n + (t.length + 2)) _ Q hl (by omega) hk0 fun ts tk' hts hp => ?_
      have h1 := h (t :: ts) tk' (by rw [List.length_cons, List.length_cons, hts]) (by rw [piled_cons]; omega)
      have e : n + piled (t :: ts) = n + (t.length + 2) + piled ts := by rw [piled_cons]; omega
      rw [e] at h1
      simpa using h1
theorem tt_len (ts : List Str) : (tupleText ts).length ≤ piled ts + 3 := by
  unfold tupleText
  rw [strLen_append, strLen_append]
  have e1 : ((("(" : String) : Str)).length = 1 := rfl
  have e3 : (((if ts.length == 1 then ",)" else ")" : String) : Str)).length ≤ 2 := by split <;> decide
  rw [e1]
  by_cases h : ts = []
  · subst h
    have : (Str.join ", " ([] : List Str)).length = 0 := rfl
    omega
  · have := join_length_add ts h
    omega
theorem rs_rest {A : Around} {E : Value → Shared → Prop} {s : Shared} {a : Addr} {o : Obj} {items : Array Value} {n b M : Nat} {Q : Fin → Shared → Prop} (hu : A.units + d < cLine) (ha : s.heap.get? a = some o) (hd : o.data = .seq items n)
    (hT : RSomes P w h₀ d items.toList M) (hk0 : ∀ b o, h₀.get? b = some o → s.heap.get? b = some o) (h : ∀ t u tk, t.length ≤ M + 5 → Q (.done (.ret (.str t u))) { s with toks := tk }) (hsz : b + (M + 5) ≤ sizeLine) :
    wpAny (model P w) A (tupleReprRest b (.ref a)) Q E s := by
  unfold tupleReprRest Builtin.Tuple.tupleItemsOf
  refine wpAny_bind (wpAny_bind (wpAny_seqItems ha hd (wpAny_pure ?_)))
  rw [← Array.forIn_toList]
  refine wpAny_bind (rs_fold hu _ M _ _ _ _ hT (by omega) hk0 fun ts tk hts hp => ?_)
  have hl := tt_len ts
  have hlen : ts.length = items.size := by simpa using hts
  refine wpAny_bind (wpAny_mkStr (wpAny_pure ?_) (by
    have : (tupleText ts).length ≤ sizeLine := by omega
    simpa [tupleText, hlen] using this))
  have h1 := h (tupleText ts) tk (tk + 1) (by omega)
  simpa [tupleText, hlen] using h1
theorem rs_at {A : Around} {E : Value → Shared → Prop} {s : Shared} {a : Addr} {o : Obj} {items : Array Value} {n b M : Nat} {Q : Fin → Shared → Prop} (hu : A.units + d < cLine) (ha : s.heap.get? a = some o) (hd : o.data = .seq items n)
    (hT : RSomes P w h₀ d items.toList M) (hk0 : ∀ b o, h₀.get? b = some o → s.heap.get? b = some o) (h : ∀ t u tk, t.length ≤ M + 5 → Q (.done (.ret (.str t u))) { s with toks := tk }) (hsz : b + (M + 5) ≤ sizeLine) :
    wpAny (model P w) A (Builtin.tupleReprAt b ⟨[.ref a], []⟩) Q E s := by
  rw [tuple_repr_tree]
  refine wpAny_bind (fmt_underWay fun c => ?_)
  cases c with
  | true =>
    refine PySem.W.KFB.if_so rfl ?_
    refine wpAny_bind (wpAny_rule ?_)
    refine wpAny_bind (wpAny_mkStr (wpAny_pure ?_) (by decide +kernel))
    exact h "(...)" _ _ (Nat.le_trans fmt_way (Nat.le_add_left _ _))
  | false =>
    refine PySem.W.KFB.if_not rfl ?_
    exact rs_rest hu ha hd hT hk0 h hsz
theorem rs_tup {a : Addr} {o : Obj} {items : Array Value} {n M : Nat} (ha : h₀.get? a = some o) (hc : o.cls = .type "tuple") (hd : o.data = .seq items n) (hT : RSomes P w h₀ d items.toList M) : RSome P w h₀ (d + 1) (.ref a) (M + 5) := by
  intro base hb A E s Q hu hk0 hQ
  have hT' : s.TypeIs (.ref a) "tuple" := ⟨o, hk0 _ _ ha, hc⟩
  refine wpAny_pyReprUnder_ref (by omega) (wpAny_pyReprObjUnder_twin (twin := "tuple.__repr__.under") hT' F.slot_tuple_repr rfl (by omega) ?_)
  refine call_twin_own (F.quiet_tuple_repr_under _) F.entry_tuple_repr_under F.check_tuple_repr_under hT' F.slot_tuple_repr (F.args_tuple_repr_1 _) (wpOwn_of_wpAny ?_)
  refine rs_at (by rw [units_under_tuple_repr_under]; omega) (hk0 _ _ ha) hd hT hk0 (fun t u tk ht => ?_) hb
  exact ⟨⟨_, _, rfl⟩, _, _, rfl, hQ t tk ht⟩
def RTop (P : Program) (w : World) (h₀ : Heap) (d : Nat) (x : Value) (L : Nat) : Prop :=
  ∀ (A : Around) (E : Value → Shared → Prop) (s : Shared) (Q : Value → Shared → Prop), A.units + d < cLine → (∀ b o, h₀.get? b = some o → s.heap.get? b = some o) →
    (∀ (t : Str) (u tk : Tok), t.length ≤ L → Q (.str t u) { s with toks := tk }) → wpAny (model P w) A (pyReprObj x) Q E s
theorem rt_tup {a : Addr} {o : Obj} {items : Array Value} {n M : Nat} (ha : h₀.get? a = some o) (hc : o.cls = .type "tuple") (hd : o.data = .seq items n) (hT : RSomes P w h₀ d items.toList M) (hz : M + 5 ≤ sizeLine) : RTop P w h₀ (d + 1) (.ref a) (M + 5) := by
  intro A E s Q hu hk0 hQ
  have hTy : s.TypeIs (.ref a) "tuple" := ⟨o, hk0 _ _ ha, hc⟩
  unfold pyReprObj
  refine wpAny_bind (wpAny_cRoomFor (by omega) ?_)
  refine wpAny_bind (wpAny_specialOf (name := Str.ofString "__repr__") hTy F.slot_tuple_repr.lookup ?_)
  refine wpAny_bind (m := callSpecialIfBound? (.ref a) (Str.ofString "__repr__")) (wpAny_callSpecialIfBound?_slotG (name := Str.ofString "__repr__") hTy F.slot_tuple_repr
    (wpAny_call (codeAny_call_builtin_own (Code.quiet_builtin _ (by decide +kernel)) F.entry_tuple_repr (F.slot_tuple_repr.check _ _ _ _ _ _ _ _ hTy (F.args_tuple_repr_1 _) (wpOwn_of_wpAny ?_)))))
  refine rs_at (by rw [units_under_tuple_repr]; omega) (hk0 _ _ ha) hd hT hk0 (fun t u tk ht => ?_) (by omega)
  exact wpAny_bind (wpAny_isInstance (T := "str") (b := true) rfl isSubtype_str_str (wpAny_pure (hQ t u tk ht)))
end
/-! the data whose repr is asked -/
mutual
def rLen : PyData → Option (Nat × Nat)
  | .none => some (4, 0)
  | .bool _ => some (5, 0)
  | .int i => if i.natAbs.log2 < 1920 ∧ (toString i : Str).length ≤ 1000 then some (1000, 0) else none
  | .str x => if (reprText x).length ≤ 20000 then some (20000, 0) else none
  | .tuple xs => match rLens xs with | some (m, d) => some (m + 5, d + 1) | none => none
  | _ => none
def rLens : List PyData → Option (Nat × Nat)
  | [] => some (0, 0)
  | x :: xs => match rLen x, rLens xs with | some (l, d), some (m, d') => some (l + 2 + m, max d d') | _, _ => none
end
theorem RSome.deep {P : Program} {w : World} [WW w] {h₀ : Heap} {d d' : Nat} {x : Value} {L : Nat} (h : RSome P w h₀ d x L) (hd : d ≤ d') : RSome P w h₀ d' x L :=
  fun base hb A E s Q hu hk hq => h base hb A E s Q (by omega) hk hq
theorem RSomes.deep {P : Program} {w : World} [WW w] {h₀ : Heap} {d d' : Nat} (hd : d ≤ d') : ∀ {xs : List Value} {M : Nat}, RSomes P w h₀ d xs M → RSomes P w h₀ d' xs M
  | _, _, .nil => .nil
  | _, _, .cons a b => .cons (a.deep hd) (b.deep hd)
section
variable {P : Program} {w : World} [WW w] {h₀ : Heap}
theorem s1000 : 20000 ≤ sizeLine := by rw [sizeLine_eq]; decide
mutual
theorem RSome.of_reads : ∀ {v : Value} {d : PyData} {as : List Addr}, Reads h₀ v d as → ∀ {l k : Nat}, rLen d = some (l, k) → RSome P w h₀ k v l
  | _, _, _, .none, l, k, e => by cases e; exact .of_is ReprIs.none (by decide)
  | _, _, _, .bool b, l, k, e => by cases e; exact .of_is (ReprIs.bool b) (by cases b <;> decide)
  | _, _, _, .int i t, l, k, e => by
    unfold rLen at e
    split at e
    · rename_i h
      cases e
      exact .of_is (ReprIs.int t h.1) h.2
    · cases e
  | _, _, _, .str x t, l, k, e => by
    unfold rLen at e
    split at e
    · rename_i h
      cases e
      exact .of_is (ReprIs.str x t (Nat.le_trans h s1000)) h
    · cases e
  | _, _, _, .list .., l, k, e => by cases e
  | _, _, _, .dict .., l, k, e => by cases e
  | _, _, _, .tuple (a := a) (xs := xs) h1 h2 h3 h4, l, k, e => by
    unfold rLen at e
    split at e
    · rename_i m d h
      cases e
      exact rs_tup h1 h2 h3 (RSomes.of_reads h4 h)
    · cases e
theorem RSomes.of_reads : ∀ {vs : List Value} {ds : List PyData} {as : List Addr}, ReadsAll h₀ vs ds as → ∀ {l k : Nat}, rLens ds = some (l, k) → RSomes P w h₀ k vs l
  | _, _, _, .nil, l, k, e => by cases e; exact .nil
  | _, _, _, .cons h t, l, k, e => by
    unfold rLens at e
    split at e
    · rename_i l1 d1 m d2 h1 h2
      cases e
      exact .cons ((RSome.of_reads h h1).deep (Nat.le_max_left _ _)) ((RSomes.of_reads t h2).deep (Nat.le_max_right _ _))
    · cases e
end
end
end FL
namespace FL
variable [HW]
open PySem PySem.Spec PyProof.Rows PySem.W PySem.Calls
open PySem.HandSPX (excO refsVE veTail)

/-! ### __init__ of an own error: super().__init__(f'..{x!r}'), self.f = x -/
def iArgs (par : Str) (p1 p2 : Pos) : Arguments := { posonlyargs := [], args := [{ arg := "self", annotation := none, pos := p1 }, { arg := par, annotation := none, pos := p2 }], vararg := none, kwonlyargs := [], kw_defaults := [], kwarg := none, defaults := [] }
def iBody (par fld txt : Str) (j : Nat) (p0 p1 p2 p3 p4 p5 p6 p7 p8 p9 p10 p11 p12 : Pos) : List Stmt :=
  [.Expr (.Call (.Attribute (.Call (.Name "super" p0) [] [] p1) "__init__" p2) [.JoinedStr [.Constant (.str txt) j p3, .FormattedValue (.Name par p4) 114 none p5] p6] [] p7) p8,
   .Assign [.Attribute (.Name "self" p9) fld p10] (.Name par p11) p12]
def iScope (par : Str) : Scope := { kind := .function, names := [("self", .local), (par, .local), ("__class__", .free), ("super", .globalImplicit)], isGenerator := false, isCoroutine := false, more := [] }
structure OneC (P : Program) (K : Frag) (C fI : Addr) (par fld txt : Str) : Prop where
  q : excInitIn K C veTail "ValueError.__new__" = true
  cd : ∃ cd, clsIn K C = some cd ∧ refsVE cd.mro = true ∧ cd.hasDict = true
  sa : findIn K (.ref C) "__setattr__" = some (some (.builtin "object.__setattr__"))
  noF : findIn K (.ref C) fld = some none
  iC : findIn K (.ref C) "__init__" = some (some (.ref fI))
  tI : typeIn K (.ref fI) = some (.type "function")
  sup : ks_superIn K C C "__init__" = some (some (.builtin "ValueError.__init__"))
  opq : nsIn K cStatics "thirdparty.any" = some none
  isV : subIn K (.ref C) (.type "ValueError") = some true
  isB : subIn K (.ref C) (.type "BaseException") = some true
  selfC : mroIn K C (.ref C) = some true
  tC : typeIn K (.ref C) = some (.type "type")
  kC : keepIn K (.ref C) = true
  top : (P.main.scope.names.lookup ("super" : Str)).isSome = false
  lp : (iScope par).names.lookup par = some .local
  ls : (iScope par).names.lookup ("super" : Str) = some NameKind.globalImplicit
  lc : (iScope par).names.lookup ("__class__" : Str) = some NameKind.free
  cell : ∀ x ∈ (iScope par).names, x.2 ≠ .cell
  ne : (par == ("self" : Str)) = false
  nd : (par == ("__debug__" : Str)) = false
  fn : ∃ (oc : Value) (od : Option Addr) (qual : Str) (j : Nat) (a1 a2 p0 p1 p2 p3 p4 p5 p6 p7 p8 p9 p10 p11 p12 : Pos) (dV kV doc pm : Value) (an : Option Addr) (cda cc : Addr) (ct : Value) (osl : Array (Option Value)) (co : Value) (cdd : Option Addr) (vs : Array Value) (ccs : Array (Option Value)) (file : Str) (tf : Tok) (cl : Value) (cld : Option Addr) (csl : Array (Option Value)),
    K.lookup fI = some ⟨oc, od, .func (fnX "__init__" qual (iArgs par a1 a2) (iBody par fld txt j p0 p1 p2 p3 p4 p5 p6 p7 p8 p9 p10 p11 p12) (iScope par) [("__class__", cc)] dV kV doc pm an (.ref cda) ct), osl⟩ ∧ codeIn K (.ref cda) qual = true ∧
    K.lookup cda = some ⟨co, cdd, .fields vs, ccs⟩ ∧ vs[2]? = some (.str file tf) ∧ ((P.main.file : Str) == file) = true ∧ K.lookup cc = some ⟨cl, cld, .cell (some (.ref C)), csl⟩ ∧
    (∀ u v : Value, bindArgs (fnX "__init__" qual (iArgs par a1 a2) (iBody par fld txt j p0 p1 p2 p3 p4 p5 p6 p7 p8 p9 p10 p11 p12) (iScope par) [("__class__", cc)] dV kV doc pm an (.ref cda) ct) ⟨[u, v], []⟩ = (pure [(("self" : Str), u), (par, v)] : Sem (List (Str × Value)))) ∧
    (∀ env : PySem.Env, ∃ pl : Sem Bool, eval (.Call (.Attribute (.Call (.Name "super" p0) [] [] p1) "__init__" p2) [.JoinedStr [.Constant (.str txt) j p3, .FormattedValue (.Name par p4) 114 none p5] p6] [] p7) env = (do
      let ov ← attributeBase (.Call (.Name "super" p0) [] [] p1) "__init__" env (eval (.Call (.Name "super" p0) [] [] p1) env)
      standAt p2.atName
      let (f, first) ← holding [ov] (getMethod ov "__init__" pl)
      callWith p7 f first (backTo p7 (starEach [.JoinedStr [.Constant (.str txt) j p3, .FormattedValue (.Name par p4) 114 none p5] p6] env)) [])) ∧
    (∀ env : PySem.Env, swapsWith (.Name par p11) (some (.Attribute (.Name "self" p9) fld p10)) p12.line env = pure false)
structure InitEnd (h h' : Heap) (x C dx t1 : Addr) (fld : Str) (v : Value) : Prop where
  keep : ∀ b o, b ≠ x → h.get? b = some o → h'.get? b = some o
  obj : h'.get? x = some { cls := .ref C, dict := some dx, data := .fields #[.ref t1, .none, .none, .none, .bool false, .none] }
  dbig : h.objs.size ≤ dx
  dne : dx ≠ x
  ns : h'.Ns1 dx (fun y => if y = fld then some v else none)
section
variable {P : Program} {w : World} [WW w] {A : Around} {E : Value → Shared → Prop} {R : Result → Shared → Prop} {K : Frag} {mg : Str → Option Value} {C fI : Addr} {par fld txt : Str}
theorem kept_in {h h' : Heap} {x : Addr} (X : K.In h) (hx : K.lookup x = none) (k : ∀ b o, b ≠ x → h.get? b = some o → h'.get? b = some o) : K.In h' := fun a o e =>
  k a o (fun z => by rw [z, hx] at e; cases e) (X a o e)
theorem mw_call {h : Heap} {g : Array GenState} {d : Drawn} {tk : Nat} {os : OsState} {u x t : Addr} {rest : List Value} {Q : Value → Shared → Prop} (X : K.In h) (q : excInitIn K C veTail "ValueError.__new__" = true)
    (hu : h.get? u = some (kxs_mw "ValueError.__init__" x)) (he : h.get? x = some (excObj C t none .none)) (hz : rest.length ≤ sizeLine)
    (hq : ∀ h', (∀ b o, b ≠ x → h.get? b = some o → h'.get? b = some o) → h'.get? x = some (excObj C h.objs.size none .none) → Q .none ⟨h', g, d, tk, os⟩) :
    wpAny (model P w) A (call (.ref u) rest) Q E ⟨h, g, d, tk, os⟩ := by
  obtain ⟨nm, N', qn, bs, bm, hdct, sn, sub, ab, col, dd, k0, k1, k2, k3, k5, hC, hT⟩ := excInit_of X q
  refine wpAny_call (codeAny_of_tree ?_)
  show wpAny _ A.in1 (callAny (.ref u) ⟨rest, []⟩) _ _ _
  simp only [callAny]
  refine wpAny_bind (wpAny_load hu ?_)
  simp only [kxs_mw, show (Value.type "method-wrapper" == Value.type "method" || Value.type "method-wrapper" == Value.type "builtin_function_or_method" || Value.type "method-wrapper" == Value.type "method-wrapper") = true by decide, if_true]
  refine KFB.if_so (by decide) ?_
  refine wpAny_bind (check_bound_init F.excBase_ValueError.toExcCallFacts hC he rfl ?_)
  refine wpAny_bind (wpAny_pure (wpAny_pure ?_))
  refine ⟨plainId_quiet F.excBase_ValueError.init.plain _, codeAny_builtin F.excBase_ValueError.initEntry ?_⟩
  exact exc_init_tree (cls := .ref C) (t0 := t) (dv := none) (c2 := .none) (c3 := .none) (b4 := .bool false) he hz fun h' k e' t' => hq h' k e'
theorem one_init (T : OneC P K C fI par fld txt) {s : Shared} {x t0 L : Nat} {v : Value} (X : K.In s.heap) (hlim : s.heap.NoLimit) (hg : s.heap.Ns mainGlobals mg) (hb : ∃ mb, s.heap.Ns builtinsNs mb ∧ ∀ y : Str, y ≠ "__name__" → mb y = bootBuiltins y) (hmg : mg "super" = none)
    (hx : s.heap.get? x = some (excO C t0)) (hnx : K.lookup x = none) (hroom : A.depth < recursionLimit) (hu : A.units + 80 < cLine) (hrep : RTop P w s.heap 64 v L) (hL : txt.length + L ≤ sizeLine)
    (hq : ∀ h' tk dx t1, InitEnd s.heap h' x C dx t1 fld v → R (.ok (.ret .none)) { s with heap := h', toks := tk }) :
    codeAny (model P w) A (.call (.ref fI) ⟨[.ref x, v], []⟩) R s := by
  obtain ⟨oc, od, qual, j, a1, a2, p0, p1, p2, p3, p4, p5, p6, p7, p8, p9, p10, p11, p12, dV, kV, doc, pm, an, cda, cc, ct, osl, co, cdd, vs, ccs, file, tf, cl, cld, csl, hf, hcd, hcode, hvs, hfile, hcell, hbind, hev, hsw⟩ := T.fn
  obtain ⟨cd, hcl, hmro, hdct⟩ := T.cd
  have ls1 : ∀ a b : Value, ([(("self" : Str), a), (par, b)] : List (Str × Value)).reverse.lookup ("self" : Str) = some a := fun a b => by
    have h1 : (("self" : Str) == par) = false := by
      rw [Bool.eq_false_iff]
      intro z
      have := T.ne
      rw [eq_of_beq z, beq_self_eq_true] at this
      cases this
    simp [List.lookup, h1]
  have ls2 : ∀ a b : Value, ([(("self" : Str), a), (par, b)] : List (Str × Value)).reverse.lookup par = some b := fun a b => by simp [List.lookup]
  refine ks_codeAny_call_defAt (fd := fnX "__init__" qual (iArgs par a1 a2) (iBody par fld txt j p0 p1 p2 p3 p4 p5 p6 p7 p8 p9 p10 p11 p12) (iScope par) [("__class__", cc)] dV kV doc pm an (.ref cda) ct) (body := iBody par fld txt j p0 p1 p2 p3 p4 p5 p6 p7 p8 p9 p10 p11 p12) (binds := [("self", .ref x), (par, v)]) hroom (X _ _ hf) rfl hlim (codeRec_of X hcd) rfl (BindsTo.of_eq (hbind _ _)) T.cell (fun y hy => ?_) (fun h₀ hns hk => ?_)
  · simp only [List.mem_cons, List.not_mem_nil, or_false] at hy
    rcases hy with rfl | rfl
    · rfl
    · exact T.lp
  have X0 : K.In h₀ := X.keeps hk
  have hsz : s.heap.objs.size ≠ x := Nat.ne_of_gt (Heap.lt_size hx)
  show _root_.PySem.wpAt (model P w) _ (.func _ (ksEnv qual (iScope par) s.heap.objs.size fI (.ref cda) cc)) (execs (iBody par fld txt j p0 p1 p2 p3 p4 p5 p6 p7 p8 p9 p10 p11 p12) (ksEnv qual (iScope par) s.heap.objs.size fI (.ref cda) cc)) _ _ _
  unfold iBody
  obtain ⟨pl, hev⟩ := hev (ksEnv qual (iScope par) s.heap.objs.size fI (.ref cda) cc)
  refine ks_wpAt_execs_cons (ks_wpAt_Expr_any (ks_wpAt_MethodCall (pl := pl) ?_ hev))
  obtain ⟨oD, hD1, hD2⟩ : ∃ oD, h₀.get? C = some oD ∧ oD.data = .cls cd := by
    unfold clsIn at hcl
    split at hcl
    · rename_i c d cd' sl ho
      cases hcl
      exact ⟨_, X0 _ _ ho, rfl⟩
    · cases hcl
  refine ks_wpAt_super_base (env := ksEnv qual (iScope par) s.heap.objs.size fI (.ref cda) cc) T.ls T.lc rfl rfl (X0 _ _ hf) rfl (ar := { arg := "self", annotation := none, pos := a1 }) rfl rfl (X0 _ _ hcode) rfl hvs hfile T.top ?_
  obtain ⟨mb, hb1, hb2⟩ := hb
  refine ks_loadName_global rfl T.ls (loadGlobal_builtin (env := ksEnv qual (iScope par) s.heap.objs.size fI (.ref cda) cc) (hg.keeps hk) hmg (hb1.keeps hk) ((hb2 "super" (by decide)).trans (show bootBuiltins "super" = some (.type "super") by kernel_rfl)) ⟨rfl, ?_⟩)
  refine wpAny_loadName_free rfl T.lc rfl ⟨_, X0 _ _ hcell, rfl⟩ ?_
  refine wpAny_loadName_local rfl (show (iScope par).names.lookup ("self" : Str) = some NameKind.local from rfl) hns (ls1 _ _) ?_
  refine ks_wpAny_isType_cls hD1 hD2 ⟨rfl, ?_⟩
  have hx0 := hk _ _ hx
  refine ks_wpAny_call_super hD1 hD2 hx0 rfl (fun c e => ?_) (looks_mroIn X0 T.selfC) (fun h1 e1 k1 => ?_)
  · cases e
  have X1 : K.In h1 := X0.keeps k1
  have hxC : x ≠ C := fun z => by
    rw [z] at hx0
    rw [hD1] at hx0
    cases hx0
    cases hD2
  have I1 : InstAt h1 x (excO C t0) C none := ⟨k1 _ _ hx0, rfl, rfl, trivial⟩
  refine kxs_getMethod kxs_ValueError e1 (looks_opaque X1 T.opq) (l₀ := cd.mro) (fun A Q E s k q => wpAny_bind ((looks_clsIn X1 hcl) A _ E s k (wpAny_pure q))) rfl X1 (by have := T.sup; unfold ks_superIn at this; rw [hcl] at this; exact this) (I1.type.andThen (looks_subIn X1 T.isV)) hxC rfl ?_
  have k2 : ∀ b o, h1.get? b = some o → (h1.push (kxs_mw "ValueError.__init__" x)).get? b = some o := fun b o e => Heap.get?_push_of_some _ e
  have hu2 : (h1.push (kxs_mw "ValueError.__init__" x)).get? h1.objs.size = some (kxs_mw "ValueError.__init__" x) := Heap.get?_push_at rfl rfl
  have kA : ∀ b o, s.heap.get? b = some o → (h1.push (kxs_mw "ValueError.__init__" x)).get? b = some o := fun b o e => k2 _ _ (k1 _ _ (hk _ _ e))
  refine kxs_callWith (i := "ValueError.__init__") (x := x) rfl (evalArgs_plain (spliced_cons (wpAny_JoinedStr (pos := p6) ?_)))
  refine wpAny_Constant_str ⟨txt, _, rfl, ?_, ?_⟩
  · have e0 : (Str.empty ++ txt) = txt := by
      obtain ⟨c⟩ := txt
      show Str.mk (#[] ++ c) = _
      rw [Array.empty_append]
    rw [e0]
    omega
  refine wpAny_FormattedValue_repr (wpAny_Name (wpAny_loadName_local rfl T.lp (m := fun y => ([(("self" : Str), Value.ref x), (par, v)] : List (Str × Value)).reverse.lookup y) ?_ (ls2 _ _) ?_) T.nd)
  · exact (hns.keeps k1).keeps k2
  refine hrep _ _ _ _ (by show A.units + 3 + 64 < cLine; omega) kA fun t u tk ht => ?_
  have hl1 : (Str.empty ++ txt).length ≤ txt.length := by
    rw [strLen_append]
    have : Str.empty.length = 0 := rfl
    omega
  have hl2 : ((Str.empty ++ txt) ++ t).length ≤ sizeLine := by
    rw [strLen_append]
    omega
  refine wpAny_formatField_str ?_ ?_ (by omega)
  all_goals
    refine ⟨t, _, rfl, hl2, hl2, spliced_nil ⟨hu2, mw_call (X1.keeps k2) T.q hu2 (k2 _ _ (k1 _ _ hx0)) (show 1 ≤ sizeLine by rw [sizeLine_eq]; decide) (fun h3 k3 e3 => ?_)⟩⟩
    have k3s : ∀ b o, b ≠ x → s.heap.get? b = some o → h3.get? b = some o := fun b o hb e => k3 b o hb (kA b o e)
    have X3 : K.In h3 := kept_in X hnx k3s
    have hns1 : (h1.push (kxs_mw "ValueError.__init__" x)).Ns s.heap.objs.size (fun y => ([(("self" : Str), Value.ref x), (par, v)] : List (Str × Value)).reverse.lookup y) := (hns.keeps k1).keeps k2
    have hns3 : h3.Ns s.heap.objs.size (fun y => ([(("self" : Str), Value.ref x), (par, v)] : List (Str × Value)).reverse.lookup y) := hns1.at fun o e => k3 _ _ hsz e
    refine wpAt_of_wpAny (wpAny_execs_cons (plainObj_wpAny_Assign_Attribute ?_ (hsw _)))
    refine wpAny_Name (wpAny_loadName_local (m := fun y => ([(("self" : Str), Value.ref x), (par, v)] : List (Str × Value)).reverse.lookup y) rfl T.lp hns3 (ls2 _ _) ?_) T.nd
    refine wpAny_Name (wpAny_loadName_local (m := fun y => ([(("self" : Str), Value.ref x), (par, v)] : List (Str × Value)).reverse.lookup y) rfl (show (iScope par).names.lookup ("self" : Str) = some NameKind.local from rfl) hns3 (ls1 _ _) ?_)
    refine set_plain X3 (ox := excO C (h1.push (kxs_mw "ValueError.__init__" x)).objs.size) (od := none) ⟨e3, rfl, rfl, trivial⟩ T.sa ?_
    refine HandSPX.exc_osa X3 e3 hcl hmro hdct T.noF (fun h4 tk4 dx k4 dn dne hx4 hn4 => ?_)
    refine wpAny_execs_nil (hq h4 tk4 dx _ ⟨fun b o hb e => k4 b o hb (k3s b o hb e), hx4, ?_, dne, hn4⟩)
    exact Nat.le_of_lt (Nat.lt_of_lt_of_le hns3.lt dn)
structure OwnMade (h h' : Heap) (e C d : Addr) (fld : Str) (v : Value) : Prop where
  keep : ∀ b o, h.get? b = some o → h'.get? b = some o
  new : h.objs.size ≤ e
  obj : ∃ oe vs, h'.get? e = some oe ∧ oe.cls = .ref C ∧ oe.dict = some d ∧ oe.data = .fields vs ∧ vs[1]? = some .none ∧ vs[2]? = some .none ∧ 4 < vs.size
  dbig : h.objs.size ≤ d
  dne : d ≠ e
  ns : h'.Ns1 d (fun y => if y = fld then some v else none)
theorem RTop.keeps {h h' : Heap} {d L : Nat} {v : Value} (r : RTop P w h d v L) (k : ∀ b o, h.get? b = some o → h'.get? b = some o) : RTop P w h' d v L :=
  fun A E s Q hu hk hq => r A E s Q hu (fun b o e => hk b o (k b o e)) hq
theorem one_made (T : OneC P K C fI par fld txt) {s : Shared} {L : Nat} {v : Value} (X : K.In s.heap) (hlim : s.heap.NoLimit) (hg : s.heap.Ns mainGlobals mg) (hb : ∃ mb, s.heap.Ns builtinsNs mb ∧ ∀ y : Str, y ≠ "__name__" → mb y = bootBuiltins y) (hmg : mg "super" = none)
    (hroom : A.depth + 1 < recursionLimit) (hu : A.units + 100 < cLine) (hrep : RTop P w s.heap 64 v L) (hL : txt.length + L ≤ sizeLine)
    (hq : ∀ h' tk e d, OwnMade s.heap h' e C d fld v → R (.ok (.ret (.ref e))) { s with heap := h', toks := tk }) :
    codeAny (model P w) A (.call (.ref C) ⟨[v], []⟩) R s := by
  obtain ⟨nm, N', qn, bs, bm, hdct, sn, sub, ab, col, dd, k0, k1, k2, k3, k5, hC, hT⟩ := excInit_of X T.q
  obtain ⟨hp, g, dr, tk, os⟩ := s
  have k : ∀ b o, hp.get? b = some o → ((hp.push (kdv_tup [v])).push (excO C hp.objs.size)).get? b = some o := fun b o e => Heap.get?_push_of_some _ (Heap.get?_push_of_some _ e)
  have hget : ((hp.push (kdv_tup [v])).push (excO C hp.objs.size)).get? (hp.objs.size + 1) = some (excO C hp.objs.size) := by heap_get
  have hnx : K.lookup (hp.objs.size + 1) = none := by
    cases e : K.lookup (hp.objs.size + 1) with
    | none => rfl
    | some o =>
      have z : hp.get? (hp.objs.size + 1) = some o := X _ _ e
      exact absurd (Nat.lt_of_succ_lt (Heap.lt_size z)) (Nat.lt_irrefl _)
  obtain ⟨mb, hb1, hb2⟩ := hb
  refine HandSPX.call_own F.excBase_ValueError hT hC (looks_findIn X T.iC) (fun self => bind_fn X self T.tI) (show 1 ≤ sizeLine by rw [sizeLine_eq]; decide) ?_
  refine one_init (s := ⟨(hp.push (kdv_tup [v])).push (excO C hp.objs.size), g, dr, tk, os⟩) (mg := mg) T (X.keeps k) (hlim.keeps k) (hg.keeps k) ⟨mb, hb1.keeps k, hb2⟩ hmg hget hnx ?_ ?_ (hrep.keeps k) hL fun h' tk' dx t1 ⟨k', hx, dn, dne, hns⟩ => ?_
  · show A.depth + 1 < recursionLimit
    exact hroom
  · show (A.under _).units + 80 < cLine
    rw [L2.make_units]
    omega
  · have old : ∀ b o, hp.get? b = some o → h'.get? b = some o := fun b o e => k' b o (Nat.ne_of_lt (Nat.lt_succ_of_lt (Heap.lt_size e))) (k b o e)
    have z : hp.objs.size + 1 + 1 ≤ dx := by
      first
        | (simpa only [Heap.size_push] using dn)
        | exact dn
        | (have q := dn; rw [Heap.size_push, Heap.size_push] at q; exact q)
    exact ⟨rfl, hq h' tk' (hp.objs.size + 1) dx ⟨old, Nat.le_succ _, ⟨_, _, hx, rfl, rfl, rfl, rfl, rfl, by simp⟩, Nat.le_trans (Nat.le_trans (Nat.le_succ _) (Nat.le_succ _)) z, dne, hns⟩⟩
end
end FL
namespace FL
variable [HW]
open PySem PySem.Spec L2 PyProof.Rows

/-! ### isinstance of a caught error that has a dict of its own -/
section
open PySem.W PySem.Calls
variable {prog : Program} {w : World} {A : Around} {E : Value → Shared → Prop} {s : Shared} {K : Frag} {x D : Addr} {ox : Obj} {od : Option Obj}
theorem find_dataO {C : Addr} {name : Str} {a g : Value} (hc : (clsIn K C).isSome = true) (ha : findIn K (.ref C) name = some (some a)) (hg : specialIn K a "__get__" = some (some g)) (ht : takesIn K a = some true) : findObj K C od name = some (.bind g a) := by
  obtain ⟨cd, hc⟩ := Option.isSome_iff_exists.mp hc
  unfold findObj
  rw [hc, Option.bind_some, ha, Option.bind_some]
  simp [hg, ht]
theorem class_ofX (hga : findIn K (.ref D) "__getattribute__" = some (some (.builtin "BaseException.__getattribute__"))) (hgt : findIn K (.ref D) "__getattr__" = some none) (hsub : subIn K (.ref D) (.type "BaseException") = some true)
    (hdct : hasDictIn K D = true) (ha : findIn K (.ref D) "__class__" = some (some (.builtin "object.__class__")))
    (hn : specialIn K (.builtin "object.__class__") "__get__" = some (some (.builtin "getset_descriptor.__get__"))) (htk : takesIn K (.builtin "object.__class__") = some true) (hm : mroIn K D (.type "object") = some true)
    {Q : Option Value → Shared → Prop} (X : K.In s.heap) (I : InstAt s.heap x ox D od) (h : Q (some (.ref D)) { s with toks := s.toks + 1 }) : wpAny (model prog w) A (getAttr? (.ref x) "__class__") Q E s := by
  have hf : findObj K D od "__class__" = some (.bind (.builtin "getset_descriptor.__get__") (.builtin "object.__class__")) := find_dataO (by obtain ⟨cd, hc, _⟩ := any_some hdct; rw [hc]; rfl) ha hn htk
  obtain ⟨hp, g, d, t, os⟩ := s
  have L0 := I.type (M := model prog w)
  have L1 := looks_findIn (M := model prog w) X hga
  have L2 := looks_findIn (M := model prog w) X hgt
  have L3 := looks_find (M := model prog w) X I hf
  have sub : Looks (model prog w) hp (isInstance (.ref x) (.type "BaseException")) true := L0.andThen (looks_subIn X hsub)
  have hx0 : (false && onTheHeap (Value.builtin "BaseException.__getattribute__")) = false := rfl
  have hx2 : (Value.builtin "BaseException.__getattribute__" == Value.builtin "object.__getattribute__") = false := by decide +kernel
  have hx1 : (onTheHeap (Value.ref D) && Value.builtin "BaseException.__getattribute__" == Value.builtin "object.__getattribute__") = false := by rw [hx2]; rfl
  unfold getAttr? getAttrBy? getAttrBy
  refine wpAny_bind (wpAny_mkText (wpAny_bind (wpAny_attempt (wpAny_holding (wpAny_bind (L0.at (wpAny_bind (L1.at ?_))))))))
  show wpAny _ _ (if (onTheHeap (Value.ref D) && Value.builtin "BaseException.__getattribute__" == Value.builtin "object.__getattribute__") = true then _ else _) _ _ _
  rw [hx1, if_neg Bool.false_ne_true]
  unfold getAttrByItsOwn hookBefore
  refine wpAny_bind ?_
  rw [if_pos (show onTheHeap (Value.ref D) = true from rfl)]
  refine L2.at ?_
  refine wpAny_bind (wpAny_attempt (wpAny_holding ?_))
  unfold callGetattribute
  rw [hx0, if_neg Bool.false_ne_true]
  unfold boundAndCalled
  rw [PySem.F.excAttr_ValueError.ga.bind (.ref x)]
  refine wpAny_bind (wpAny_pure ?_)
  show wpAny _ _ (call (.builtin "BaseException.__getattribute__") [.ref x, .str "__class__" t]) _ _ _
  refine wpAny_call (codeAny_call_builtin PySem.F.excAttr_ValueError.ga.plain PySem.F.entry_bexc_ga ?_)
  refine @check_slot (model prog w) _ _ ⟨hp, g, d, t + 1, os⟩ "BaseException.__getattribute__" "BaseException" "__getattribute__" (.ref x) [.str "__class__" t] [] _ (by decide +kernel) (by decide +kernel) sub (PySem.F.args_bexc_ga (.ref x) (.str "__class__" t)) ?_
  unfold Builtin.«object.__getattribute__»
  refine wpAny_bind (wpAny_of_eq (a := ((Value.ref x : Value), [Value.str "__class__" t])) (by first | rfl | (simp only [slotArgs]; rfl)) ?_)
  refine wpAny_bind (wpAny_pure (wpAny_bind (L0.at (wpAny_bind (L3.at ?_)))))
  show wpAny _ _ (holding [Value.builtin "object.__class__"] (call (.builtin "getset_descriptor.__get__") [.builtin "object.__class__", .ref x, .ref D]) >>= ret) _ _ _
  refine wpAny_bind (wpAny_holding (wpAny_call (class_get (s := ⟨hp, g, d, t + 1, os⟩) (ox := ox) (od := od) X I hm ?_)))
  refine wpAny_pure ?_
  show wpAny _ _ (handedOut (.ref D)) _ _ _
  rw [handedOut_of (v := .ref D) rfl]
  first
    | exact wpAny_pure (wpAny_pure h)
    | exact wpAny_pure h
    | exact wpAny_pure (wpAny_bind (wpAny_pure (wpAny_pure h)))
theorem kitx_excO (hga : findIn K (.ref D) "__getattribute__" = some (some (.builtin "BaseException.__getattribute__"))) (hgt : findIn K (.ref D) "__getattr__" = some none) (hsub : subIn K (.ref D) (.type "BaseException") = some true) (hdct : hasDictIn K D = true) (ha : findIn K (.ref D) "__class__" = some (some (.builtin "object.__class__")))
    (hn : specialIn K (.builtin "object.__class__") "__get__" = some (some (.builtin "getset_descriptor.__get__"))) (htk : takesIn K (.builtin "object.__class__") = some true) (hm : mroIn K D (.type "object") = some true) :
    KitX K (.ref x) (.ref D) (fun h => InstAt h x ox D od) where
  ty := fun _ _ _ I => I.type
  it := fun _ _ X _ => by
    obtain ⟨cdD, hcD, _⟩ := any_some hdct
    unfold clsIn at hcD
    split at hcD
    · rename_i c' d' cd' sl' ho
      intro A' Q' E' s' k q
      unfold isType loadHead
      exact wpAny_bind (wpAny_loadPart (k _ _ (X _ _ ho)) (wpAny_pure q))
    · cases hcD
  ne := fun h tp dd its n sl X htp => by
    obtain ⟨cdD, hcD, _⟩ := any_some hdct
    refine Bool.eq_false_iff.mpr fun q => ?_
    have e : D = tp := Value.ref.inj (beq_iff_eq.mp q)
    subst e
    unfold clsIn at hcD
    split at hcD
    · rename_i c' d' cd' sl' ho
      have z := (X _ _ ho).symm.trans htp
      cases z
    · cases hcD
  ca := fun X I k => class_ofX hga hgt hsub hdct ha hn htk hm X I k
end
def rIsX (K : PySem.W.Frag) (D a dd : Addr) : List V → Hp → VK → Prop := fun xs H Q => ∃ (c : V) (cv : Value) (b : Bool) (fs : List (Str × V)), xs = [.ref a, c] ∧ (∀ u, RelV c u → u = cv) ∧ PySem.W.kitOne K (.ref D) cv = some b ∧ H dd = some (.xd fs) ∧ Q (.bl b) H
theorem call_isX {X : Cx} [WW X.w] {a D dd : Addr} {oe : Obj} {pn : List (Addr × Obj)} (C : ExcC X.K D) (hz : Zc (.ref D) (some dd) oe) (hf : ∃ vs, oe.data = .fields vs) : CallR (X.suite a ((a, oe) :: pn)) (.builtin "isinstance") (rIsX X.K D a dd) := by
  intro pins s σ H xs us Q I r h
  obtain ⟨c, cv, b, fs, rfl, hcv, e, hdd, q⟩ := h
  cases r with
  | cons rx rr =>
    cases rr with
    | cons rt rr =>
      cases rr
      cases rx
      have ec := hcv _ rt
      subst ec
      obtain ⟨hget, _⟩ := I.pin (a, oe) (List.mem_append.mpr (.inl List.mem_cons_self))
      obtain ⟨vs, hv⟩ := hf
      have hx : ObjOk X.prog X.w H s.heap dd (.xd fs) := I.hok dd _ hdd
      obtain ⟨mA, hns, hr⟩ := hx
      obtain ⟨od, ho, hl⟩ := lookIn_ns hns
      have J : PySem.W.InstAt s.heap a oe D (some od) := ⟨hget, hz.1, by unfold PySem.W.notCls; rw [hv] <;> rfl, by rw [hz.2]; exact ho⟩
      exact PySem.W.kia_one (kitx_excO C.hg C.hk C.hs C.hd C.ha C.hn C.ht C.hm) I.kIn J e (fun z => nomatch z) fun tk => ⟨.bl b, H, I.kept (t' := tk) fun _ _ z => z, rfl, q⟩
end FL
namespace FL
variable [HW]
open PySem PySem.Spec L2 PyProof.Rows

/-! ### what raises -/
structure XC where
  c : Str
  f : Str
  d : D
def XPost (K : PySem.W.Frag) (φ : Nat → Option Addr) (Hf0 H0 : Hp) (O : List Nat) (Hf : Hp) (x : XC) (ρ : Env) (W : WX) : Prop :=
  ∀ (σ' : L2.St) (dd : Addr) (v : V) (Hf' H' : Hp), Same Hf Hf' → SR K φ Hf0 H0 O ρ σ' Hf' H' → Hf' dd = some (.xd [(x.f, v)]) → Rp K φ Hf' x.d v → W (.ref (He.ga K x.c)) (some dd) σ' H'
theorem XPost.mono {K : PySem.W.Frag} {φ : Nat → Option Addr} {Hf0 H0 : Hp} {O : List Nat} {Hf Hf1 : Hp} {x : XC} {ρ : Env} {W : WX} (s : Same Hf Hf1) (h : XPost K φ Hf0 H0 O Hf x ρ W) : XPost K φ Hf0 H0 O Hf1 x ρ W :=
  fun σ' dd v Hf' H' s' => h σ' dd v Hf' H' (s.trans s')
def FX (X : Cx) (W : WX) (O O' : List Nat) (st : Stmt) (G : Env → Option (XC × Env)) : Prop :=
  ∀ (φ : Nat → Option Addr) (Hf0 H0 : Hp) (ρ : Env) (σ : L2.St) (Hf H : Hp) (x : XC) (ρ' : Env) (Dn : Ends), SR X.K φ Hf0 H0 O ρ σ Hf H → G ρ = some (x, ρ') → XPost X.K φ Hf0 H0 O' Hf x ρ' W → wS X st Dn σ H
def FXs (X : Cx) (W : WX) (O O' : List Nat) (sts : List Stmt) (G : Env → Option (XC × Env)) : Prop :=
  ∀ (φ : Nat → Option Addr) (Hf0 H0 : Hp) (ρ : Env) (σ : L2.St) (Hf H : Hp) (x : XC) (ρ' : Env) (Dn : Ends), SR X.K φ Hf0 H0 O ρ σ Hf H → G ρ = some (x, ρ') → XPost X.K φ Hf0 H0 O' Hf x ρ' W → wSs X sts Dn σ H
def FEX (X : Cx) (W : WX) (O : List Nat) (e : Expr) (G : Env → Option XC) : Prop :=
  ∀ (φ : Nat → Option Addr) (Hf0 H0 : Hp) (ρ : Env) (σ : L2.St) (Hf H : Hp) (x : XC) (Q : VK), SR X.K φ Hf0 H0 O ρ σ Hf H → G ρ = some x → XPost X.K φ Hf0 H0 O Hf x ρ W → wE X e σ H Q
/-! the mirror's words -/
def xHere (G : Env → Option XC) : Env → Option (XC × Env) := fun ρ => match G ρ with | some x => some (x, ρ) | none => none
def xSeq (A : Env → Option Out) (GA : Env → Option (XC × Env)) (G : Env → Option (XC × Env)) : Env → Option (XC × Env) := fun ρ => match A ρ with
  | some (.nx ρ') => G ρ'
  | some _ => none
  | none => GA ρ
def xNo : Env → Option (XC × Env) := fun _ => none
def xIf (C : Env → Option Bool) (F G : Env → Option (XC × Env)) : Env → Option (XC × Env) := fun ρ => match C ρ with | some true => F ρ | some false => G ρ | none => none
def rOk (d : D) : Bool := match rLen (toPy d) with | some (l, k) => decide (l ≤ 1000000) && decide (k ≤ 60) && (toPy d).canLay0 | none => false
def xRaise (c f : Str) (F : Env → Option D) : Env → Option XC := fun ρ => match F ρ with | some d => if rOk d = true then some ⟨c, f, d⟩ else none | none => none
section
variable {X : Cx} [WW X.w] {W : WX} {O O1 O' : List Nat} {st : Stmt} {sts : List Stmt} {e a : Expr} {pos : Pos}
theorem fx_no : FX X W O O' st xNo := fun φ Hf0 H0 ρ σ Hf H x ρ' Dn S hF P => nomatch hF
theorem fxs_cons {A : Env → Option Out} {GA G : Env → Option (XC × Env)} (h : FS X false [] O O1 st A) (hx : FX X W O O' st GA) (t : FXs X W O1 O' sts G) : FXs X W O O' (st :: sts) (xSeq A GA G) := fun φ Hf0 H0 ρ σ Hf H x ρ' Dn S hF P => by
  refine toSs (pss_cons psW pssW) ?_
  unfold xSeq at hF
  split at hF
  · rename_i ρ1 h1
    exact h φ Hf0 H0 ρ σ Hf H _ _ S h1 fun σ1 Hf1 H1 s1 S1 => t φ Hf0 H0 ρ1 σ1 Hf1 H1 x ρ' Dn S1 hF (P.mono s1)
  · cases hF
  · exact hx φ Hf0 H0 ρ σ Hf H x ρ' _ S hF P
theorem fx_if {c : Expr} {T : Env → Option Bool} {s1 s2 : List Stmt} {G G2 : Env → Option (XC × Env)} (h : FT X O c T) (h1 : FXs X W O O' s1 G) (h2 : FXs X W O O' s2 G2) : FX X W O O' (.If c s1 s2 pos) (xIf T G G2) := fun φ Hf0 H0 ρ σ Hf H x ρ' Dn S hF P => by
  refine toS (ps_if ptW pssW pssW) ?_
  unfold xIf at hF
  split at hF
  · rename_i hb
    exact h φ Hf0 H0 ρ σ Hf H true _ S hb fun Hf1 H1 g1 => iteT (h1 φ Hf0 H0 ρ σ Hf1 H1 x ρ' Dn (S.gr g1) hF (P.mono g1.f))
  · rename_i hb
    exact h φ Hf0 H0 ρ σ Hf H false _ S hb fun Hf1 H1 g1 => iteF (h2 φ Hf0 H0 ρ σ Hf1 H1 x ρ' Dn (S.gr g1) hF (P.mono g1.f))
  · cases hF
/-! ### raise C(e) -/
def tMk1 (K : PySem.W.Frag) (C : Addr) (fld : Str) (n : Nat) (ta : TA) : L2.St → Hp → XK → Prop := fun σ H Q => ta σ H fun vs H1 => ∃ (v : V) (p : PyData) (l k : Nat), vs = [v] ∧ Dp K H1 v p ∧ rLen p = some (l, k) ∧ k ≤ 60 ∧ n + l ≤ sizeLine ∧ ∀ d, H1 d = none → Q (.ref C) (some d) (upd H1 d (.xd [(fld, v)]))
theorem RTop.of_reads {P : Program} {w : World} [WW w] {h₀ : Heap} {v : Value} {p : PyData} {as : List Addr} (r : Reads h₀ v p as) {l k : Nat} (e : rLen p = some (l, k)) (hk : k ≤ 60) (hl : l ≤ sizeLine) : RTop P w h₀ 64 v l := by
  intro A E s Q hu hk0 hQ
  cases r with
  | none => cases e; exact pyReprObj_none (hQ _ _ _ (by decide))
  | bool b => cases e; exact pyReprObj_bool (hQ _ _ _ (by cases b <;> decide))
  | int i t =>
    unfold rLen at e
    split at e
    · rename_i h
      cases e
      exact pyReprObj_int h.1 (hQ _ _ _ h.2)
    · cases e
  | str x t =>
    unfold rLen at e
    split at e
    · rename_i h
      cases e
      exact pyReprObj_str (hQ _ _ _ h) (Nat.le_trans h s1000)
    · cases e
  | list h1 h2 h3 h4 => cases e
  | dict h1 h2 h3 h4 h5 => cases e
  | tuple h1 h2 h3 h4 =>
    unfold rLen at e
    split at e
    · rename_i m d h
      cases e
      exact rt_tup h1 h2 h3 (RSomes.of_reads h4 h) hl A E s Q (by omega) hk0 hQ
    · cases e
theorem lookup_one {v : V} {v' : Value} (r : RelV v v') (g f : Str) : RelO (List.lookup f [(g, v)]) (if f = g then some v' else none) := by
  by_cases hw : f = g
  · subst hw
    rw [if_pos rfl]
    have q : List.lookup f [(f, v)] = some v := by simp [List.lookup]
    rw [q]
    exact r
  · rw [if_neg hw]
    have qw : (f == g) = false := by simpa using hw
    have q2 : List.lookup f [(g, v)] = none := by simp [List.lookup, qw]
    rw [q2]
    trivial
theorem pmk_one {cls par fld txt : Str} {ta : TA} {p : Pos} {C fI : Addr} (T : OneC X.prog X.K C fI par fld txt) (hm : X.mg cls = some (.ref C)) (hS : X.mg "super" = none) (hr : Room 3 X.A) (ha : PA X [a] ta) (hg : Gl X cls) (hdb : (cls == ("__debug__" : Str)) = false := by decide +kernel)
    (he : starEach (a :: []) X.env = (false, eval a X.env) :: starEach [] X.env := by rfl) (hpl : (backTo pos (starEach [] X.env)).any (·.1) = false := by rfl) :
    PMk X (.Call (.Name cls p) [a] [] pos) (tMk1 X.K C fld txt.length ta) := by
  intro pins s σ H Q I h
  refine wpAny_Call_Name_kw (ld_glob I hg hm ?_ hdb)
  refine PySem.W.callWith_K (h₀ := X.base) I.ok.mod.kin T.kC (thn (ha.run pos pins s σ H _ I h) fun us s1 hh => ?_) he hpl
  obtain ⟨vs, H1, I1, r1, v, py, l, k, ev, dp, rl, hk, hl, q1⟩ := hh
  subst ev
  refine ⟨I1.kIn, ?_⟩
  cases r1 with
  | cons rv rn =>
    rename_i v' us'
    cases rn
    show wpAny _ _ (call (.ref C) [v']) _ _ _
    have hlim := I1.nolimit
    obtain ⟨as, rd⟩ := Dp.reads I1 py v v' dp rv
    obtain ⟨mb, hb1, hb2⟩ := I1.mod.blt
    have hbk := I1.bk
    obtain ⟨hp, g, dr, tk, os⟩ := s1
    refine wpAny_call (one_made (mg := X.mg) T I1.kIn hlim (I1.mod.glob.keeps hbk) ⟨mb, hb1.keeps hbk, hb2⟩ hS (by have := hr.dp; omega) (by have := hr.un; omega) (RTop.of_reads rd rl hk (by omega)) hl fun h' tk' e d M => ?_)
    show MkP X pins σ Q (.ref e) ⟨h', g, dr, tk', os⟩
    obtain ⟨oe, fv, hoe, hc, hd, hdat, h1, h2, h3⟩ := M.obj
    have hns := M.ns
    obtain ⟨G', g1, g2⟩ := restrict h' fun b => decide (b ≠ e)
    have gk : ∀ b, b ≠ e → G'.get? b = h'.get? b := fun b hb => g1 b (decide_eq_true hb)
    have ge : G'.get? e = none := g2 e (by simp)
    have old : ∀ b o, hp.get? b = some o → G'.get? b = some o := fun b o q => (gk b (Nat.ne_of_lt (Nat.lt_of_lt_of_le (Heap.lt_size q) M.new))).trans (M.keep b o q)
    have ob : ObjOk X.prog X.w (upd H1 d (.xd [(fld, v)])) G' d (.xd [(fld, v)]) :=
      ⟨_, hns.at (fun o q => (gk d M.dne).trans q), fun f => lookup_one rv fld f⟩
    have J : Inv X pins σ (upd H1 d (.xd [(fld, v)])) ⟨G', g, dr, tk', os⟩ := I1.laid (t' := tk') old M.dbig ob
    refine ⟨e, oe, fv, ⟨G', g, dr, tk', os⟩, _, .ref C, some d, rfl, J, fun b o q => ?_, ge, hoe, ⟨hc, hd⟩, hdat, h1, ?_, rfl, I1.bare, raises_own T.isB T.tC, q1 d (I1.hok.fresh M.dbig)⟩
    · by_cases hb : b = e
      · have q' : G'.get? b = some o := q
        rw [hb, ge] at q'; cases q'
      · exact (gk b hb).symm.trans q
    · rw [upd_ne (Ne.symm M.dne)]
      exact I1.hok.fresh M.new
end
end FL
namespace FL
variable [HW]
open PySem PySem.Spec L2 PyProof.Rows
section
variable {X : Cx} [WW X.w] {W : WX} {O O1 O' : List Nat} {st : Stmt} {sts : List Stmt} {e a : Expr} {es : List Expr} {pos : Pos} {F : Env → Option D} {Fs : Env → Option (List D)}
theorem fx_raise {cls par fld txt : Str} {p pos2 : Pos} {fI : Addr} (hc : X.calm = true) (tk : Takes X W) (T : OneC X.prog X.K (He.ga X.K cls) fI par fld txt) (hm : X.mg cls = some (.ref (He.ga X.K cls))) (hS : X.mg "super" = none) (hr : Room 3 X.A) (hg : Gl X cls) (ha : FE X O a F) (htx : txt.length ≤ 1000 := by decide +kernel) (hdb : (cls == ("__debug__" : Str)) = false := by decide +kernel)
    (he : starEach (a :: []) X.env = (false, eval a X.env) :: starEach [] X.env := by rfl) (hpl : (backTo pos (starEach [] X.env)).any (·.1) = false := by rfl) :
    FX X W O O (.Raise (some (.Call (.Name cls p) [a] [] pos)) none pos2) (xHere (xRaise cls fld F)) := by
  intro φ Hf0 H0 ρ σ Hf H x ρ' Dn S hF P
  unfold xHere at hF
  split at hF
  · rename_i y hy
    cases hF
    unfold xRaise at hy
    split at hy
    · rename_i d hd
      split at hy
      · rename_i hok
        cases hy
        unfold rOk at hok
        split at hok
        · rename_i l k hrl
          simp only [Bool.and_eq_true, decide_eq_true_eq] at hok
          refine toS (ps_raise hc tk (pmk_one T hm hS hr (pa_cons peW pa_nil he) hg hdb he hpl)) ?_
          refine ha φ Hf0 H0 ρ σ Hf H d _ S hd fun v Hf1 H1 g1 r1 => ?_
          refine ⟨v, toPy d, l, k, rfl, (r1.mono g1.s).dp hok.2, hrl, hok.1.2, by rw [sizeLine_eq]; omega, fun dd hdd => ?_⟩
          have g2 : Gr Hf1 H1 (upd Hf1 dd (.xd [(fld, v)])) (upd H1 dd (.xd [(fld, v)])) := .new g1.s hdd
          exact P σ dd v _ _ (g1.f.trans g2.f) ((S.gr g1).gr g2) upd_same (r1.mono g2.f)
        · cases hok
      · cases hy
    · cases hy
  · cases hF
/-! ### a def that raises -/
def spX (K : PySem.W.Frag) (n : Nat) (m : List D → Option XC) : Sp := fun vs H _ E => ∃ (φ : Nat → Option Addr) (Hf : Hp) (ds : List D) (x : XC), Same Hf H ∧ RpAll K φ Hf ds vs ∧ ds.length = n ∧ m ds = some x ∧
  ∀ (dd : Addr) (v : V) (Hf' H' : Hp), Gr Hf H Hf' H' → Hf' dd = some (.xd [(x.f, v)]) → Rp K φ Hf' x.d v → E (.ref (He.ga K x.c)) (some dd) H'
structure CalX (P : Program) (w : World) (K : PySem.W.Frag) (mg : Str → Option Value) (base : Heap) (k : Nat) (x : Str) (n : Nat) (m : List D → Option XC) : Prop where
  ok : ∃ (f : Addr) (fd : FuncData) (ps : List Str), FnOk P w K mg base (L2.CX P w) k f fd ps (spX K n m) ∧ mg x = some (.ref f) ∧ PySem.W.keepIn K (.ref f) = true ∧ Binds K fd ps []
def runX (N n : Nat) (G : Env → Option (XC × Env)) (ds : List D) : Option XC := match G (envOf N n ds) with
  | some (x, _) => some x
  | none => none
theorem calX_of {P : Program} {w : World} [WW w] {K : PySem.W.Frag} {mg : Str → Option Value} {base : Heap} {k : Nat} {a : Addr} {ps N : List Str} {x : Str} {st : Stmt} {G : Env → Option (XC × Env)} {N' n : Nat} (Dd : DefAt K x st a) (g : mg x = some (.ref a)) (S : FnScope N ps (defScope st)) (hN : N' = N.length) (hn : n = ps.length)
    (hbind : ∀ (kV doc pm : Value) (an : Option Addr) (cdv ct : Value) (us : List Value), us.length = ps.length → bindArgs (PySem.W.fnOf x x (defArgs st) (defBody st) (defScope st) .none kV doc pm an cdv ct) ⟨us, []⟩ = pure (ps.zip us))
    (O' : List Nat)
    (hb : ∀ (cdv : Value) (A : Around) (outer : List PySem.Env) (s : Shared) (H : Hp) (E : XK), Room k (A.deeper (PyProof.Rows.envOfC x (defScope st) s.heap.objs.size a cdv)) → Takes (cxOf (L2.CX P w) P w K mg base N x (defScope st) a cdv A outer s H E) (fun cls d _ H => E cls d H) →
      FXs (cxOf (L2.CX P w) P w K mg base N x (defScope st) a cdv A outer s H E) (fun cls d _ H => E cls d H) [] O' (defBody st) G) : CalX P w K mg base (k + 1) x n (runX N' n G) := by
  obtain ⟨fd, F⟩ := Dd
  refine ⟨a, fd, ps, ?_, g, F.kp, FunD.bindsN F hbind⟩
  subst hN hn
  refine FunD.ok F S (fun vs H Q E h => ?_) (fun cdv A outer s H vs Q E hr h => ?_)
  · obtain ⟨φ, Hf, ds, x', _, r, hl, _⟩ := h
    rw [← r.length]; exact hl
  · obtain ⟨φ, Hf, ds, x', hs, r, hl, hm, hk⟩ := h
    refine ⟨_, pssW, ?_⟩
    have hvl : vs.length = ps.length := by rw [← r.length]; exact hl
    unfold L2.start
    rw [hvl]
    unfold runX envOf at hm
    have S0 : SR K φ Hf H [] (ds.map some ++ List.replicate (N.length - ps.length) none) (vs.map some ++ List.replicate (N.length - ps.length) none) Hf H :=
      ⟨by simp [r.length], hs, Same.refl _, Same.refl _, fun _ _ _ z => z, fun i d e _ => r.val _ i d e, fun i d _ m => absurd m (by simp), fun i j _ _ _ _ _ m => absurd m (by simp)⟩
    split at hm
    · rename_i y ρ' h'
      cases hm
      exact hb cdv A outer s H E hr (takes_of rfl rfl rfl rfl) φ Hf H _ _ Hf H _ _ _ S0 h' fun σ' dd v Hf' H' s' S' e1 e2 => hk dd v Hf' H' S'.from0 e1 e2
    · cases hm
def xCall (n : Nat) (m : List D → Option XC) (Fs : Env → Option (List D)) : Env → Option XC := fun ρ => match Fs ρ with | some ds => if ds.length = n then m ds else none | none => none
theorem fex_call {x : Str} {p : Pos} {j k n : Nat} {m : List D → Option XC} (c : CalX X.prog X.w X.K X.mg X.base j x n m) (hr : Room k X.A) (hk : j ≤ k) (hg : Gl X x) (tk : Takes X W) (ha : FA X O (e :: es) Fs) (hdb : (x == ("__debug__" : Str)) = false := by decide +kernel) (he : starEach (e :: es) X.env = (false, eval e X.env) :: starEach es X.env := by rfl)
    (hpl : (backTo pos (starEach es X.env)).any (·.1) = false := by rfl) : FEX X W O (.Call (.Name x p) (e :: es) [] pos) (xCall n m Fs) := by
  obtain ⟨f, fd, ps, Fk, hm, hkp, hb⟩ := c.ok
  intro φ Hf0 H0 ρ σ Hf H y Q S hF P
  unfold xCall at hF
  split at hF
  · rename_i ds hds
    split at hF
    · rename_i hl
      refine toE (pe_callS Fk (hr.mono hk) hg hm hkp hb (fun σ => passAt tk σ) paW hdb he hpl) ?_
      refine ha φ Hf0 H0 ρ σ Hf H ds _ S hds fun vs Hf1 H1 g1 r1 => ?_
      exact ⟨φ, Hf1, ds, y, g1.s, r1, hl, hF, fun dd v Hf2 H2 g2 hdd rv => P σ dd v Hf2 H2 (g1.f.trans g2.f) ((S.gr g1).gr g2) hdd rv⟩
    · cases hF
  · cases hF
def FAX (X : Cx) (W : WX) (O : List Nat) (es : List Expr) (G : Env → Option XC) : Prop :=
  ∀ (φ : Nat → Option Addr) (Hf0 H0 : Hp) (ρ : Env) (σ : L2.St) (Hf H : Hp) (x : XC) (Q : List V → Hp → Prop), SR X.K φ Hf0 H0 O ρ σ Hf H → G ρ = some x → XPost X.K φ Hf0 H0 O Hf x ρ W → wA X es σ H Q
theorem fax_hd {G : Env → Option XC} (h : FEX X W O e G) (hs : starEach (e :: es) X.env = (false, eval e X.env) :: starEach es X.env := by rfl) : FAX X W O (e :: es) G := fun φ Hf0 H0 ρ σ Hf H x Q S hF P =>
  toA (pa_cons (peW (e := e)) (paW (es := es)) hs) (h φ Hf0 H0 ρ σ Hf H x _ S hF P)
def xThen (F : Env → Option D) (G : Env → Option XC) : Env → Option XC := fun ρ => match F ρ with | some _ => G ρ | none => none
end
/-! ### an except suite -/
structure HC (X : Cx) (i : Nat) (x : XC) (a : Addr) (oe : Obj) (dd : Addr) (φ : Nat → Option Addr) (Hf : Hp) (σ : L2.St) (v : V) : Prop where
  z : Zc (.ref (He.ga X.K x.c)) (some dd) oe
  f : ∃ vs, oe.data = .fields vs
  s : σ[i]? = some (some (.ref a))
  h : Hf dd = some (.xd [(x.f, v)])
  r : Rp X.K φ Hf x.d v
theorem HC.gr {X : Cx} [WW X.w] {i : Nat} {x : XC} {a dd : Addr} {oe : Obj} {φ : Nat → Option Addr} {Hf Hf' : Hp} {σ : L2.St} {v : V} (h : HC X i x a oe dd φ Hf σ v) (g : Same Hf Hf') : HC X i x a oe dd φ Hf' σ v := ⟨h.z, h.f, h.s, g _ _ h.h, h.r.mono g⟩
def FEh (X : Cx) (i : Nat) (x : XC) (O : List Nat) (e : Expr) (F : Env → Option D) : Prop :=
  ∀ (a : Addr) (oe : Obj) (pn : List (Addr × Obj)) (dd : Addr) (φ : Nat → Option Addr) (Hf0 H0 : Hp) (ρ : Env) (σ : L2.St) (Hf H : Hp) (v : V) (d : D) (Q : VK), HC X i x a oe dd φ Hf σ v → SR X.K φ Hf0 H0 O ρ σ Hf H → F ρ = some d → (∀ v Hf' H', Gr Hf H Hf' H' → Rp X.K φ Hf' d v → Q v H') → wE (X.suite a ((a, oe) :: pn)) e σ H Q
def FTh (X : Cx) (i : Nat) (x : XC) (O : List Nat) (e : Expr) (T : Env → Option Bool) : Prop :=
  ∀ (a : Addr) (oe : Obj) (pn : List (Addr × Obj)) (dd : Addr) (φ : Nat → Option Addr) (Hf0 H0 : Hp) (ρ : Env) (σ : L2.St) (Hf H : Hp) (v : V) (b : Bool) (Q : Bool → Hp → Prop), HC X i x a oe dd φ Hf σ v → SR X.K φ Hf0 H0 O ρ σ Hf H → T ρ = some b → (∀ Hf' H', Gr Hf H Hf' H' → Q b H') → wT (X.suite a ((a, oe) :: pn)) e σ H Q
def FAh (X : Cx) (i : Nat) (x : XC) (O : List Nat) (es : List Expr) (F : Env → Option (List D)) : Prop :=
  ∀ (a : Addr) (oe : Obj) (pn : List (Addr × Obj)) (dd : Addr) (φ : Nat → Option Addr) (Hf0 H0 : Hp) (ρ : Env) (σ : L2.St) (Hf H : Hp) (v : V) (ds : List D) (Q : List V → Hp → Prop), HC X i x a oe dd φ Hf σ v → SR X.K φ Hf0 H0 O ρ σ Hf H → F ρ = some ds → (∀ vs Hf' H', Gr Hf H Hf' H' → RpAll X.K φ Hf' ds vs → Q vs H') → wA (X.suite a ((a, oe) :: pn)) es σ H Q
def FShs (X : Cx) (i : Nat) (x : XC) (O : List Nat) (sts : List Stmt) (G : Env → Option D) : Prop :=
  ∀ (a : Addr) (oe : Obj) (pn : List (Addr × Obj)) (dd : Addr) (φ : Nat → Option Addr) (Hf0 H0 : Hp) (ρ : Env) (σ : L2.St) (Hf H : Hp) (v : V) (d : D) (Dn : Ends), HC X i x a oe dd φ Hf σ v → SR X.K φ Hf0 H0 O ρ σ Hf H → G ρ = some d → RtK X.K φ Hf0 H0 false d Dn.rt → wSs (X.suite a ((a, oe) :: pn)) sts Dn σ H
def hIf (T : Env → Option Bool) (F G : Env → Option D) : Env → Option D := fun ρ => match T ρ with | some true => F ρ | some false => G ρ | none => none
section
variable {X : Cx} [WW X.w] {i : Nat} {x : XC} {O : List Nat} {e a b : Expr} {es : List Expr} {pos : Pos} {F : Env → Option D} {Fs : Env → Option (List D)}
theorem feh_fld {n f : Str} {p : Pos} (hN : X.N[i]? = some n) (hv : Vis X.env.scope n) (T : XfC X.K (He.ga X.K x.c)) (hno : PySem.W.findIn X.K (.ref (He.ga X.K x.c)) f = some none) (hf : f = x.f)
    (hb : attributeBase (.Name n p) f X.env (eval (.Name n p) X.env) = eval (.Name n p) X.env := by rfl) (hd : (n == ("__debug__" : Str)) = false := by decide +kernel) (hcd : (n == ("__classdict__" : Str)) = false := by decide +kernel) :
    FEh X i x O (.Attribute (.Name n p) f pos) (fun _ => some x.d) := fun a oe pn dd φ Hf0 H0 ρ σ Hf H v d Q hc S hF k => by
  cases hF
  subst hf
  refine toE (pe_xf T hno hc.z hc.f (pe_var hN hv hd hcd) hb) ?_
  exact ⟨.ref a, hc.s, rfl, rfl, dd, [(x.f, v)], v, rfl, S.sub _ _ hc.h, by simp [List.lookup], k v Hf H (.refl S.sub) hc.r⟩
theorem feh_isi {n y isi : Str} {p pn' py : Pos} {c : V} {cv : Value} {r : Bool} (hN : X.N[i]? = some n) (hv : Vis X.env.scope n) (C : ExcC X.K (He.ga X.K x.c)) (hg : Gl X isi) (hm : X.mg isi = none) (hb : bootBuiltins isi = some (.builtin "isinstance")) (hy : ∀ (a : Addr) (oe : Obj) (pn : List (Addr × Obj)), PE (X.suite a ((a, oe) :: pn)) (.Name y py) (tC c)) (hcv : ∀ u, RelV c u → u = cv)
    (hk : PySem.W.kitOne X.K (.ref (He.ga X.K x.c)) cv = some r) (hn : isi ≠ "__name__" := by decide +kernel) (hdb : (isi == ("__debug__" : Str)) = false := by decide +kernel) (hd : (n == ("__debug__" : Str)) = false := by decide +kernel) (hcd : (n == ("__classdict__" : Str)) = false := by decide +kernel)
    (hs : starEach [.Name n pn', .Name y py] X.env = (false, eval (.Name n pn') X.env) :: starEach [.Name y py] X.env := by rfl) (hs2 : starEach [.Name y py] X.env = (false, eval (.Name y py) X.env) :: starEach [] X.env := by rfl) (hpl : (backTo pos (starEach [.Name y py] X.env)).any (·.1) = false := by rfl) :
    FEh X i x O (.Call (.Name isi p) [.Name n pn', .Name y py] [] pos) (fun _ => some (.bl r)) := fun a oe pn dd φ Hf0 H0 ρ σ Hf H v d Q hc S hF k => by
  cases hF
  refine toE (pe_callB (call_isX C hc.z hc.f) hg hm hb (pa_cons (pe_var hN hv hd hcd) (pa_cons (hy a oe pn) pa_nil hs2) hs) hn hdb hs hpl) ?_
  exact ⟨.ref a, hc.s, c, cv, r, [(x.f, v)], rfl, hcv, hk, S.sub _ _ hc.h, k _ Hf H (.refl S.sub) (.bl r)⟩
def FWh (X : Cx) (i : Nat) (x : XC) (O : List Nat) (e : Expr) (F : Env → Option Bool) : Prop :=
  ∀ (a : Addr) (oe : Obj) (pn : List (Addr × Obj)), ∃ t : TT, PW (X.suite a ((a, oe) :: pn)) e t ∧ ∀ (dd : Addr) (φ : Nat → Option Addr) (Hf0 H0 : Hp) (ρ : Env) (σ : L2.St) (Hf H : Hp) (v : V) (b : Bool) (Q : Bool → Hp → Prop), HC X i x a oe dd φ Hf σ v → SR X.K φ Hf0 H0 O ρ σ Hf H → F ρ = some b → (∀ Hf' H', Gr Hf H Hf' H' → Q b H') → t σ H Q
theorem fah_nil : FAh X i x O [] aNil := fun a oe pn dd φ Hf0 H0 ρ σ Hf H v ds Q hc S hF k => by cases hF; exact toA pa_nil (k [] Hf H (.refl S.sub) .nil)
theorem fah_cons (h : FEh X i x O e F) (t : FAh X i x O es Fs) (hs : starEach (e :: es) X.env = (false, eval e X.env) :: starEach es X.env := by rfl) : FAh X i x O (e :: es) (aCons F Fs) := fun a oe pn dd φ Hf0 H0 ρ σ Hf H v ds Q hc S hF k => by
  unfold aCons at hF
  split at hF
  · rename_i d h1
    split at hF
    · rename_i ds' h2
      cases hF
      refine toA (pa_cons (X := X.suite a ((a, oe) :: pn)) (peW (e := e)) (paW (es := es)) hs) ?_
      refine h a oe pn dd φ Hf0 H0 ρ σ Hf H v d _ hc S h1 fun v1 Hf1 H1 g1 r1 => ?_
      refine t a oe pn dd φ Hf0 H0 ρ σ Hf1 H1 v ds' _ (hc.gr g1.f) (S.gr g1) h2 fun vs Hf2 H2 g2 r2 => ?_
      exact k (v1 :: vs) Hf2 H2 (g1.trans g2) (.cons (r1.mono g2.f) r2)
    · cases hF
  · cases hF
theorem feh_lst (h : FAh X i x O es Fs) : FEh X i x O (.List es pos) (eL lstD Fs) := fun a oe pn dd φ Hf0 H0 ρ σ Hf H v d Q hc S hF k => by
  obtain ⟨ds, h1, h2⟩ := eL_some hF
  unfold lstD at h2
  split at h2
  · rename_i hl
    cases h2
    refine toE (pe_lst (paW (es := es))) ?_
    refine h a oe pn dd φ Hf0 H0 ρ σ Hf H v ds _ hc S h1 fun vs Hf1 H1 g1 r1 => ?_
    refine ⟨by rw [← r1.length]; exact hl, fun p hp => ?_⟩
    have g2 : Gr Hf1 H1 (upd Hf1 p (.lst vs)) (upd H1 p (.lst vs)) := .new g1.s hp
    exact k _ _ _ (g1.trans g2) (.lst upd_same (r1.mono g2.f))
  · cases h2
theorem fshs_ret {sts : List Stmt} (h : FEh X i x O e F) : FShs X i x O (.Return (some e) pos :: sts) F := fun a oe pn dd φ Hf0 H0 ρ σ Hf H v d Dn hc S hF P => by
  refine toSs (pss_cons psW pssW) (toS (ps_ret peW) ?_)
  exact h a oe pn dd φ Hf0 H0 ρ σ Hf H v d _ hc S hF fun v1 Hf1 H1 g1 r1 => P v1 Hf1 H1 (S.from0.trans g1) r1
end
/-! ### try -/
def sTry (i : Nat) (c f : Str) (G : Env → Option Out) (GX : Env → Option (XC × Env)) (HX : D → Env → Option D) : Env → Option Out := fun ρ => match G ρ with
  | some o => some o
  | none => match GX ρ with
    | some (x, ρ') => if x.c = c ∧ x.f = f ∧ i < ρ'.length then (match HX x.d (ρ'.set i none) with | some d => some (.rt d) | none => none) else none
    | none => none
theorem SR.setNone {K : PySem.W.Frag} {φ : Nat → Option Addr} {Hf0 H0 Hf H : Hp} {O : List Nat} {ρ : Env} {σ : L2.St} (S : SR K φ Hf0 H0 O ρ σ Hf H) (i : Nat) (hO : O.contains i = false) (u : Option V) : SR K φ Hf0 H0 O (ρ.set i none) (σ.set i u) Hf H := by
  have key : ∀ j d, (ρ.set i none)[j]? = some (some d) → ρ[j]? = some (some d) ∧ j ≠ i := fun j d h => by
    by_cases hj : i = j
    · subst hj
      rw [List.getElem?_set] at h
      simp at h
    · rw [List.getElem?_set_ne hj] at h
      exact ⟨h, fun z => hj z.symm⟩
  refine ⟨by simp [S.len], S.sub, S.gf, S.gh, S.gn, fun j d h n => ?_, fun j d h m => ?_, fun j k d e a h1 h2 m1 m2 ne h3 => ?_⟩
  · obtain ⟨h1, hj⟩ := key j d h
    obtain ⟨v, e1, r⟩ := S.val j d h1 n
    exact ⟨v, by rw [List.getElem?_set_ne (Ne.symm hj)]; exact e1, r⟩
  · obtain ⟨h1, hj⟩ := key j d h
    obtain ⟨a, xs, vs, e1, e2, e3⟩ := S.own j d h1 m
    exact ⟨a, xs, vs, e1, by rw [List.getElem?_set_ne (Ne.symm hj)]; exact e2, e3⟩
  · obtain ⟨q1, hj⟩ := key j d h1
    obtain ⟨q2, hk⟩ := key k e h2
    rw [List.getElem?_set_ne (Ne.symm hj)] at h3
    rw [List.getElem?_set_ne (Ne.symm hk)]
    exact S.ne j k d e a q1 q2 m1 m2 ne h3
theorem fs_try {X : Cx} [WW X.w] {O O' O1 : List Nat} {body suite : List Stmt} {b₀ : Stmt} {np pos pos' : Pos} {x n c f : Str} {i : Nat} {cv : Value} {G : Env → Option Out} {GX : Env → Option (XC × Env)} {HX : D → Env → Option D} {L : List Nat} (hs : X.stack = X.env :: X.outer) (hf : X.env.frame = some X.env.locals) (hN : X.N.Nodup) (hi : X.N[i]? = some n) (hln : X.env.kindOf n = some .local) (hc : Names X x cv)
    (hex : PySem.W.exmOne X.K (.ref (He.ga X.K c)) cv = some true) (hO : O1.contains i = false) (hb : FSs X.nox false L O O' body G)
    (hbx : ∀ (W : WX) (pn : List (Addr × Obj)) (xe : Value → Shared → Prop), Takes (X.tr pn xe) W → FXs (X.tr pn xe) W O O1 body GX)
    (hh : ∀ d : D, FShs X i ⟨c, f, d⟩ O1 (b₀ :: suite) (HX d)) :
    FS X false L O O' (.Try body [.ExceptHandler (some (.Name x np)) (some n) (b₀ :: suite) pos'] [] [] pos) (sTry i c f G GX HX) := fun φ Hf0 H0 ρ σ Hf H out Dn S hF P => by
  unfold sTry at hF
  split at hF
  · rename_i o ho
    cases hF
    exact toS (ps_try_thru0 pssW) (hb φ Hf0 H0 ρ σ Hf H _ Dn S ho P)
  · split at hF
    · rename_i xc ρ' hx
      split at hF
      · rename_i hxc
        split at hF
        · rename_i d hd
          cases hF
          obtain ⟨xcl, xf, xd⟩ := xc
          obtain ⟨rfl, rfl, hlen0⟩ := hxc
          refine toS (ps_try_as (tb := fun W => fun D σ H => ∀ (pn : List (Addr × Obj)) (xe : Value → Shared → Prop), Takes (X.tr pn xe) W → wSs (X.tr pn xe) body D σ H)
            (ts := fun a cls d => fun D σ H => ∀ (oe : Obj) (pn : List (Addr × Obj)), Zc cls d oe → (∃ vs, oe.data = .fields vs) → wSs (X.suite a ((a, oe) :: pn)) (b₀ :: suite) D σ H)
            hs hf hN hi hln hc (takes_none5 (X := X)) (fun W pn xe tk _ => ⟨fun pins s σ H D I h => (h pn xe tk).h pins s I⟩) (fun a oe cls d pn hz hfs => ⟨fun pins s σ H D I h => (h oe pn hz hfs).h pins s I⟩)) ?_
          intro pn xe tk
          refine hbx _ pn xe tk φ Hf0 H0 ρ σ Hf H _ _ Dn S hx fun σ' dd v Hf' H' s' S' hdd rv => ?_
          refine ⟨true, hex, fun _ a ha oe pn2 hz hfs => ?_, fun z => nomatch z⟩
          have hlen : i < σ'.length := by rw [← S'.len]; exact hlen0
          exact hh xd a oe pn2 dd φ Hf0 H0 (ρ'.set i none) (σ'.set i (some (.ref a))) Hf' H' v d _ ⟨hz, hfs, by rw [List.getElem?_set]; simp [hlen], hdd, rv⟩ (SR.setNone S' i hO _) hd P
        · cases hF
      · cases hF
    · cases hF
end FL
namespace FL
variable [HW]
open PySem PySem.Spec L2 PyProof.Rows PySem.W HandSHeadRun
open PySem.HandSPX (refsVE veTail)
/-! ### own errors at the head -/
structure XiD where
  cls : Str
  par : Str
  fld : Str
  txt : Str
  qual : Str
  params : Arguments
  body : List Stmt
  scope : Scope
abbrev FnN : Type := Option (Str × Str × Arguments × FuncBody × Scope × Addr × List Str × Addr)
def fnN (K : Frag) (p : Str × Option Str) : FnN := match K.lookup (He.fAd K p) with
  | some ⟨_, _, .func fd, _⟩ => some (fd.name, fd.qualname, fd.params, fd.body, fd.scope, fd.globals, fd.closure.map (·.1), fd.builtins)
  | _ => none
def XiD.at_ (d : XiD) : Str × Option Str := (d.cls, some "__init__")
def XiD.val (d : XiD) : FnN := some ("__init__", d.qual, d.params, .stmts d.body, d.scope, mainGlobals, ["__class__"], builtinsNs)
def oneB (K : Frag) (d : XiD) (file : Str) : Bool :=
  excInitIn K (He.ga K d.cls) veTail "ValueError.__new__" &&
  ((match clsIn K (He.ga K d.cls) with | some cd => refsVE cd.mro && cd.hasDict | none => false) &&
  (decide (findIn K (.ref (He.ga K d.cls)) "__setattr__" = some (some (.builtin "object.__setattr__"))) &&
  (decide (findIn K (.ref (He.ga K d.cls)) d.fld = some none) &&
  (decide (findIn K (.ref (He.ga K d.cls)) "__init__" = some (some (.ref (He.fAd K d.at_)))) &&
  (decide (typeIn K (.ref (He.fAd K d.at_)) = some (.type "function")) &&
  (decide (ks_superIn K (He.ga K d.cls) (He.ga K d.cls) "__init__" = some (some (.builtin "ValueError.__init__"))) &&
  (decide (nsIn K cStatics "thirdparty.any" = some none) &&
  (decide (subIn K (.ref (He.ga K d.cls)) (.type "ValueError") = some true) &&
  (decide (subIn K (.ref (He.ga K d.cls)) (.type "BaseException") = some true) &&
  (decide (mroIn K (He.ga K d.cls) (.ref (He.ga K d.cls)) = some true) &&
  (decide (typeIn K (.ref (He.ga K d.cls)) = some (.type "type")) &&
  (keepIn K (.ref (He.ga K d.cls)) &&
  (match K.lookup (He.fAd K d.at_) with
    | some ⟨_, _, .func fd, _⟩ => (match fd.defaults with | Value.none => true | _ => false) && (codeIn K fd.code d.qual && match fd.code, fd.closure with
      | .ref cda, [(n, cc)] => decide (n = "__class__") && ((match K.lookup cda with | some ⟨_, _, .fields vs, _⟩ => (match (vs[2]? : Option Value) with | some (Value.str f _) => decide (f = file) | _ => false) | _ => false) &&
          (match K.lookup cc with | some ⟨_, _, .cell (some (.ref a)), _⟩ => decide (a = He.ga K d.cls) | _ => false))
      | _, _ => false)
    | _ => false)))))))))))))
def XiD.ok (d : XiD) : Prop := ∃ (j : Nat) (a1 a2 p0 p1 p2 p3 p4 p5 p6 p7 p8 p9 p10 p11 p12 : Pos), d.params = iArgs d.par a1 a2 ∧ d.body = iBody d.par d.fld d.txt j p0 p1 p2 p3 p4 p5 p6 p7 p8 p9 p10 p11 p12 ∧ d.scope = iScope d.par ∧
    (∀ (kV doc pm : Value) (an : Option Addr) (cda cc : Addr) (ct u v : Value), bindArgs (fnX "__init__" d.qual (iArgs d.par a1 a2) (iBody d.par d.fld d.txt j p0 p1 p2 p3 p4 p5 p6 p7 p8 p9 p10 p11 p12) (iScope d.par) [("__class__", cc)] .none kV doc pm an (.ref cda) ct) ⟨[u, v], []⟩ = (pure [(("self" : Str), u), (d.par, v)] : Sem (List (Str × Value)))) ∧
    (∀ env : PySem.Env, ∃ pl : Sem Bool, eval (.Call (.Attribute (.Call (.Name "super" p0) [] [] p1) "__init__" p2) [.JoinedStr [.Constant (.str d.txt) j p3, .FormattedValue (.Name d.par p4) 114 none p5] p6] [] p7) env = (do
      let ov ← attributeBase (.Call (.Name "super" p0) [] [] p1) "__init__" env (eval (.Call (.Name "super" p0) [] [] p1) env)
      standAt p2.atName
      let (f, first) ← holding [ov] (getMethod ov "__init__" pl)
      callWith p7 f first (backTo p7 (starEach [.JoinedStr [.Constant (.str d.txt) j p3, .FormattedValue (.Name d.par p4) 114 none p5] p6] env)) [])) ∧
    (∀ env : PySem.Env, swapsWith (.Name d.par p11) (some (.Attribute (.Name "self" p9) d.fld p10)) p12.line env = pure false)
structure XiN (d : XiD) : Prop where
  lp : (iScope d.par).names.lookup d.par = some .local
  ls : (iScope d.par).names.lookup ("super" : Str) = some NameKind.globalImplicit
  lc : (iScope d.par).names.lookup ("__class__" : Str) = some NameKind.free
  cell : ∀ x ∈ (iScope d.par).names, x.2 ≠ .cell
  ne : (d.par == ("self" : Str)) = false
  nd : (d.par == ("__debug__" : Str)) = false
structure PFile (P : Program) (file : Str) : Prop where
  f : ((P.main.file : Str) == file) = true
  s : (P.main.scope.names.lookup ("super" : Str)).isSome = false
theorem one_ok {P : Program} {K : Frag} {d : XiD} {file : Str} (c : oneB K d file = true) (e : fnN K d.at_ = d.val) (t : d.ok) (n : XiN d) (p : PFile P file) : OneC P K (He.ga K d.cls) (He.fAd K d.at_) d.par d.fld d.txt := by
  unfold oneB at c
  simp only [Bool.and_eq_true, decide_eq_true_eq] at c
  obtain ⟨c1, c2, c3, c4, c5, c6, c7, c8, c9, c10, c11, c12, c13, c14⟩ := c
  refine ⟨c1, ?_, c3, c4, c5, c6, c7, c8, c9, c10, c11, c12, c13, p.s, n.lp, n.ls, n.lc, n.cell, n.ne, n.nd, ?_⟩
  · split at c2
    · rename_i cd h
      rw [Bool.and_eq_true] at c2
      exact ⟨cd, h, c2.1, c2.2⟩
    · cases c2
  · obtain ⟨j, a1, a2, p0, p1, p2, p3, p4, p5, p6, p7, p8, p9, p10, p11, p12, t1, t2, t3, t4, t5, t6⟩ := t
    unfold fnN at e
    split at c14
    · rename_i oc od fd osl ho
      rw [ho] at e
      obtain ⟨n1, n2, n3, n4, n5, n6, n7, n8, n9, n10, n11, n12, n13, n14, n15⟩ := fd
      have e2 : (some (n1, n2, n3, n4, n5, n6, n7.map (·.1), n15) : FnN) = some (("__init__" : Str), d.qual, d.params, FuncBody.stmts d.body, d.scope, mainGlobals, [("__class__" : Str)], builtinsNs) := e
      simp only [Option.some.injEq, Prod.mk.injEq] at e2
      obtain ⟨rfl, rfl, rfl, rfl, rfl, rfl, hcl, rfl⟩ := e2
      rw [Bool.and_eq_true, Bool.and_eq_true] at c14
      obtain ⟨k0, k1, k2⟩ := c14
      dsimp only at k0 k1 k2
      have e8 : n8 = Value.none := by
        split at k0
        · rfl
        · cases k0
      subst e8
      split at k2
      · rename_i cda nm cc
        simp only [Bool.and_eq_true, decide_eq_true_eq] at k2
        obtain ⟨k3, k4, k5⟩ := k2
        subst k3
        split at k4
        · rename_i co cdd vs ccs hc1
          split at k4
          · rename_i f tf hf
            have hff : f = file := of_decide_eq_true k4
            subst hff
            split at k5
            · rename_i cl cld a csl hc2
              have ha : a = He.ga K d.cls := of_decide_eq_true k5
              subst ha
              rw [t1, t2, t3] at ho
              exact ⟨oc, od, d.qual, j, a1, a2, p0, p1, p2, p3, p4, p5, p6, p7, p8, p9, p10, p11, p12, .none, n9, n10, n11, n12, cda, cc, n14, osl, co, cdd, vs, ccs, f, tf, cl, cld, csl, ho, k1, hc1, hf, p.f, hc2, fun u v => t4 _ _ _ _ _ _ _ u v, t5, t6⟩
            · cases k5
          · cases k4
        · cases k4
      · cases k2
    · cases c14
def excB (K : Frag) (D : Addr) : Bool :=
  decide (findIn K (.ref D) "__getattribute__" = some (some (.builtin "BaseException.__getattribute__"))) && (decide (findIn K (.ref D) "__getattr__" = some none) && (decide (subIn K (.ref D) (.type "BaseException") = some true) && (hasDictIn K D && (decide (findIn K (.ref D) "__class__" = some (some (.builtin "object.__class__"))) &&
  (decide (specialIn K (.builtin "object.__class__") "__get__" = some (some (.builtin "getset_descriptor.__get__"))) && (decide (takesIn K (.builtin "object.__class__") = some true) && decide (mroIn K D (.type "object") = some true)))))))
theorem excB_ok {K : Frag} {D : Addr} (c : excB K D = true) : ExcC K D ∧ XfC K D := by
  unfold excB at c
  simp only [Bool.and_eq_true, decide_eq_true_eq] at c
  obtain ⟨c1, c2, c3, c4, c5, c6, c7, c8⟩ := c
  exact ⟨⟨c1, c2, c3, c4, c5, c6, c7, c8⟩, ⟨c1, c2, c3, c4⟩⟩
def kitB (K : Frag) (x y : Str) (b : Bool) : Bool := decide (kitOne K (.ref (He.ga K x)) (.ref (He.ga K y)) = some b)
theorem kitB_ok {K : Frag} {x y : Str} {b : Bool} (c : kitB K x y b = true) : kitOne K (.ref (He.ga K x)) (.ref (He.ga K y)) = some b := of_decide_eq_true c
def kitTB (K : Frag) (x : Str) (T : String) (b : Bool) : Bool := decide (kitOne K (.ref (He.ga K x)) (.type T) = some b)
/-! the hook -/
abbrev AlX : Type := AlP × List FnN
def obsX (as : List Addr) (fa : List He.Fa) (fn : List He.DefD) (ex : Frag → Bool) (ts : List He.Tab) (ps : List PrD) (xs : List XiD) (g : Addr → Option Obj) : AlX := (obsPK fa fn ex ts ps (He.frG g as), xs.map fun d => fnN (He.frG g as) d.at_)
def SaysX (fa : List He.Fa) (fn : List He.DefD) (ex : Frag → Bool) (ts : List He.Tab) (ps : List PrD) (xs : List XiD) (w : World) (K : Frag) : Prop := SaysP fa fn ex ts ps w K ∧ (xs.map fun d => fnN K d.at_) = xs.map XiD.val
def hookX (as : List Addr) (fa : List He.Fa) (fn : List He.DefD) (ex : Frag → Bool) (ts : List He.Tab) (ps : List PrD) (xs : List XiD) : Hook where
  α := AlX
  obs := fun s => obsX as fa fn ex ts ps xs s.heap.get?
  val := fun w => ((((He.valD fn, true), ts.map fun t => some (He.keysIn w.params t.2)), valPr ps), xs.map XiD.val)
  says := fun w h => ∃ K : Frag, K.In h ∧ SaysX fa fn ex ts ps xs w K
  of := fun w _ e => ⟨_, He.frG_in, ⟨⟨⟨congrArg (fun z : AlX => z.1.1.1.1) e, congrArg (fun z : AlX => z.1.1.1.2) e⟩, (congrArg (fun z : AlX => z.1.1.2) e : _ = ts.map fun t => some (He.keysIn w.params t.2))⟩, congrArg (fun z : AlX => z.1.2) e⟩, congrArg (fun z : AlX => z.2) e⟩
  keeps := fun _ _ _ ⟨K, hK, c⟩ k => ⟨K, Frag.In.keeps hK k, c⟩
theorem obsX_eq {as : List Addr} {fa : List He.Fa} {fn : List He.DefD} {ex : Frag → Bool} {ts : List He.Tab} {ps : List PrD} {xs : List XiD} {g : Addr → Option Obj} {s : Shared} (h : ∀ a, g a = s.heap.get? a) : obsX as fa fn ex ts ps xs g = (hookX as fa fn ex ts ps xs).obs s := by
  have e : g = s.heap.get? := funext h
  rw [e] <;> rfl
theorem saysX_at {fa : List He.Fa} {fn : List He.DefD} {ex : Frag → Bool} {ts : List He.Tab} {ps : List PrD} {xs : List XiD} {w : World} [WW w] {K : Frag} (c : SaysX fa fn ex ts ps xs w K) (i : Nat) {d : XiD} (h : xs[i]? = some d := by rfl) : fnN K d.at_ = d.val := by
  have e2 : (xs.map fun d => fnN K d.at_)[i]? = (xs.map XiD.val)[i]? := by rw [c.2]
  rw [List.getElem?_map, List.getElem?_map, h] at e2
  exact Option.some.inj e2
end FL
namespace FL
variable [HW]
open PySem PySem.Spec PyProof.Rows L2

/-! ### x.upper(), min(i, j) -/
def upperD : D → Option D | .str a => if a.length ≤ 5592405 then some (.str (Txt.upper a)) else none | _ => none
def min2D : List D → Option D | [.int i, .int j] => some (.int (if j < i then j else i)) | _ => none
section
variable {X : Cx} [WW X.w] {O : List Nat} {o : Expr} {pos apos : Pos} {F : Env → Option D}
end
section
variable {X : Cx} [WW X.w] {W : WX} {O : List Nat} {e : Expr} {pos : Pos}
theorem fxs_no {O' : List Nat} {sts : List Stmt} : FXs X W O O' sts xNo := fun φ Hf0 H0 ρ σ Hf H x ρ' Dn S hF P => nomatch hF
theorem fxs_hd {O' : List Nat} {st : Stmt} {sts : List Stmt} {G : Env → Option (XC × Env)} (h : FX X W O O' st G) : FXs X W O O' (st :: sts) G := fun φ Hf0 H0 ρ σ Hf H x ρ' Dn S hF P => toSs (pss_cons psW pssW) (h φ Hf0 H0 ρ σ Hf H x ρ' _ S hF P)
end
end FL
namespace FL
variable [HW]
open PySem PySem.Spec L2 PyProof.Rows

/-! ### defs that are called while an exception is handled: their bodies do without calm -/
abbrev Cool (A : Around) : Around := { A with handled := none }
structure FnHot (P : Program) (w : World) (K : PySem.W.Frag) (mg : Str → Option Value) (base : Heap) (k : Nat) (f : Addr) (fd : FuncData) (ps : List Str) (sp : Sp) : Prop where
  lg : ∀ vs H Q E, sp vs H Q E → vs.length = ps.length
  go : ∀ (B : Around) (fr : List PySem.Env) (z : Shared) (H : Hp) (ar : Args) (us : List Value) (vs : List V) (Q : VK) (E : XK), Room k (Cool B) → Env0 P w K mg base B fr z H → BindsTo z fd ar (ps.zip us) → Vals vs us → sp vs H Q E → codeAny (model P w) B (.call (.ref f) ar) (CR CX0 fr P w H z Q E) z
abbrev cxHot (P : Program) (w : World) (K : PySem.W.Frag) (mg : Str → Option Value) (base : Heap) (N : List Str) (q : Str) (sc : Scope) (f : Addr) (cd : Value) (B : Around) (fr : List PySem.Env) (z : Shared) (H : Hp) (E : XK) : Cx :=
  { cxOf CX0 P w K mg base N q sc f cd B fr z H E with calm := false }
structure CalH (P : Program) (w : World) (K : PySem.W.Frag) (mg : Str → Option Value) (base : Heap) (k : Nat) (x : Str) (n : Nat) (m : List D → Option D) : Prop where
  ok : ∃ (f : Addr) (fd : FuncData) (ps : List Str), FnHot P w K mg base k f fd ps (spF K false n m) ∧ mg x = some (.ref f) ∧ PySem.W.keepIn K (.ref f) = true ∧ Binds K fd ps []
section
variable {X : Cx} [WW X.w] {O : List Nat} {es : List Expr} {e : Expr} {x : Str} {p pos : Pos} {k j n : Nat} {m : List D → Option D}
end
end FL
namespace FL
variable [HW]
open PySem PySem.Spec L2 PyProof.Rows

/-! ### dicts of the module with text keys: what is no key, too -/
structure TabF (K : PySem.W.Frag) (w : World) (mg : Str → Option Value) (x : Str) (tb : List (Str × D)) : Prop where
  at_ : TabAt K w mg x tb
  no : ∃ a : Addr, mg x = some (.ref a) ∧ ∀ z, tbGet tb z = none → PySem.W.nsIn K a z = some none
theorem key_mem {P : Params} : ∀ {l : List DictEntry} {ks : List Str}, l.map He.keyOf = He.keysIn P ks → ∀ e ∈ l, ∃ k t, e.key = .str k t ∧ k ∈ ks
  | [], _, _, e, he => by cases he
  | e0 :: l, [], h, _, _ => by cases h
  | e0 :: l, k :: ks, h, e, he => by
    have h1 : He.keyOf e0 :: l.map He.keyOf = some (k, PyData.keyHash P k) :: He.keysIn P ks := h
    injection h1 with h2 h3
    rcases List.mem_cons.mp he with rfl | he
    · unfold He.keyOf at h2
      split at h2
      · rename_i x t q
        have h4 := (Prod.mk.inj (Option.some.inj h2)).1
        subst h4
        exact ⟨x, t, q, .head _⟩
      · cases h2
    · obtain ⟨k', t, e1, e2⟩ := key_mem h3 e he
      exact ⟨k', t, e1, .tail _ e2⟩
theorem tbGet_no {tb : List (Str × D)} {z : Str} (h : tbGet tb z = none) : z ∉ tb.map (·.1) := fun hm => by
  unfold tbGet at h
  split at h
  · cases h
  · rename_i hf
    obtain ⟨q, hq, e⟩ := List.mem_map.mp hm
    have := List.find?_eq_none.mp hf q hq
    exact this (decide_eq_true e)
theorem ns_no {K : PySem.W.Frag} {P : Params} {a : Addr} {ks : List Str} (h : He.dicW K a = some (He.keysIn P ks)) {z : Str} (hz : z ∉ ks) : PySem.W.nsIn K a z = some none := by
  unfold He.dicW at h
  unfold PySem.W.nsIn
  split at h
  · rename_i c es n sl q
    rw [q]
    dsimp only
    split at h
    · have hk := key_mem (Option.some.inj h)
      have f : es.toList.find? (·.key.isStr z) = none := List.find?_eq_none.mpr fun e he => by
        obtain ⟨k, t, e1, e2⟩ := hk e he
        rw [e1]
        intro hc
        refine hz ?_
        have : k = z := by
          first | exact beq_iff_eq.mp hc | exact of_decide_eq_true hc | simpa [Value.isStr] using hc
        exact this ▸ e2
      have r : es.toList.any (·.refKey) = false := List.any_eq_false.mpr fun e he => by
        obtain ⟨k, t, e1, e2⟩ := hk e he
        unfold DictEntry.refKey
        rw [e1]
        exact Bool.false_ne_true
      rw [f, r]
      rfl
    · cases h
  · cases h
theorem dic_of {fa : List He.Fa} {fn : List He.DefD} {ex : PySem.W.Frag → Bool} {ts : List He.Tab} {w : World} [WW w] {K : PySem.W.Frag} (c : SaysG fa fn ex ts w K) (i : Nat) {t : He.Tab} (h : ts[i]? = some t := by rfl) : He.dicW K (t.1 K) = some (He.keysIn w.params t.2) := by
  have e2 : (ts.map fun t => He.dicW K (t.1 K))[i]? = (ts.map fun t => some (He.keysIn w.params t.2))[i]? := by rw [c.2]
  rw [List.getElem?_map, List.getElem?_map, h] at e2
  exact Option.some.inj e2
theorem tabF_ok {K : PySem.W.Frag} {w : World} [WW w] {h : Heap} {mg : Str → Option Value} (X : K.In h) (G : h.Ns mainGlobals mg) {x : Str} {tb : List (Str × D)} (c : tabB K x tb = true) (d : He.dicW K (He.ga K x) = some (He.keysIn w.params (tb.map (·.1)))) : TabF K w mg x tb := by
  refine ⟨tabB_ok X G c (He.dicW_ok d), He.ga K x, ?_, fun z hz => ns_no d (tbGet_no hz)⟩
  unfold tabB at c
  split at c
  · rename_i a ha
    rw [Bool.and_eq_true] at c
    have e := of_decide_eq_true c.1
    subst e
    exact PySem.W.mg_of X G ha
  · cases c
def tbHasF (tb : List (Str × D)) (neg : Bool) : D → Option D | .str z => some (.bl (neg != (tbGet tb z).isSome)) | _ => none
section
variable {X : Cx} [WW X.w] {O : List Nat} {e : Expr} {F : Env → Option D} {x : Str} {p pos : Pos} {tb : List (Str × D)}
theorem ft_tbNotInF (T : TabF X.K X.w X.mg x tb) (hg : Gl X x) (h : FE X O e F) (hd : (x == ("__debug__" : Str)) = false := by decide +kernel) (hm : behindInMarks .NotIn (.Name x p) = false := by with_unfolding_all rfl) : FT X O (.Compare e [.NotIn] [.Name x p] pos) (tB blD (e1 (tbHasF tb true) F)) := by
  obtain ⟨a, es, n, h1, D, hk⟩ := T.at_.ok
  obtain ⟨a2, h2, hno⟩ := T.no
  have ea : a2 = a := by rw [h1] at h2; exact (Value.ref.inj (Option.some.inj h2)).symm
  subst ea
  intro φ Hf0 H0 ρ σ Hf H c Q S hF k
  obtain ⟨d, hd', hc⟩ := tB_some hF
  obtain ⟨y, hy, h2⟩ := e1_some hd'
  unfold tbHasF at h2
  split at h2
  · rename_i z
    cases h2
    cases hc
    refine toT (pt_cmpR (op_notIn_kd D) peW (pe_glob hg h1 (v := .ref a2) rfl hd) hm) ?_
    refine h φ Hf0 H0 ρ σ Hf H _ _ S hy fun v1 Hf1 H1 g1 r1 => ?_
    cases r1
    cases hz : tbGet tb z with
    | some d0 =>
      obtain ⟨u, v, k1, _, _⟩ := hk _ (tbGet_mem hz)
      exact ⟨z, some u, rfl, rfl, k1, _, rfl, by rw [hz] at k; exact k Hf1 H1 g1⟩
    | none => exact ⟨z, none, rfl, rfl, hno z hz, _, rfl, by rw [hz] at k; exact k Hf1 H1 g1⟩
  · cases h2
end
end FL
namespace FL
variable [HW]
open PySem PySem.Spec PyProof.Rows

/-! ### a run leaves the generators that sleep, but for those that it wakes: and it wakes none that could not go on -/
def isRet : Frame → Bool
  | .ret .. => true
  | .gen .. => false
abbrev RetFs (fs : List Frame) : Prop := ∀ f ∈ fs, isRet f = true
def GNo : GenState → Prop
  | .suspended _ _ _ _ fs _ => RetFs fs
  | _ => True
def ENo : End → Prop
  | .ret _ => True
  | .susp _ _ _ _ _ _ fs => RetFs fs
theorem ENo.gen {e : End} (h : ENo e) : GNo e.genState := by
  cases e with
  | ret r => trivial
  | susp => exact h
def isSusp : GenState → Bool
  | .suspended .. => true
  | _ => false
def deadF (f : Frame) : Frame := .ret (fun _ => .unsupported "dead") none false [] f.where_.1 f.where_.2 []
def dead : GenState → GenState
  | .suspended _ l c p fs cl => .suspended (fun _ => .unsupported "dead") l c p (fs.map deadF) cl
  | x => x
theorem dead_susp {x : GenState} (h : isSusp x = true) : ∃ l c p fs cl, dead x = .suspended (fun _ => .unsupported "dead") l c p fs cl := by
  cases x with
  | suspended k l c p fs cl => exact ⟨l, c, p, _, cl, rfl⟩
  | _ => cases h
theorem no_unsupp0 {M : Model} {Γ : PySem.Ctx} {p : Pos} {w : String} {s : Shared} {e : End} {s' : Shared} (h : Runs M Γ p (.unsupported w) [] s e s') : False := by cases h
theorem no_unsupp {M : Model} {Γ : PySem.Ctx} {p : Pos} {w : String} {st : List Frame} {s : Shared} {e : End} {s' : Shared} (h : Runs M Γ p (.unsupported w) st s e s') : False := by
  cases st with
  | nil => exact no_unsupp0 h
  | cons F fs =>
    cases h with
    | segRet h1 _ => exact no_unsupp0 h1
    | segGen h1 _ => exact no_unsupp0 h1
    | segSuspOut _ h1 => exact no_unsupp0 h1
    | segSuspGen _ h1 _ _ => exact no_unsupp0 h1
section
variable (G0 : Array GenState)
def Old (j : Nat) : Prop := ∃ y, G0[j]? = some y ∧ isSusp y = true
noncomputable def pick (j : Nat) (x : GenState) : GenState := open Classical in match G0[j]? with | some y => if isSusp y = true then y else x | none => x
noncomputable def patch (G : Array GenState) : Array GenState := G.mapIdx fun j x => pick G0 j x
noncomputable def un (s : Shared) : Shared := { s with gens := patch G0 s.gens }
structure GdG (s : Shared) : Prop where
  size : G0.size ≤ s.gens.size
  no : ∀ (j : Nat) (x : GenState), s.gens[j]? = some x → GNo x
  old : ∀ (j : Nat) (y : GenState), G0[j]? = some y → isSusp y = true → s.gens[j]? = some (dead y)
variable {G0}
theorem GdG.set {s : Shared} {g : Nat} {x : GenState} (H : GdG G0 s) (h : ¬ Old G0 g) (hx : GNo x) : GdG G0 (s.setGen g x) := by
  refine ⟨?_, fun j z e => ?_, fun j y e1 e2 => ?_⟩
  · show _ ≤ (s.gens.setIfInBounds g x).size
    rw [Array.size_setIfInBounds]
    exact H.size
  · have e' : (s.gens.setIfInBounds g x)[j]? = some z := e
    rw [Array.getElem?_setIfInBounds] at e'
    split at e'
    · split at e'
      · cases e'; exact hx
      · cases e'
    · exact H.no j z e'
  · show (s.gens.setIfInBounds g x)[j]? = _
    rw [Array.getElem?_setIfInBounds, if_neg (fun z => h ⟨y, by rw [z]; exact e1, e2⟩)]
    exact H.old j y e1 e2
theorem GdG.push {s : Shared} {c : Code} (H : GdG G0 s) : GdG G0 { s with gens := s.gens.push (.fresh c) } := by
  refine ⟨?_, fun j z e => ?_, fun j y e1 e2 => ?_⟩
  · show _ ≤ (s.gens.push (.fresh c)).size
    rw [Array.size_push]
    have := H.size
    omega
  · have e' : (s.gens.push (.fresh c))[j]? = some z := e
    rw [Array.getElem?_push] at e'
    split at e'
    · cases e'; trivial
    · exact H.no j z e'
  · show (s.gens.push (.fresh c))[j]? = _
    have h1 := (Array.getElem?_eq_some_iff.mp e1).1
    have := H.size
    rw [Array.getElem?_push, if_neg (by omega)]
    exact H.old j y e1 e2
theorem GdG.heap {s : Shared} (H : GdG G0 s) {h : Heap} {d : Drawn} {t : Nat} {o : OsState} : GdG G0 { s with heap := h, drawn := d, toks := t, os := o } := ⟨H.size, H.no, H.old⟩
theorem GdG.fresh {s : Shared} (H : GdG G0 s) {g : Nat} {x : GenState} (e : s.gens[g]? = some x) (hx : isSusp x = false) : ¬ Old G0 g := fun ⟨y, h1, h2⟩ => by
  have := H.old g y h1 h2
  rw [this] at e
  cases e
  obtain ⟨l, c, p, fs, cl, q⟩ := dead_susp h2
  rw [q] at hx
  cases hx
theorem GdG.susp {M : Model} {Γ : PySem.Ctx} {p : Pos} {s s2 s3 : Shared} {g : Nat} {k : Resume → Sem Fin} {l : List Value} {c : Code} {p0 : Pos} {fs : List Frame} {cl : Bool} {r : Resume} {e : End} (H : GdG G0 s) (q : s.gens[g]? = some (.suspended k l c p0 fs cl)) (h1 : Runs M Γ p (k r) fs s2 e s3) : ¬ Old G0 g := fun ⟨y, y1, y2⟩ => by
  have := H.old g y y1 y2
  rw [q] at this
  obtain ⟨l', c', p', fs', cl', e'⟩ := dead_susp y2
  rw [e'] at this
  cases this
  exact no_unsupp h1
end
/-! the beginning: all that sleep could not go on -/
def deads (s : Shared) : Shared := { s with gens := s.gens.map dead }
end FL
namespace FL
variable [HW]
open PySem L2 PyProof.Rows
/-! ### xs.extend(a list) -/
section
open PySem.SeqAt PySem.AutoSeq1 PySem.MeetsSeq2 PySem.MeetsSeq3 PySem.MeetsSeq
variable {X : Cx} [WW X.w] {O : List Nat}
def rExtL (_ : PySem.W.Frag) : V → List V → Hp → VK → Prop := fun v vs H Q => ∃ a t xs zs, v = .ref a ∧ vs = [.ref t] ∧ H a = some (.lst xs) ∧ H t = some (.lst zs) ∧ xs.length + zs.length ≤ sizeLine ∧ Q .non (upd H a (.lst (xs ++ zs)))
def extendLF : List D → List D → Option (List D) := fun xs ds => match ds with | [.lst zs] => if xs.length + zs.length ≤ sizeLine then some (xs ++ zs) else none | _ => none
end
end FL
namespace FL
variable [HW]
open PySem L2 PyProof.Rows
section
variable {X : Cx} [WW X.w] {O : List Nat} {o e : Expr} {F : Env → Option D} {Fs : Env → Option (List D)}
/-! ### x >= y of data -/
def notNon : PyData → Bool | .none => false | _ => true
def geXD (x y : D) : Option D := if okD x && okD y && PySem.W.alike (toPy x) (toPy y) && notNon (toPy x) then some (.bl (!PySem.W.dataLt (toPy x) (toPy y))) else none
def rGeD (K : PySem.W.Frag) : R2 := fun x y H Q => ∃ d e, Dp K H x d ∧ Dp K H y e ∧ SeqAt.shaped d = true ∧ SeqAt.shaped e = true ∧ PySem.W.alike d e = true ∧ d ≠ .none ∧ Q (.bl (!PySem.W.dataLt d e)) H
/-! ### xs.index(data) -/
def indexND (x : D) (ds : List D) : Option D := match ds with
  | [y] => if isLst x && okD x && okD y then (match seqD x with | some xs => (match idxD y xs with | some k => some (.int (k : Nat)) | none => none) | none => none) else none
  | _ => none
end
end FL
namespace FL
variable [HW]
open PySem L2 PyProof.Rows
/-! ### a comprehension whose element changes objects -/
section
variable {K : PySem.W.Frag} {φ : Nat → Option Addr} {B Bf : Hp} {O : List Nat} {ρ : Env} {S : List Ob} {σ : L2.St} {Hf H : Hp}
theorem MSR.hold {us : List V} {L : Addr} (M : MSR K φ B Bf O ρ S σ Hf H) (hf : Hf L = none) (hH : H L = some (.lst us)) (hB : B L = none) (hO : ¬ ObAt φ S L) (ho : ∀ i d, ρ[i]? = some (some d) → i ∈ O → σ[i]? ≠ some (some (.ref L))) :
    MSR K φ B Bf O ρ S σ (upd Hf L (.lst us)) H ∧ Same Hf (upd Hf L (.lst us)) := by
  have sm : Same Hf (upd Hf L (.lst us)) := fun a u e => by
    have hb : a ≠ L := by rintro rfl; rw [hf] at e; cases e
    rw [upd_ne hb]; exact e
  refine ⟨?_, sm⟩
  have D : MDone K φ B Bf S (upd Hf L (.lst us)) H := by
    refine ⟨fun a u e => ?_, ⟨fun j o' e => ?_, M.cl.inj, M.cl.out⟩, M.fb, fun a u e1 e2 => ?_, M.nb⟩
    · by_cases hb : a = L
      · subst hb; rw [upd_same] at e; cases e; exact hH
      · rw [upd_ne hb] at e; exact M.sub _ _ e
    · obtain ⟨b, p1, p2, p3⟩ := M.cl.at_ j o' e
      have hb : b ≠ L := by rintro rfl; exact hO ⟨j, (List.getElem?_eq_some_iff.mp e).1, p1⟩
      exact ⟨b, p1, by rw [upd_ne hb]; exact p2, p3.mono (.refl φ) sm⟩
    · have hb : a ≠ L := by rintro rfl; rw [hB] at e1; cases e1
      rw [upd_ne hb]; exact M.fn _ _ e1 e2
  refine D.msr M.sr.len (fun i d e n => ?_) (fun i d e m => ?_) M.sr.ne
  · obtain ⟨v, e1, r⟩ := M.sr.val i d e n
    exact ⟨v, e1, r.mono sm⟩
  · obtain ⟨a, xs, vs, q1, q2, q3, q4, q5, q6, r⟩ := M.own i d e m
    have hb : a ≠ L := by rintro rfl; exact ho i d e m q2
    exact ⟨a, xs, vs, q1, q2, q3, by rw [upd_ne hb]; exact q4, q5, q6, r.mono sm⟩
end
def compM (g : D → Env → Option Env) (E : Env → List Ob → Option (D × List Ob)) (ρ : Env) : List D → List Ob → Option (List D × List Ob)
  | [], S => some ([], S)
  | d :: ds, S => match g d ρ with
    | some ρ2 => (match E ρ2 S with
      | some (y, S1) => (match compM g E ρ ds S1 with
        | some (ys, S2) => some (y :: ys, S2)
        | none => none)
      | none => none)
    | none => none
def eCompM (O vs : List Nat) (Fi : Env → Option (List D)) (g : D → Env → Option Env) (E : Env → List Ob → Option (D × List Ob)) : Env → List Ob → Option (D × List Ob) := fun ρ S => match Fi ρ with
  | some ds => if ds.length ≤ sizeLine then (match compM g E (wipeE (wipeE ρ O) vs) ds S with
    | some (ys, S') => some (.lst ys, S')
    | none => none) else none
  | none => none
section
variable {X : Cx} [WW X.w] {O : List Nat} {elt tg iter : Expr} {scope : Scope} {own : List (Str × Nat)} {pos : Pos}
def qLst (A : Env → List Ob → Option (List D × List Ob)) : Env → List Ob → Option (D × List Ob) := fun ρ S => match A ρ S with
  | some (ds, S1) => (match lstD ds with | some d => some (d, S1) | none => none)
  | none => none
def mOr (F G : Env → List Ob → Option (D × List Ob)) : Env → List Ob → Option (D × List Ob) := fun ρ S => match F ρ S with
  | some r => some r
  | none => G ρ S
end
end FL
namespace FL
variable [HW]
open PySem L2 PyProof.Rows
/-! ### a try that runs through, over objects -/
section
variable {X : Cx} [WW X.w] {O O' : List Nat} {body : List Stmt} {pos : Pos} {G : Env → List Ob → Option MOut}
end
/-! ### o.m(..), o of one of several classes: q is the mirror of the call -/
abbrev Qm : Type := (Env → Option D) → (Env → List Ob → Option (List D × List Ob)) → Env → List Ob → Option (D × List Ob)
def AskQ (P : Program) (w : World) (K : PySem.W.Frag) (mg : Str → Option Value) (base : Heap) (j : Nat) (m : Str) (q : Qm) : Prop :=
  ∀ (X : Cx), X.prog = P → X.w = w → X.K = K → X.mg = mg → X.base = base → ∀ (k : Nat), Room k X.A → j ≤ k → ∀ (O : List Nat) (o e : Expr) (es : List Expr) (apos pos : Pos) (Fo : Env → Option D) (A : Env → List Ob → Option (List D × List Ob)) (pl : Sem Bool), FE X O o Fo → MA X O (e :: es) A →
    starEach (e :: es) X.env = (false, eval e X.env) :: starEach es X.env → (backTo pos (starEach es X.env)).any (·.1) = false →
    eval (.Call (.Attribute o m apos) (e :: es) [] pos) X.env = (do
      let ov ← eval o X.env
      standAt apos.atName
      let (f, first) ← holding [ov] (getMethod ov m pl)
      callWith pos f first (backTo pos (starEach (e :: es) X.env)) (backToKw pos (keywordEach [] X.env))) → ME X O (.Call (.Attribute o m apos) (e :: es) [] pos) (q Fo A)
section
variable {P : Program} {w : World} [WW w] {K : PySem.W.Frag} {mg : Str → Option Value} {base : Heap} {j : Nat} {c m : Str} {n : Nat} {mir : List D → List Ob → Option (D × List Ob)} {q q2 : Qm}
def qEi (q q2 : Qm) : Qm := fun Fo A => mOr (q Fo A) (q2 Fo A)
end
section
variable {X : Cx} [WW X.w] {j k : Nat} {m : Str} {q : Qm} {O : List Nat} {o e : Expr} {es : List Expr} {apos pos : Pos} {Fo : Env → Option D} {A1 : Env → List Ob → Option (List D × List Ob)}
end
end FL
namespace FL
variable [HW]
open PySem L2 PyProof.Rows
section
variable {X : Cx} [WW X.w] {O : List Nat} {a b c : Expr} {pos : Pos} {F G E : Env → Option D}
def chD : D → D → D → Option D | .int i, .int j, .int k => some (.bl (decide (i ≤ j) && decide (j ≤ k))) | _, _, _ => none
end
/-! ### o.f(..), f a field that holds an object with __call__ -/
section
variable {X : Cx} [WW X.w] {O : List Nat} {e o : Expr} {es : List Expr} {c c2 f : Str} {apos pos : Pos} {A1 : Env → List Ob → Option (List D × List Ob)} {M1 : Env → List Ob → Option (D × List Ob)} {k j n : Nat} {mir : List D → List Ob → Option (D × List Ob)}
end
end FL
namespace FL
variable [HW]
open PySem PySem.Spec L2 PyProof.Rows RZ
/-! ### zip(a tuple, a list) -/
theorem sep_of {z TI TO j1 j2 a b : Addr} (D : ZipApart z TI TO j1 j2 a b) : ZipSep2 z TI TO j1 j2 [j1, a] [j2, b] := by
  have no : ∀ {x p q : Addr}, x ≠ p → x ≠ q → x ∉ [p, q] := fun h1 h2 h => by
    rcases List.mem_cons.mp h with e | e
    · exact h1 e
    · exact h2 (List.mem_singleton.mp e)
  exact ⟨D.TIz, D.TOz, D.TITO, D.TIi1, .head _, no (Ne.symm D.i1z) (Ne.symm D.l1z), no D.TOi1 (Ne.symm D.l1TO), D.TIi2, .head _, no (Ne.symm D.i2z) (Ne.symm D.l2z), no D.TOi2 (Ne.symm D.l2TO), no D.i12 (Ne.symm D.l2i1), no (Ne.symm D.i12) (Ne.symm D.l1i2)⟩
def ItM (K : PySem.W.Frag) (a b : Addr) : It :=
  ⟨fun i H => ∃ (xs ys : List V) (x y : V), (SqT K H a xs ∧ xs[i]? = some x) ∧ (SqL K H b ys ∧ ys[i]? = some y),
    fun i H v H' => ∃ T x y, (v = .ref T ∧ H T = none ∧ H' = upd H T (.tup [x, y])) ∧ (∀ xs, SqT K H a xs → xs[i]? = some x) ∧ (∀ ys, SqL K H b ys → ys[i]? = some y),
    fun i H => ∃ xs ys : List V, (SqT K H a xs ∧ SqL K H b ys) ∧ (xs.length ≤ i ∨ ys.length ≤ i)⟩
def iZipM (K : PySem.W.Frag) (ta : TA) : TI := fun σ H R => ta σ H fun vs H1 => ∃ a b xs ys, vs = [.ref a, .ref b] ∧ (SqT K H1 a xs ∧ SqL K H1 b ys) ∧ R (ItM K a b) H1
def iZpM (F G : Env → Option D) : Env → Option (List D) := fun ρ => match F ρ, G ρ with
  | some (.tup xs), some (.lst ys) => some (zipT xs ys)
  | _, _ => none
end FL
namespace FL
variable [HW]
open PySem PySem.Spec PyProof.Rows L2
section
variable {X : Cx} [WW X.w] {O : List Nat} {e : Expr} {F G : Env → Option D}
def eEi (F G : Env → Option D) : Env → Option D := fun ρ => match F ρ with
  | some d => some d
  | none => G ρ
end
/-! ### t.count(x), t a tuple of flat data -/
def rCntT (K : PySem.W.Frag) : V → List V → Hp → VK → Prop := fun x xs H Q => ∃ (a : Addr) (ys : List V) (y : V), (x = V.ref a ∧ xs = [y]) ∧ SqT K H a ys ∧ (flatV y = true ∧ ys.all flatV = true) ∧ Q (.int (ys.countP fun z => eqV z y : Nat)) H
def countTD (x : D) (ds : List D) : Option D := match x, ds with
  | .tup xs, [y] => if flatD y && xs.all flatD then some (.int (xs.countP fun z => deq z y : Nat)) else none
  | _, _ => none
end FL
namespace FL
variable [HW]
open PySem PySem.Spec PyProof.Rows L2
/-! ### tuples whose object is known: no dict of their own -/
def ExT (H : Hp) (a : Addr) (xs : List V) : Prop := ∃ ob : Obj, H a = some (.frz ob (.tup xs)) ∧ ob.dict = none ∧ ob.cls = .type "tuple"
theorem ExT.sq {K : PySem.W.Frag} {H : Hp} {a : Addr} {xs : List V} (h : ExT H a xs) : SqT K H a xs := let ⟨ob, e, _⟩ := h; .inl (.inr ⟨ob, e⟩)
theorem ExT.same {H H' : Hp} {a : Addr} {xs : List V} (s : Same H H') (h : ExT H a xs) : ExT H' a xs := let ⟨ob, e, r⟩ := h; ⟨ob, s _ _ e, r⟩
theorem ExT.plain {X : Cx} [WW X.w] {pins : List (Addr × Obj)} {σ : L2.St} {H : Hp} {s : Shared} {a : Addr} {xs : List V} (I : Inv X pins σ H s) (h : ExT H a xs) : s.TypeIs (.ref a) "tuple" ∧ ∀ b, Value.ref a = .ref b → ∃ ob, s.heap.get? b = some ob ∧ ob.dict = none := by
  obtain ⟨ob, e, hd, hc⟩ := h
  have g : s.heap.get? a = some ob := (I.hok a _ e).1
  exact ⟨⟨ob, g, hc⟩, fun b z => by cases z; exact ⟨ob, g, hd⟩⟩
section
variable {X : Cx} [WW X.w] {O : List Nat} {o e : Expr} {F G : Env → Option D}
def FEx (X : Cx) (O : List Nat) (e : Expr) (F : Env → Option D) : Prop :=
  ∀ (φ : Nat → Option Addr) (Hf0 H0 : Hp) (ρ : Env) (σ : L2.St) (Hf H : Hp) (ds : List D) (Q : VK), SR X.K φ Hf0 H0 O ρ σ Hf H → F ρ = some (.tup ds) →
    (∀ a vs Hf' H', Gr Hf H Hf' H' → ExT Hf' a vs → RpAll X.K φ Hf' ds vs → Q (.ref a) H') → wE X e σ H Q
end
end FL
namespace FL
variable [HW]
open PySem PySem.Spec L2 PyProof.Rows GenW

/-! ### a heap cut to the size that it had -/
def cutH (n : Nat) (h : Heap) : Heap := { h with objs := h.objs.extract 0 n }
def cutS (n : Nat) (s : Shared) : Shared := { s with heap := cutH n s.heap }
theorem cutH_at {n : Nat} {h : Heap} {a : Nat} : (cutH n h).objs[a]? = if a < n then h.objs[a]? else none := by
  show (h.objs.extract 0 n)[a]? = _
  rw [Array.getElem?_extract]
  by_cases ha : a < n
  · rw [if_pos ha]
    by_cases hb : a < h.objs.size
    · rw [if_pos (by omega)]; simp
    · rw [if_neg (by omega)]
      exact (Array.getElem?_eq_none (by omega)).symm
  · rw [if_neg ha, if_neg (by omega)]
theorem get_cut {n : Nat} {h : Heap} {a : Addr} {o : Obj} (e : h.get? a = some o) (l : a < n) : (cutH n h).get? a = some o := by
  unfold Heap.get? at e ⊢
  rw [cutH_at, if_pos l]
  exact e
theorem funs_cut {n : Nat} {h base : Heap} : ∀ {l : List PySem.Env}, h.FunFrames base l → (∀ b ∈ frs l, b < n) → (cutH n h).FunFrames base l
  | [], _, _ => trivial
  | env :: rest, ⟨hk, ⟨L, o, hf, hn, ho, hd⟩, hr⟩, hl => by
    have hm : frs (env :: rest) = L :: frs rest := by unfold frs; rw [List.filterMap_cons, hf]
    rw [hm] at hl
    exact ⟨hk, ⟨L, o, hf, hn, get_cut ho (hl L (.head _)), hd⟩, funs_cut hr fun b hb => hl b (.tail _ hb)⟩

/-! ### a generator that any consumer may turn: its base moves with each waking -/
abbrev Bs := Shared × Hp
abbrev XB (X : Cx) (b : Bs) : Cx := { X with s_0 := b.1, H_0 := b.2 }
structure WK (P : Program) (w : World) (base : Heap) (outer : List PySem.Env) (n0 : Nat) (fo : List (Addr × Obj)) (H : Hp) (s : Shared) (b' : Bs) (fo' : List (Addr × Obj)) (H' : Hp) (s' : Shared) : Prop where
  os : s'.os = s.os
  b1 : b' = (cutS n0 s', H')
  bare : AllBare s'.gens
  keep : ∀ a o, n0 ≤ a → s.heap.get? a = some o → H a = none → a ∉ fo.map Prod.fst → (∀ v, o.data ≠ .cell v) → s'.heap.get? a = some o ∧ H' a = none
  bas : ∀ a o, base.get? a = some o → s'.heap.get? a = some o ∧ H' a = none
  funs : (cutH n0 s'.heap).FunFrames base outer
  frf : ∀ a ∈ frs outer, H' a = none
  hok : HOk P w H' s'.heap
  pins : ∀ p ∈ fo', s'.heap.get? p.1 = some p.2 ∧ H' p.1 = none ∧ p.1 ∉ frs outer ∧ ∀ v, p.2.data ≠ .cell v
  pne : ∀ p ∈ fo', ∀ o, n0 ≤ p.1 → s.heap.get? p.1 = some o → H p.1 = none → (∀ v, o.data ≠ .cell v) → p.1 ∈ fo.map Prod.fst
  size : n0 ≤ s'.heap.objs.size
structure GN (X : Cx) (b : Bs) (fo ip : List (Addr × Obj)) (σ : L2.St) (H : Hp) (s : Shared) : Prop where
  inv : Inv (XB X b) (fo ++ ip) σ H s
  sz : b.1.heap.objs.size = X.env.locals
  ne : ∀ p ∈ fo, ∀ q ∈ X.pn ++ ip, p.1 ≠ q.1
section
variable {X : Cx} [WW X.w] {b b' : Bs} {fo fo' ip : List (Addr × Obj)} {σ : L2.St} {H H' : Hp} {s s' : Shared}
end

/-! ### the protocol: W, the consumer's story; Z, what it has kept since the waking -/
abbrev WcN := Nat → Shared → Bs → List (Addr × Obj) → ZK → Prop
def sent (u : Bool) : Value := if u = true then .bool true else .none
def GnY (X : Cx) (PY : PYK) (W : WcN) : Protocol := fun n s0 v s kap =>
  ∃ k x b fo ip σ Z Hf H, n + 1 + k = sizeLine ∧ RelV x v ∧ W k s0 b fo Z ∧ GN X b fo ip σ H s ∧ PY k x Hf H ∧ Z Hf ∧
    ∀ u s' b' fo' Z' Hf' H', WK X.prog X.w X.base X.outer X.env.locals fo H s b' fo' H' s' → W (k + 1) s' b' fo' Z' → MonoZ Z' → Z' Hf' → Gr Hf H Hf' H' → kap (.send (sent u)) s'
def GnR (X : Cx) (W : WcN) (Q : ZK → Nat → VK) : GenEnd := fun n s0 r s => match r with
  | .ok (.ret u) => ∃ k v b fo ip σ Z H, n + k = sizeLine ∧ W k s0 b fo Z ∧ GN X b fo ip σ H s ∧ RelV v u ∧ Q Z k v H
  | .ok _ => False
  | .error e => False
def GnSP (X : Cx) (b : Bs) (fo ip : List (Addr × Obj)) (D : GqEnds) (Z : ZK) (k : Nat) (f : Flow) (s : Shared) : Prop :=
  match f with
  | .next => ∃ σ H, GN X b fo ip σ H s ∧ D.nx Z k σ H
  | .brk => ∃ σ H, GN X b fo ip σ H s ∧ D.bk Z k σ H
  | .cont => ∃ σ H, GN X b fo ip σ H s ∧ D.ct Z k σ H
  | .ret u => ∃ v σ H, GN X b fo ip σ H s ∧ RelV v u ∧ D.rt Z k v H
structure GnC (X : Cx) (ip : List (Addr × Obj)) (A : Around) (c : Code) (fs : List Frame) (gd : Bool → Bool) : Prop where
  ex : X.ex = []
  cells : X.env.cells = []
  young : ∀ q ∈ X.pn ++ ip, X.env.locals ≤ q.1
  over : A.over c fs = X.A
  split : splitAtGen fs = none
  guard : fs.any Frame.guarded = false
  gd : gd false = false
structure GnK (X : Cx) (ip : List (Addr × Obj)) (A : Around) (R : GenEnd) (PY : PYK) (W : WcN) (c : Code) (fs : List Frame) (K : Flow → Sem PySem.Fin) (J : Value → Sem PySem.Fin) (D : GqEnds) : Prop where
  ok : ∀ (n k : Nat) (s0 s : Shared) (b : Bs) (fo : List (Addr × Obj)) (Z : ZK) (f : Flow), n + k = sizeLine → W k s0 b fo Z → MonoZ Z → GnSP X b fo ip D Z k f s → Seg (model X.prog X.w) A R (GnY X PY W) n s0 c (K f) fs s
  exc : ∀ (n : Nat) (s0 : Shared) (e : Value) (s : Shared), X.xe e s → Seg (model X.prog X.w) A R (GnY X PY W) n s0 c (J e) fs s
structure GnS (X : Cx) (st : Stmt) (t : TGq) : Prop where
  run : ∀ (A : Around) (ip : List (Addr × Obj)) (R : GenEnd) (PY : PYK) (W : WcN) (n k : Nat) (s0 : Shared) (c : Code) (fs : List Frame) (K : Flow → Sem PySem.Fin) (J : Value → Sem PySem.Fin) (gd : Bool → Bool) (lv : List Value → List Value) (s : Shared) (σ : L2.St) (H : Hp) (D : GqEnds) (b : Bs) (fo : List (Addr × Obj)) (Z : ZK),
    GnC X ip A c fs gd → n + k = sizeLine → GnK X ip A R PY W c fs K J D → W k s0 b fo Z → MonoZ Z → GN X b fo ip σ H s → t PY D Z k σ H →
    Seg (model X.prog X.w) A R (GnY X PY W) n s0 c ((exec st X.env).wrap K J gd lv) fs s
structure GnSs (X : Cx) (st : List Stmt) (t : TGq) : Prop where
  run : ∀ (A : Around) (ip : List (Addr × Obj)) (R : GenEnd) (PY : PYK) (W : WcN) (n k : Nat) (s0 : Shared) (c : Code) (fs : List Frame) (K : Flow → Sem PySem.Fin) (J : Value → Sem PySem.Fin) (gd : Bool → Bool) (lv : List Value → List Value) (s : Shared) (σ : L2.St) (H : Hp) (D : GqEnds) (b : Bs) (fo : List (Addr × Obj)) (Z : ZK),
    GnC X ip A c fs gd → n + k = sizeLine → GnK X ip A R PY W c fs K J D → W k s0 b fo Z → MonoZ Z → GN X b fo ip σ H s → t PY D Z k σ H →
    Seg (model X.prog X.w) A R (GnY X PY W) n s0 c ((execs st X.env).wrap K J gd lv) fs s
section
variable {X : Cx} [WW X.w] {st : Stmt} {rest : List Stmt}
def tNPlain (t : Bs → TS) : TGq := fun _ D Z k σ H => ∀ b, t b (D.at Z k) σ H
def tNIf (tc : Bs → TT) (t u : TGq) : TGq := fun PY D Z k σ H => ∀ b, tc b σ H fun b' H1 => if b' = true then t PY D Z k σ H1 else u PY D Z k σ H1
def tNYield (te : Bs → TE) : TGq := fun PY D Z k σ H => k < sizeLine ∧ ∀ b, te b σ H fun x H1 => ∃ Hf1, PY k x Hf1 H1 ∧ Z Hf1 ∧ ∀ (Z' : ZK) Hf' H', MonoZ Z' → Gr Hf1 H1 Hf' H' → Z' Hf' → D.nx Z' (k + 1) σ H'
def tNFor (wi : Bs → TI) (g : Bs → TG) (tb : TGq) : TGq := fun PY D Z k σ H => ∀ b, wi b σ H fun J H1 => ∃ W : Nat → Nat → ZK → Nat → L2.St → Hp → Prop, (∃ m, W 0 m Z k σ H1) ∧ ∀ i m Z k σ H, MonoZ Z → W i m Z k σ H →
  (J.stop i H ∧ D.nx Z k σ H) ∨ (J.go i H ∧ ∃ N : ZK → Nat → L2.St → Hp → Prop, (∀ Z' k' σ' H', N Z' k' σ' H' → ∃ m', m' < m ∧ W (i + 1) m' Z' k' σ' H') ∧ ∀ x H', J.yld i H x H' → ∀ b2, g b2 x σ H' fun σ2 H2 => tb PY { D with nx := N, ct := N, bk := D.nx } Z k σ2 H2)
end
end FL
namespace FL
variable [HW]
open PySem PySem.Spec L2 PyProof.Rows GenW

/-! ### a def that yields, for any consumer -/
structure TF (P : Program) (w : World) (outer : List PySem.Env) (a : Addr) (g : Nat) (b : Bs) (fo : List (Addr × Obj)) (H' : Hp) (s1 : Shared) : Prop where
  os : s1.os = b.1.os
  bare : AllBare s1.gens
  lim : s1.heap.NoLimit
  gen : s1.heap.IsGen a g
  genN : H' a = none
  un : Un (frs outer) [] b.2 H' b.1.heap s1.heap
  hok : HOk P w H' s1.heap
  fo : ∀ p ∈ fo, s1.heap.get? p.1 = some p.2 ∧ H' p.1 = none
def EndN (P : Program) (w : World) (outer : List PySem.Env) (a : Addr) (g : Nat) (W : WcN) (Q : CtK) (n : Nat) (s0 s1 : Shared) : Prop :=
  ∃ H' k b fo Z, W k s0 b fo Z ∧ TF P w outer a g b fo H' s1 ∧ n + k = sizeLine ∧ Q Z k H'
def RNo (F : Nat → Shared → Shared → Prop) : GenEnd := fun n s0 r s1 => ((r = .ok (.ret .none) ∨ r = .ok .next) ∧ F n s0 s1) ∨ ∃ e, r = .error e ∧ False
def ItemN (P : Program) (w : World) (base : Heap) (outer : List PySem.Env) (n0 : Nat) (a : Addr) (g : Nat) (PY : PYK) (W : WcN) : Protocol := fun n s0 v s1 kap =>
  ∃ k x b fo Z Hf' H', n + 1 + k = sizeLine ∧ RelV x v ∧ W k s0 b fo Z ∧ TF P w outer a g b fo H' s1 ∧ PY k x Hf' H' ∧ Z Hf' ∧
    ∀ u s' b' fo' Z' Hf'' H'', WK P w base outer n0 fo H' s1 b' fo' H'' s' → W (k + 1) s' b' fo' Z' → MonoZ Z' → Z' Hf'' → Gr Hf' H' Hf'' H'' → kap (.send (sent u)) s'
def MadeN (P : Program) (w : World) (base : Heap) (k : Nat) (outer : List PySem.Env) (H Hf : Hp) (s : Shared) (PY : PYK) (Q : CtK) (u : Value) (s' : Shared) : Prop :=
  ∃ (a : Addr) (g : Nat) (c : Code), u = .ref a ∧ s.heap.objs.size ≤ a ∧ a < s'.heap.objs.size ∧ s'.heap.IsGen a g ∧ s'.gens[g]? = some (.fresh c) ∧ s'.os = s.os ∧ AllBare s'.gens ∧ s'.heap.NoLimit ∧ (∀ b o, s.heap.get? b = some o → s'.heap.get? b = some o) ∧
    ∀ (A : Around) (s2 : Shared) (W : WcN) (b' : Bs) (fo' : List (Addr × Obj)) (Z' : ZK) (Hf' H' : Hp), Room k A → A.frames = some outer → WK P w base outer s.heap.objs.size [] H s' b' fo' H' s2 → W 0 s2 b' fo' Z' → MonoZ Z' → Z' Hf' → Gr Hf H Hf' H' →
      Seg (model P w) A (RNo (EndN P w outer a g W Q)) (ItemN P w base outer s.heap.objs.size a g PY W) sizeLine s2 c ((model P w).den c) [] s2
structure QFnN (P : Program) (w : World) (K : PySem.W.Frag) (mg : Str → Option Value) (base : Heap) (k : Nat) (f : Addr) (fd : FuncData) (ps : List Str) (sp : SpQ) : Prop where
  len : ∀ vs H Hf PY Q, sp vs H Hf PY Q → vs.length = ps.length
  run : ∀ (A : Around) (outer : List PySem.Env) (s : Shared) (H Hf : Hp) (args : Args) (us : List Value) (vs : List V) (PY : PYK) (Q : CtK), Room k A → Env0 P w K mg base A outer s H → BindsTo s fd args (ps.zip us) → Vals vs us → sp vs H Hf PY Q →
    codeAny (model P w) A (.call (.ref f) args) (fun r s' => match r with | .ok (.ret u) => MadeN P w base k outer H Hf s PY Q u s' | _ => False) s

end FL
namespace FL
variable [HW]
open PySem PySem.Spec L2

/-! ### .. by its mirror -/
def wN (X : Cx) (st : Stmt) : TGq := fun PY D Z k σ H => Lk (∀ (A : Around) (ip : List (Addr × Obj)) (R : GenEnd) (W : WcN) (n : Nat) (s0 : Shared) (c : Code) (fs : List Frame) (K : Flow → Sem PySem.Fin) (J : Value → Sem PySem.Fin) (gd : Bool → Bool) (lv : List Value → List Value) (s : Shared) (b : Bs) (fo : List (Addr × Obj)),
  GnC X ip A c fs gd → n + k = sizeLine → GnK X ip A R PY W c fs K J D → W k s0 b fo Z → MonoZ Z → GN X b fo ip σ H s → Seg (model X.prog X.w) A R (GnY X PY W) n s0 c ((exec st X.env).wrap K J gd lv) fs s)
def wNs (X : Cx) (st : List Stmt) : TGq := fun PY D Z k σ H => Lk (∀ (A : Around) (ip : List (Addr × Obj)) (R : GenEnd) (W : WcN) (n : Nat) (s0 : Shared) (c : Code) (fs : List Frame) (K : Flow → Sem PySem.Fin) (J : Value → Sem PySem.Fin) (gd : Bool → Bool) (lv : List Value → List Value) (s : Shared) (b : Bs) (fo : List (Addr × Obj)),
  GnC X ip A c fs gd → n + k = sizeLine → GnK X ip A R PY W c fs K J D → W k s0 b fo Z → MonoZ Z → GN X b fo ip σ H s → Seg (model X.prog X.w) A R (GnY X PY W) n s0 c ((execs st X.env).wrap K J gd lv) fs s)
section
variable {X : Cx} [WW X.w] {st : Stmt} {sts : List Stmt} {PY : PYK} {Z : ZK} {k : Nat} {σ : L2.St} {H : Hp} {D : GqEnds}
end
def FU (X : Cx) (O O' : List Nat) (st : Stmt) (G : List D → Env → Option GO) : Prop := MonoG G ∧
  ∀ (φ : Nat → Option Addr) (Hf0 H0 : Hp) (ρ : Env) (σ : L2.St) (Hf H : Hp) (acc : List D) (Z : ZK) (out : GO) (Dn : GqEnds) (PY : PYK), SR X.K φ Hf0 H0 O ρ σ Hf H → MonoZ Z → Z Hf → G acc ρ = some out → PYok X.K φ Hf0 H0 PY out.out → ZPost X.K φ Hf0 H0 O' Hf Dn out → wN X st PY Dn Z acc.length σ H
def FUs (X : Cx) (O O' : List Nat) (sts : List Stmt) (G : List D → Env → Option GO) : Prop := MonoG G ∧
  ∀ (φ : Nat → Option Addr) (Hf0 H0 : Hp) (ρ : Env) (σ : L2.St) (Hf H : Hp) (acc : List D) (Z : ZK) (out : GO) (Dn : GqEnds) (PY : PYK), SR X.K φ Hf0 H0 O ρ σ Hf H → MonoZ Z → Z Hf → G acc ρ = some out → PYok X.K φ Hf0 H0 PY out.out → ZPost X.K φ Hf0 H0 O' Hf Dn out → wNs X sts PY Dn Z acc.length σ H
section
variable {X : Cx} [WW X.w] {O O' O1 : List Nat} {st : Stmt} {sts : List Stmt} {e : Expr} {pos yp : Pos} {F : Env → Option D} {G G2 : List D → Env → Option GO}
end
structure CalNM (P : Program) (w : World) (K : PySem.W.Frag) (mg : Str → Option Value) (base : Heap) (k : Nat) (c m : Str) (n : Nat) (mir : List D → Option (List D)) : Prop where
  ok : ∃ (f : Addr) (fd : FuncData) (ps : List Str), QFnN P w K mg base k f fd ps (spZ K n mir) ∧ Cls K (He.ga K c) ∧ Meth K (He.ga K c) m f ∧ Binds K fd ps []
section
variable {P : Program} {w : World} [WW w] {K : PySem.W.Frag} {mg : Str → Option Value} {base : Heap} {k : Nat} {ps N : List Str} {c m q : Str} {st : Stmt} {G : List D → Env → Option GO} {kws : List (Str × V)}
end
end FL
namespace FL
variable [HW]
open PySem PySem.Spec L2 PyProof.Rows GenW

/-! ### any piece of code leaves the generators that sleep -/
def RU {α : Type} (enc : α → Flow) (Q : α → Shared → Prop) (E : Value → Shared → Prop) : Result → Shared → Prop
  | .ok f, s' => ∃ a, enc a = f ∧ Q a s'
  | .error e, s' => E e s'
/-! ### lists of our own that the generator does not see -/
def hideA (As : List Addr) (H : Hp) : Hp := fun a => if As.contains a = true then none else H a
def addA (As : List Addr) (Ho H : Hp) : Hp := fun a => if As.contains a = true then Ho a else H a
section
variable {As : List Addr} {H H' Ho : Hp} {a : Addr} {u : HO}
theorem mem_cont {a : Addr} : As.contains a = true ↔ a ∈ As := by simp
theorem hide_none (h : H a = none) : hideA As H a = none := by unfold hideA; split <;> first | rfl | exact h
theorem hide_in (h : a ∈ As) : hideA As H a = none := by unfold hideA; rw [if_pos (mem_cont.mpr h)]
theorem hide_out (h : a ∉ As) : hideA As H a = H a := by unfold hideA; rw [if_neg fun z => h (mem_cont.mp z)]
theorem hide_some (h : hideA As H a = some u) : a ∉ As ∧ H a = some u := by
  unfold hideA at h
  split at h
  · cases h
  · rename_i z; exact ⟨fun m => z (mem_cont.mpr m), h⟩
def OwnL (As : List Addr) (H : Hp) : Prop := ∀ a ∈ As, ∃ vs, H a = some (.lst vs)
theorem OwnL.ne (h : OwnL As H) (e : H a = some u) (hu : ∀ vs, u ≠ .lst vs) : a ∉ As := fun m => by
  obtain ⟨vs, q⟩ := h a m
  rw [q] at e
  exact hu vs (Option.some.inj e).symm
theorem OwnL.none (h : OwnL As H) (e : H a = none) : a ∉ As := fun m => by
  obtain ⟨vs, q⟩ := h a m
  rw [q] at e; cases e
theorem hok_hide {P : Program} {w : World} [WW w] {h : Heap} (hA : OwnL As H) (hok : HOk P w H h) : HOk P w (hideA As H) h := fun b u e => by
  obtain ⟨_, e'⟩ := hide_some e
  exact (hok b u e').stay (fun _ _ _ q => q) (fun c q => by rw [hide_out (hA.ne q fun vs z => by cases z)]; exact q) fun c xs q => by rw [hide_out (hA.ne q fun vs z => by cases z)]; exact q
end
section
variable {X : Cx} [WW X.w] {pins : List (Addr × Obj)} {σ : L2.St} {H Hc H' : Hp} {s s0 s1 : Shared} {As : List Addr}
theorem lst_obj (I : Inv X pins σ H s) {a : Addr} {vs : List V} (e : H a = some (.lst vs)) : ∃ arr c, s.heap.get? a = some (lstObj arr c) := by
  obtain ⟨_, its, n, _, e⟩ := I.hok a _ e
  exact ⟨_, _, e⟩
theorem own_pin (I : Inv X pins σ H s) (hA : OwnL As H) : ∀ p ∈ pinsAt As s.heap, s.heap.get? p.1 = some p.2 ∧ hideA As H p.1 = none ∧ p.1 ≠ X.env.locals ∧ p.1 ∉ frs X.stack ∧ ∀ v, p.2.data ≠ .cell v := fun p hp => by
  obtain ⟨m, e⟩ := of_pinsAt hp
  obtain ⟨vs, q⟩ := hA _ m
  refine ⟨e, hide_in m, fun z => ?_, fun z => ?_, fun v z => ?_⟩
  · rw [z] at q; rw [I.free] at q; cases q
  · rw [I.stkFree _ z] at q; cases q
  · obtain ⟨arr, c, e'⟩ := lst_obj I q
    rw [e] at e'
    have z' := congrArg Obj.data (Option.some.inj e')
    rw [z] at z'
    cases z'
end

/-! ### all that is nobody's, as it stands -/
def isCl (d : Obj) : Bool := match d.data with | .cell _ => true | _ => false
theorem of_isCl {o : Obj} (h : isCl o = false) : ∀ v, o.data ≠ .cell v := fun v e => by
  unfold isCl at h
  rw [e] at h
  cases h
def privG (n0 : Nat) (H : Hp) (h : Heap) : List (Addr × Obj) := (List.range h.objs.size).filterMap fun a => if n0 ≤ a ∧ (H a).isNone = true then (match h.get? a with | some o => if isCl o = true then none else some (a, o) | none => none) else none
theorem of_privG {n0 : Nat} {H : Hp} {h : Heap} {p : Addr × Obj} (hp : p ∈ privG n0 H h) : n0 ≤ p.1 ∧ h.get? p.1 = some p.2 ∧ H p.1 = none ∧ ∀ v, p.2.data ≠ .cell v := by
  obtain ⟨a, _, e⟩ := List.mem_filterMap.mp hp
  split at e
  · rename_i hh
    split at e
    · rename_i o ho
      split at e
      · cases e
      · rename_i hc
        cases e
        exact ⟨hh.1, ho, Option.isNone_iff_eq_none.mp hh.2, of_isCl (by simpa using hc)⟩
    · cases e
  · cases e
theorem Inv.privG {X : Cx} [WW X.w] {pins : List (Addr × Obj)} {σ : L2.St} {H : Hp} {s : Shared} {n0 : Nat} (I : Inv X pins σ H s) (hC : X.env.locals < n0) (hF : ∀ b ∈ X.fs, b < n0) : Inv X (pins ++ FL.privG n0 H s.heap) σ H s :=
  I.pins_of fun p hp => (List.mem_append.mp hp).elim (fun z => I.pin p (List.mem_append_right _ z)) fun z => by
    obtain ⟨l, e, n, d⟩ := of_privG z
    refine ⟨e, n, fun q => ?_, fun q => ?_, d⟩
    · rw [q] at l; exact absurd (Nat.lt_of_lt_of_le hC l) (Nat.lt_irrefl _)
    · exact absurd (Nat.lt_of_lt_of_le (hF _ q) l) (Nat.lt_irrefl _)

/-! ### the slots' lists -/
def owA (O : List Nat) (ρ : Env) (σ : List (Option V)) : List Addr := O.filterMap fun i => match ρ[i]?, σ[i]? with | some (some _), some (some (V.ref a)) => some a | _, _ => none
theorem of_owA {O : List Nat} {ρ : Env} {σ : L2.St} {a : Addr} (h : a ∈ owA O ρ σ) : ∃ i d, i ∈ O ∧ ρ[i]? = some (some d) ∧ σ[i]? = some (some (.ref a)) := by
  obtain ⟨i, m, e⟩ := List.mem_filterMap.mp h
  split at e
  · rename_i d b h1 h2
    cases e
    exact ⟨i, d, m, h1, h2⟩
  · cases e
section
variable {K : PySem.W.Frag} {φ : Nat → Option Addr} {Hf0 H0 Hf H Hf1 H1 Hf' H' : Hp} {O : List Nat} {ρ : Env} {σ : L2.St}
theorem SR.owA (S : SR K φ Hf0 H0 O ρ σ Hf H) {a : Addr} (h : a ∈ FL.owA O ρ σ) : (∃ vs, H a = some (.lst vs)) ∧ Hf a = none ∧ H0 a = none := by
  obtain ⟨i, d, m, e1, e2⟩ := of_owA h
  obtain ⟨a', xs, vs, _, q2, q3, q4, q5, _⟩ := S.own i d e1 m
  rw [q2] at e2
  cases e2
  exact ⟨⟨vs, q3⟩, q4, q5⟩
theorem SR.lower (g : Gr Hf0 H0 Hf1 H1) (S : SR K φ Hf1 H1 O ρ σ Hf H) : SR K φ Hf0 H0 O ρ σ Hf H :=
  ⟨S.len, S.sub, g.f.trans S.gf, g.h.trans S.gh, fun a o h1 h2 => S.gn a o (g.h _ _ h1) (g.n a o h1 h2), S.val, fun i d e m => by
    obtain ⟨a, xs, vs, e1, e2, e3, e4, e5, r⟩ := S.own i d e m
    exact ⟨a, xs, vs, e1, e2, e3, e4, g.h.free e5, r⟩, S.ne⟩
theorem RtK.lower {fr : Bool} {d : D} {rt : VK} (g : Gr Hf0 H0 Hf1 H1) (h : RtK K φ Hf0 H0 fr d rt) : RtK K φ Hf1 H1 fr d rt := by
  cases fr with
  | false => exact fun v Hf' H' g' r => h v Hf' H' (g.trans g') r
  | true => exact fun a xs vs Hf' H' e g' h1 h2 h3 r => h a xs vs Hf' H' e (g.trans g') (g.h.free h1) h2 h3 r
end
end FL
namespace FL
variable [HW]
open PySem PySem.Spec L2 PyProof.Rows GenW

/-! ### o.m(..) as a generator that a loop will turn -/
def QNn (X : Cx) (O : List Nat) (j : Nat) (e : Expr) (F : Env → Option (List D)) : Prop :=
  ∀ (φ : Nat → Option Addr) (Hf0 H0 : Hp) (ρ : Env) (σ : L2.St) (Hf H : Hp) (out : List D), SR X.K φ Hf0 H0 O ρ σ Hf H → F ρ = some out → ∀ pins s, Inv X pins σ H s →
    wpAny (model X.prog X.w) X.A (eval e X.env) (fun u s' => ∃ Hf1 H1 sc, Gr Hf H Hf1 H1 ∧ Inv X pins σ H1 sc ∧ MadeN X.prog X.w X.base j X.stack H1 Hf1 sc (PYs X.K φ Hf1 H1 out) (Qs Hf1 H1 out) u s') X.xe s
section
variable {X : Cx} [WW X.w] {O : List Nat} {es : List Expr} {e o : Expr} {c m : Str} {pos pos' apos : Pos} {Fo : Env → Option D} {Fs : Env → Option (List D)} {k j n : Nat} {mir : List D → Option (List D)}
end
section
variable {X : Cx} [WW X.w] {pins pins7 : List (Addr × Obj)} {σ : L2.St} {H Hc H' H7 : Hp} {s s0 s1 s7 : Shared} {As : List Addr}
theorem WK.of {n0 : Nat} {fo : List (Addr × Obj)} (I7 : Inv X pins7 σ H7 s7) (hA : OwnL As H7) (os : s7.os = s1.os) (hF : ∀ b ∈ frs X.stack, b < n0) (hsz : n0 ≤ s7.heap.objs.size)
    (hpriv : ∀ a o, n0 ≤ a → s1.heap.get? a = some o → H' a = none → a ∉ fo.map Prod.fst → (∀ v, o.data ≠ .cell v) → (a, o) ∈ pins7) :
    WK X.prog X.w X.base X.stack n0 fo H' s1 (cutS n0 s7, hideA As H7) (pinsAt As s7.heap) (hideA As H7) s7 where
  os := os
  b1 := rfl
  bare := I7.bare
  keep := fun a o l e n hf d => let z := I7.pin (a, o) (List.mem_append_right _ (hpriv a o l e n hf d)); ⟨z.1, hide_none z.2.1⟩
  bas := fun a o e => let z := I7.bs a o e; ⟨z.1, hide_none z.2⟩
  funs := funs_cut I7.stack hF
  frf := fun a ha => hide_none (I7.stkFree a ha)
  hok := hok_hide hA I7.hok
  pins := fun p hp => let z := own_pin I7 hA p hp; ⟨z.1, z.2.1, z.2.2.2.1, z.2.2.2.2⟩
  pne := fun p hp o l e n d => by
    apply Classical.byContradiction
    intro hf
    have z := (I7.pin (p.1, o) (List.mem_append_right _ (hpriv p.1 o l e n hf d))).2.1
    exact hA.none z (of_pinsAt hp).1
  size := hsz
end
def hidF (O : List Nat) (Fs : Env → Option (List D)) : Env → Option (List D) := fun ρ => Fs (wipeE ρ O)
section
variable {X : Cx} [WW X.w] {O O1 L : List Nat} {pos : Pos}
end
end FL
namespace FL
variable [HW]
open PySem PySem.Spec PyProof.Rows L2
/-! ### exact tuples as data: D.xtp -/
mutual
def ux : D → D
  | .xtp xs => .tup (uxs xs) | .tup xs => .tup (uxs xs) | .lst xs => .lst (uxs xs) | .klst xs => .klst (uxs xs)
  | .non => .non | .bl b => .bl b | .int i => .int i | .str x => .str x | .obj i => .obj i | .ins c fs xs => .ins c fs xs | .dct ks xs => .dct ks xs | .dkt fz ks xs => .dkt fz ks xs
def uxs : List D → List D
  | [] => []
  | d :: ds => ux d :: uxs ds
end
section
variable {K : PySem.W.Frag} {φ : Nat → Option Addr} {H : Hp}
mutual
theorem Rp.ux : ∀ {d : D} {v : V}, Rp K φ H d v → Rp K φ H (FL.ux d) v
  | _, _, .non => .non
  | _, _, .bl b => .bl b
  | _, _, .int i => .int i
  | _, _, .str x => .str x
  | _, _, .tup s r => .tup s (RpAll.ux r)
  | _, _, .xtp s _ r => .tup (.inl (.inr ⟨_, s⟩)) (RpAll.ux r)
  | _, _, .lst s r => .lst s (RpAll.ux r)
  | _, _, .klst s r => .klst s (RpAll.ux r)
  | _, _, .obj h => .obj h
  | _, _, .ins s l r => .ins s l r
  | _, _, .dct s l r => .dct s l r
  | _, _, .dkt s a b c d f g r t => .dkt s a b c d f g r t
theorem RpAll.ux : ∀ {ds : List D} {vs : List V}, RpAll K φ H ds vs → RpAll K φ H (uxs ds) vs
  | _, _, .nil => .nil
  | _, _, .cons r t => .cons (r.ux) (RpAll.ux t)
end
end
section
variable {X : Cx} [WW X.w] {O : List Nat} {o e : Expr} {F G : Env → Option D} {p pos : Pos} {nm : Str}
def eUx (F : Env → Option D) : Env → Option D := fun ρ => match F ρ with | some d => some (ux d) | none => none
def mUx (M : Env → List Ob → Option (D × List Ob)) : Env → List Ob → Option (D × List Ob) := fun ρ S => match M ρ S with | some (d, S') => some (ux d, S') | none => none
def eTx (F : Env → Option D) : Env → Option D := fun ρ => match F ρ with | some (.xtp ds) => some (.tup ds) | _ => none
def eTupX (F : Env → Option D) : Env → Option D := fun ρ => match F ρ with | some (.dct ks _) => some (.xtp (ks.map D.str)) | _ => none
def eTupLX (F : Env → Option D) : Env → Option D := fun ρ => match F ρ with | some (.klst xs) => some (.xtp xs) | some (.lst xs) => some (.xtp xs) | _ => none
end
end FL
namespace FL
variable [HW]
open PySem PySem.Spec L2 PyProof.Rows
/-! ### `a and b` as a value, over what changes objects -/
def mAnd (M1 M2 : Env → List Ob → Option (D × List Ob)) : Env → List Ob → Option (D × List Ob) := fun ρ S => match M1 ρ S with
  | some (d, S1) => (match truD d with | some true => M2 ρ S1 | some false => some (d, S1) | none => none)
  | none => none
section
variable {X : Cx} [WW X.w] {O : List Nat} {a b e : Expr} {pos : Pos} {M1 M2 : Env → List Ob → Option (D × List Ob)}
end
end FL
namespace FL
variable [HW]
open PySem PySem.Spec L2 PyProof.Rows

/-! ### an exception out of a comprehension -/
def offH (h : Heap) (C : Addr) : Heap := h.update C fun o => { o with data := .freed }
theorem offH_at (h : Heap) (C : Addr) : (offH h C).get? C = none := by
  obtain ⟨objs, l⟩ := h
  show (match (objs.modify C fun o => { o with data := .freed })[C]? with | some ⟨_, _, .freed, _⟩ => none | o => o) = none
  rw [Array.getElem?_modify]
  cases objs[C]? <;> simp
theorem offH_ne {h : Heap} {C b : Addr} (n : b ≠ C) : (offH h C).get? b = h.get? b := Heap.get?_update_other h _ (Ne.symm n)
theorem offH_some {h : Heap} {C b : Addr} {o : Obj} (e : (offH h C).get? b = some o) : b ≠ C ∧ h.get? b = some o := by
  by_cases n : b = C
  · rw [n, offH_at] at e; cases e
  · exact ⟨n, (offH_ne n).symm.trans e⟩
theorem offH_none {h : Heap} {C b : Addr} (e : h.get? b = none) : (offH h C).get? b = none := by
  by_cases n : b = C
  · rw [n, offH_at]
  · rw [offH_ne n]; exact e
theorem frames_off {h B : Heap} {C : Addr} : ∀ {l : List PySem.Env}, h.FunFrames B l → h.FunFrames (offH B C) l
  | [], _ => trivial
  | _ :: _, ⟨a, ⟨L, o, e1, e2, e3, e4⟩, r⟩ => ⟨a, ⟨L, o, e1, offH_none e2, e3, e4⟩, frames_off r⟩
section
variable {M : Model} {A : Around} {E : Value → Shared → Prop} {s : Shared} {Z : Obj → Prop} {B : Heap} {env : PySem.Env} {outer : List PySem.Env} {L L' a : Addr} {fl : Value} {Q : Unit → Shared → Prop}
theorem note_any (hZ : HandSPX.Steady Z) (hfr : A.frames = some (env :: outer)) (hf : env.frame = some L) (kb : B.StaysIn s.heap) (en : B.get? a = none) (ff : s.heap.FunFrames B (env :: outer)) (t : HandSPX.TracedZ s.heap B a Z fl)
    (k : ∀ h' fl', B.StaysIn h' → B.get? a = none → h'.FunFrames B (env :: outer) → HandSPX.TracedZ h' B a Z fl' → s.heap.UpToSlots h' → Q () { s with heap := h' }) : wpAny M A (noteFrame (.ref a) env) Q E s := by
  have t0 := t
  obtain ⟨x, xs, T, y, ys, g1, zx, d1, v1, nT, nTa, g2, d2, v3⟩ := t
  unfold noteFrame
  simp only [hf]
  refine wpAny_bind (wpAny_field g1 d1 v1 ?_)
  rw [if_pos (show (Value.ref T != Value.none) = true from by simp)]
  refine wpAny_bind (wpAny_field g2 d2 v3 ?_)
  by_cases q : (fl == rawInt L) = true
  · rw [if_pos q]
    exact wpAny_pure (k s.heap fl kb en ff t0 fun b o e _ => ⟨o.slots, e⟩)
  · rw [if_neg q]
    refine wpAny_bind (wpAny_setField g2 d2 (Array.getElem?_eq_some_iff.mp v3).1 ?_)
    have off : ∀ b, b ≠ T → (s.heap.update T (Obj.mapFields (·.setIfInBounds 3 Value.none))).get? b = s.heap.get? b := fun b hb => Heap.get?_update_other _ _ (Ne.symm hb)
    have nrec : ∀ b o, s.heap.get? b = some o → (∀ vs, o.data ≠ .fields vs) → b ≠ T := fun b o hb hv z => by
      subst z
      rw [g2] at hb
      cases hb
      exact hv _ d2
    refine HandSPX.wpAny_entryZ hZ hfr (ff.of_keeps fun b o hb hv => ⟨o, (off b (nrec b o hb hv)).trans hb, rfl⟩) hf ((off a (Ne.symm nTa)).trans g1)
      (fun b o hb => (off b fun z => by rw [z, nT] at hb; cases hb).trans (kb b o hb)) en d1 (Array.getElem?_eq_some_iff.mp v1).1 zx fun h' hN => ?_
    obtain ⟨n1, n2, n3, n4⟩ := hN
    exact k h' _ n1 en n2 n3 fun b o hb hv => n4 b o ((off b (nrec b o hb hv)).trans hb) hv
theorem sky_note (hZ : HandSPX.Steady Z) (hfr : A.frames = some (env :: outer)) (hf : env.frame = some L) (x : Sky B (env :: outer) a Z L' s.heap)
    (k : ∀ h' fl', B.StaysIn h' → B.get? a = none → h'.FunFrames B (env :: outer) → HandSPX.TracedZ h' B a Z fl' → s.heap.UpToSlots h' → Q () { s with heap := h' }) : wpAny M A (noteFrame (.ref a) env) Q E s := by
  rcases x with ⟨kb, en, ff, o, vs, he, hz, hd, h1⟩ | ⟨kb, en, ff, t⟩ | ⟨kb, en, ff, t⟩
  · exact HandSPX.look_newZ hZ hfr ff hf he kb en hd h1 hz fun h' hh up => k h' _ hh.1 hh.2.1 hh.2.2.1 hh.2.2.2 up
  · exact note_any hZ hfr hf kb en ff t k
  · exact note_any hZ hfr hf kb en ff t k
end
abbrev blkX (X : Cx) (s : Shared) (H : Hp) (scope : Scope) (ce : PySem.Env) (fp : List Addr) (xe : Value → Shared → Prop) : Cx := (X.blk s H scope ce fp).wish xe
theorem comp_raises {X : Cx} [WW X.w] {W : WX} {pins : List (Addr × Obj)} {σ : L2.St} {H3 : Hp} {s3 s' : Shared} {scope : Scope} {cl : List (Str × Addr)} {fp : List Addr} {xe : Value → Shared → Prop} {u D : Value} {Qf : Value → Shared → Prop}
    (hs : X.stack = X.env :: X.outer) (hf : X.env.frame = some X.env.locals) (tk : Takes X W) (I3 : Inv X pins σ H3 s3) (f3 : ∀ b ∈ fp, FpOk X pins H3 b)
    (x : XE (blkX X s3 H3 scope (compEnvC scope cl s3.heap.objs.size X.env) fp xe) (fun c d _ H => W c d σ H) u s') :
    notedBy (model X.prog X.w) X.A (compEnvC scope cl s3.heap.objs.size X.env) (fun e t => compEnds (model X.prog X.w) X.A X.xe none Qf D (compEnvC scope cl s3.heap.objs.size X.env) (.error e) t) u s' := by
  generalize hce : compEnvC scope cl s3.heap.objs.size X.env = ce at x ⊢
  have c1 : ce.frame = X.env.frame := by subst hce; rfl
  have c2 : ce.locals = s3.heap.objs.size := by subst hce; rfl
  obtain ⟨a, B, sI, pb, σb, H', cls, d, rfl, I, nb, up, sky, na, os, ag, wv⟩ := x
  have hfr : X.A.frames = some (X.env :: X.outer) := by rw [← hs]; exact I3.ok.frames
  have sky : Sky B (X.env :: X.outer) a (Zc cls d) ce.locals s'.heap := by rw [← hs]; exact sky
  show wpAny (model X.prog X.w) X.A (noteFrame (.ref a) ce) _ _ s'
  rw [noteFrame_env _ c1]
  refine sky_note Zc.steady hfr hf sky fun h1 fl kb en ff t up1 => ?_
  have nC : H' ce.locals = none := I.free
  obtain ⟨m, hn, _⟩ := I.loc
  have hn1 : h1.Ns ce.locals m := (Heap.Ns.upToSlots hn up).upToSlots up1
  refine ⟨m, hn1, fun h2 m2 hn2 sb => ?_⟩
  obtain ⟨o1, vs, T, o2, ts, g1, zx, d1, v1, nT, nTa, g2, d2, v3⟩ := t
  have apart : ∀ b o vs, h1.get? b = some o → o.data = .fields vs → b ≠ ce.locals := fun b o vs e e2 z => by
    obtain ⟨oL, es, ep, hoL, hdL, _⟩ := hn1
    rw [z, hoL] at e
    cases e
    rw [hdL] at e2
    cases e2
  have g1' : h2.get? a = some o1 := (sb.2 a (apart a _ _ g1 d1)).trans g1
  have t2 : HandSPX.TracedZ h2 (offH B ce.locals) a (Zc cls d) fl := ⟨o1, vs, T, o2, ts, g1', zx, d1, v1, offH_none nT, nTa, (sb.2 T (apart T _ _ g2 d2)).trans g2, d2, v3⟩
  have kb2 : (offH B ce.locals).StaysIn h2 := fun b o e => let ⟨n, e'⟩ := offH_some e; (sb.2 b n).trans (kb b o e')
  have ff2 : h2.FunFrames (offH B ce.locals) (X.env :: X.outer) := frames_off (Heap.FunFrames.sameBut sb hn2 ff)
  unfold PySem.passOn
  refine wpAny_bind (wpAny_field g1' d1 v1 ?_)
  rw [if_neg (show ¬ ((Value.ref T == Value.none) = true) from by simp), c1, hf]
  refine wpAny_bind (HandSPX.setFlight_anyZ kb2 ff2 t2 fun h5 k1 k2 k3 k4 => ?_)
  refine wpAny_throw ?_
  refine tk _ _ ⟨a, offH B ce.locals, { sI with heap := offH sI.heap ce.locals }, pins, σ, H', cls, d, rfl, ?_, ?_, ?_, ?_, na, os, ag, wv⟩
  · have I7 : Inv X pins σ H' sI := I3.call' (ch := fp) I.os I.base I.hok I.bare fun b hb => ⟨(f3 b hb).2.2.2.1, (f3 b hb).2.1, (f3 b hb).2.2.2.2.1, (f3 b hb).2.2.2.2.2⟩
    have z : FpOk X pins H' s3.heap.objs.size := I3.fpOk (Nat.le_refl _) (by rw [← c2]; exact nC)
    rw [← c2] at z
    obtain ⟨z0, z1, z2, z3, z4, z5⟩ := z
    exact I7.turned (t' := sI.toks) (fun b o hb e => (offH_ne hb).trans e) z0 z1 z3 z4 z5
  · exact fun b o e nf => let ⟨n, e'⟩ := offH_some e; (offH_ne n).trans (nb b o e' nf)
  · intro b o e nf
    obtain ⟨n, e'⟩ := offH_some e
    obtain ⟨s1, e1⟩ := up b o e' nf
    obtain ⟨s2, e2⟩ := up1 b _ e1 nf
    obtain ⟨sl, e3⟩ := k4 b _ ((sb.2 b n).trans e2) nf
    exact ⟨sl, e3⟩
  · rw [hs]
    exact .inr (.inr ⟨k1, offH_none en, k2, k3⟩)
def tLcX (wi : TI) (g : TG) (te : L2.St → TE) (vs : List Nat) : TE := fun σ H Q => wi σ H fun J H1 => ∀ D, H1 D = none → ∃ Wv : Nat → Nat → Hp → Prop, (∃ m, Wv 0 m (upd H1 D (.lst []))) ∧ ∀ i m H2, Wv i m H2 →
  (J.stop i H2 ∧ Q (.ref D) H2) ∨ (J.go i H2 ∧ ∃ Nx : Hp → Prop, (∀ H', Nx H' → ∃ m', m' < m ∧ Wv (i + 1) m' H') ∧ ∀ x H', J.yld i H2 x H' → g x (L2.wipe σ vs) H' fun σ2 H3 => L2.wipe σ2 vs = L2.wipe σ vs ∧
    te σ σ2 H3 fun y H4 => ∃ acc, H4 D = some (.lst acc) ∧ acc.length < sizeLine ∧ Nx (upd H4 D (.lst (acc ++ [y]))))
theorem pe_lcX {X : Cx} [WW X.w] {W : WX} {elt tg iter : Expr} {scope : Scope} {own : List (Str × Nat)} {pos : Pos} {wi : TI} {g : TG} {te : L2.St → TE} (hc : X.calm = true) (hN : X.N.Nodup) (hst : X.stack = X.env :: X.outer) (hfr : X.env.frame = some X.env.locals) (tk : Takes X W) (hi : PI X tg iter wi) (ok : BlkOk X.N X.env.scope scope own)
    (hg : ∀ (s : Shared) (H : Hp) (C : Addr) (cl : List (Str × Addr)) (fp : List Addr) (xe : Value → Shared → Prop), PG (blkX X s H scope (compEnvC scope cl C X.env) fp xe) tg g)
    (he : ∀ (s : Shared) (H : Hp) (C : Addr) (cl : List (Str × Addr)) (fp : List Addr) (xe : Value → Shared → Prop) (σ : L2.St), Takes (blkX X s H scope (compEnvC scope cl C X.env) fp xe) (fun c d _ H => W c d σ H) → PE (blkX X s H scope (compEnvC scope cl C X.env) fp xe) elt (te σ))
    (hs : ∀ x, foldedSetIterable iter X.env x = pure x := by intro _; rfl) : PE X (.ListComp elt [⟨tg, iter, [], 0⟩] scope pos) (tLcX wi g te (own.map (·.2))) := by
  refine ⟨fun pins s σ H Q I h => ?_⟩
  rw [eval_ListComp]
  have free : ∀ y ∈ scope.names, y.2 = .free → ∃ c, X.env.cells.lookup y.1 = some c := fun y hy e => (ok.free y hy e).elim (fun z => I.ok.has _ (.inl z)) fun z => I.ok.has _ (.inr z)
  refine comprehension_at (use := none) rfl hs (closure_ok free) ok.kind (fun y hy e => by rw [ok.uniq y hy, e]) (thn (hi.run pins s σ H _ I h) fun xv s1 hx => thn hx fun itv s2 h2 => ?_)
  obtain ⟨it, fp, tn, J, H2, rfl, I2, T, st2, f2, q⟩ := h2
  refine wpAny_newObj_type (newEnv_comp ?_) (by show 0 ≤ sizeLine; decide)
  generalize hD : s2.heap.objs.size = D
  obtain ⟨Wv, ⟨m0, w0⟩, turn⟩ := q D (I2.hok.fresh (Nat.le_of_eq hD))
  generalize hs3 : ({ s2 with heap := s2.heap.push { cls := .type "list", data := .seq ([] : List Value).toArray } } : Shared) = s3
  have h3 : s3.heap = s2.heap.push { cls := .type "list", data := .seq ([] : List Value).toArray } := by rw [← hs3]
  have I3 : Inv X pins σ (upd H2 D (.lst [])) s3 := by
    rw [← hs3]
    exact I2.laid (t' := s2.toks) (fun b o e => Heap.get?_push_of_some _ e) (Nat.le_of_eq hD) ⟨Nat.zero_le _, [], 0, .nil, by rw [← hD]; exact Heap.get?_push_size _ rfl⟩
  have f3 : ∀ b ∈ fp, FpOk X pins (upd H2 D (.lst [])) b ∧ b < s3.heap.objs.size := fun b hb => by
    obtain ⟨o, e, _⟩ := T.obj _ _ st2 b hb
    have lt := Heap.lt_size e
    exact ⟨⟨by rw [upd_ne (by rw [← hD]; exact Nat.ne_of_lt lt)]; exact (f2 b hb).1, (f2 b hb).2⟩, by rw [h3, Heap.size_push]; exact Nat.lt_succ_of_lt lt⟩
  have st3 : tn 0 s3.heap := T.keep _ _ _ st2 fun b _ o e => by rw [h3]; exact Heap.get?_push_of_some _ e
  have I4 := block_start I3 ok hN f3
  generalize hcl : cellsFrom (s3.heap.objs.size + 1) scope.names (cloFrom X.env.cells scope.names []) = cl at I4
  show codeAny _ _ (.compStart (.ListComp elt [⟨tg, iter, [], 0⟩] scope pos) 0 (.ref it) (.ref D) (compEnvC scope cl s3.heap.objs.size X.env)) (compEnds (model X.prog X.w) X.A X.xe none (EP X pins σ Q) (.ref D) (compEnvC scope cl s3.heap.objs.size X.env)) { s3 with heap := pushCells (s3.heap.push { cls := .type "dict", data := .dict #[] }) scope.names }
  have pg := hg s3 (upd H2 D (.lst [])) s3.heap.objs.size cl fp
  have pe := fun xe => he s3 (upd H2 D (.lst [])) s3.heap.objs.size cl fp xe σ
  have out := fun xe (u : Value) (s' : Shared) => comp_raises (xe := xe) (u := u) (s' := s') (D := .ref D) (Qf := EP X pins σ Q) (cl := cl) (scope := scope) hst hfr tk I3 fun b hb => (f3 b hb).1
  have cL : (compEnvC scope cl s3.heap.objs.size X.env).locals = s3.heap.objs.size := rfl
  generalize compEnvC scope cl s3.heap.objs.size X.env = ce at I4 pg pe out cL ⊢
  generalize hxe : (notedBy (model X.prog X.w) X.A ce fun e t => compEnds (model X.prog X.w) X.A X.xe none (EP X pins σ Q) (.ref D) ce (.error e) t) = xe at out
  have pg := pg xe
  have pe := pe xe (out xe)
  clear out
  have nfp : ∀ b ∈ fp, (upd H2 D (.lst [])) b = none := fun b hb => (f3 b hb).1.1
  generalize upd H2 D (.lst []) = H3 at I3 I4 pg pe w0 nfp f3
  have I4 := I4.wish xe
  generalize hs4 : ({ s3 with heap := pushCells (s3.heap.push { cls := .type "dict", data := .dict #[] }) scope.names } : Shared) = s4 at I4 ⊢
  have st4 : tn 0 s4.heap := T.keep _ _ _ st3 fun b _ o e => by rw [← hs4]; exact pushCells_keeps _ _ _ _ (Heap.get?_push_of_some _ e)
  have stat : ∀ {σ' : L2.St} {H' : Hp} {s' : Shared}, Inv (blkX X s3 H3 scope ce fp xe) [] σ' H' s' → (∀ b ∈ fp, H' b = none) → ∀ b ∈ fp, FpOk (blkX X s3 H3 scope ce fp xe) [] H' b := fun {σ' H' s'} I' hn b hb =>
    ⟨hn b hb, (I'.ok.exf b hb).1, I'.ok.exfs b hb, .inl hb, fun x c e => (I'.ok.exf b hb).2 x c e, fun p hp => absurd (show p ∈ ([] : List (Addr × Obj)) ++ [] from hp) (by simp)⟩
  have loop : codeAny (model X.prog X.w) X.A (.compLoop (.ListComp elt [⟨tg, iter, [], 0⟩] scope pos) 0 (.ref it) (.ref D) ce) (compEnds (model X.prog X.w) X.A X.xe none (EP X pins σ Q) (.ref D) ce) s4 := by
    refine compLoop_any (fun n s' => ∃ i H', Inv (blkX X s3 H3 scope ce fp xe) [] (L2.wipe σ (own.map (·.2))) H' s' ∧ tn i s'.heap ∧ (∀ b ∈ fp, H' b = none) ∧ Wv i n H') ?_ m0 ⟨0, H3, I4, st4, nfp, w0⟩
    rw [hxe]
    rintro n s5 ⟨i, H5, I5, st5, n5, w5⟩
    rcases turn i n H5 w5 with ⟨stop, qq⟩ | ⟨go, Nx, hNx, step⟩
    · refine thn (T.done (blkX X s3 H3 scope ce fp xe) rfl rfl rfl hc i [] s5 _ H5 xe I5 (stat I5 n5) st5 stop) fun r s6 ⟨hr, I6⟩ => ?_
      subst hr
      have I7 : Inv X pins σ H5 s6 := I3.call' (ch := fp) I6.os I6.base I6.hok I6.bare fun b hb => ⟨(f3 b hb).1.2.2.2.1, (f3 b hb).1.2.1, (f3 b hb).1.2.2.2.2.1, (f3 b hb).1.2.2.2.2.2⟩
      have nC : H5 ce.locals = none := I6.free
      obtain ⟨m, hn, _⟩ := I6.loc
      refine ⟨m, hn, fun h'' sb => ?_⟩
      have z : FpOk X pins H5 ce.locals := I3.fpOk (by rw [cL]; exact Nat.le_refl _) nC
      obtain ⟨z0, z1, z2, z3, z4, z5⟩ := z
      exact ⟨.ref D, H5, I7.turned (t' := s6.toks) (fun b o hb e => (sb.2 b hb).trans e) z0 z1 z3 z4 z5, rfl, qq⟩
    · refine thn (T.item (blkX X s3 H3 scope ce fp xe) rfl rfl rfl hc i [] s5 _ H5 xe I5 (stat I5 n5) st5 go) fun r s6 ⟨u, hr, h6⟩ => ?_
      subst hr
      refine thn h6 fun _ s7 ⟨x, H7, I7, r7, y7, st7, n7⟩ => ?_
      refine thn (pg.run _ s7 _ H7 x u _ (I7.pinned (stat I7 n7) (T.obj _ _ st7)) r7 (step x H7 y7)) fun _ s8 ⟨σ8, H8, I8, hw8, q8⟩ => ?_
      refine wpAny_tests_nil ?_
      have fin : ∀ {s' : Shared} {H' : Hp}, Inv (blkX X s3 H3 scope ce fp xe) ([] ++ pinsAt fp s7.heap) σ8 H' s' → Nx H' → ∃ m, m < n ∧ ∃ i H', Inv (blkX X s3 H3 scope ce fp xe) [] (L2.wipe σ (own.map (·.2))) H' s' ∧ tn i s'.heap ∧ (∀ b ∈ fp, H' b = none) ∧ Wv i m H' := fun {s' H'} I' nx => by
        obtain ⟨m', hm, w'⟩ := hNx H' nx
        have pin' : ∀ b ∈ fp, ∀ o, s7.heap.get? b = some o → s'.heap.get? b = some o ∧ H' b = none := fun b hb o e =>
          let z := I'.pin (b, o) (List.mem_append_right _ (List.mem_append_right _ (mem_pinsAt hb e)))
          ⟨z.1, z.2.1⟩
        refine ⟨m', hm, i + 1, H', (I'.unpinned (pins := [])).weak (by rw [← hw8, L2.wipe_length]) (fun j v e => ?_), T.keep _ _ _ st7 fun b hb o e => (pin' b hb o e).1, fun b hb => ?_, w'⟩
        · rw [← hw8] at e
          exact (wipe_some e).1
        · obtain ⟨o, e, _⟩ := T.obj _ _ st7 b hb
          exact (pin' b hb o e).2
      simp only [if_true]
      refine thn (pe.run _ s8 σ8 H8 _ I8 q8) fun z s10 ⟨yv, H10, I10, r10, acc, hD10, hz10, nx⟩ => ?_
      exact app_ok (X := blkX X s3 H3 scope ce fp xe) I10 hD10 hz10 r10 fun s11 I11 => fin I11 nx
  exact codeAny_compStart_list loop (T.self X.A 0 _ _ _ st4 loop)
end FL
namespace FL
variable [HW]
open PySem PySem.Spec L2 PyProof.Rows

/-! ### [e for x in xs], e raises at some x -/
def xCompL (g : D → Env → Option Env) (E : Env → Option D) (GX : Env → Option XC) (ρ : Env) : List D → Option XC
  | [] => none
  | d :: ds => match g d ρ with
    | none => none
    | some ρ2 => match E ρ2 with
      | some _ => xCompL g E GX ρ ds
      | none => GX ρ2
def xComp (vs : List Nat) (Fi : Env → Option (List D)) (g : D → Env → Option Env) (E : Env → Option D) (GX : Env → Option XC) : Env → Option XC := fun ρ =>
  match Fi ρ with | some ds => if ds.length ≤ sizeLine then xCompL g E GX (wipeE ρ vs) ds else none | none => none
def uEX (X : Cx) (W : WX) (scope : Scope) (e : Expr) : L2.St → TE := fun σ σ2 H Q => ∀ (s : Shared) (H0 : Hp) (C : Addr) (cl : List (Str × Addr)) (fp : List Addr) (xe : Value → Shared → Prop),
  Takes (blkX X s H0 scope (compEnvC scope cl C X.env) fp xe) (fun c d _ H => W c d σ H) → wE (blkX X s H0 scope (compEnvC scope cl C X.env) fp xe) e σ2 H Q
def uGX (X : Cx) (scope : Scope) (e : Expr) : TG := fun v σ H Q => ∀ (s : Shared) (H0 : Hp) (C : Addr) (cl : List (Str × Addr)) (fp : List Addr) (xe : Value → Shared → Prop), wG (blkX X s H0 scope (compEnvC scope cl C X.env) fp xe) e v σ H Q
theorem fex_lc {X : Cx} [WW X.w] {W : WX} {O2 tgs : List Nat} {tg iter elt : Expr} {scope : Scope} {own : List (Str × Nat)} {pos : Pos} {Fi : Env → Option (List D)} {g : D → Env → Option Env} {E : Env → Option D} {GX : Env → Option XC}
    (hc : X.calm = true) (hN : X.N.Nodup) (hst : X.stack = X.env :: X.outer) (hfr : X.env.frame = some X.env.locals) (tk : Takes X W) (ok : BlkOk X.N X.env.scope scope own) (hO : O2 = [])
    (hi : FIB X [] tg iter Fi) (hg : ∀ s H C cl fp xe, FG (blkX X s H scope (compEnvC scope cl C X.env) fp xe) [] O2 tgs tg g) (he : ∀ s H C cl fp xe, FE (blkX X s H scope (compEnvC scope cl C X.env) fp xe) [] elt E)
    (hx : ∀ s H C cl fp xe W', Takes (blkX X s H scope (compEnvC scope cl C X.env) fp xe) W' → FEX (blkX X s H scope (compEnvC scope cl C X.env) fp xe) W' [] elt GX)
    (htg : (tgs.all fun i => (own.map (·.2)).contains i) = true) (hs : ∀ x, foldedSetIterable iter X.env x = pure x := by intro _; rfl) : FEX X W [] (.ListComp elt [⟨tg, iter, [], 0⟩] scope pos) (xComp (own.map (·.2)) Fi g E GX) := by
  subst hO
  intro φ Hf0 H0 ρ σ Hf H x Q S hF P
  unfold xComp at hF
  split at hF
  case h_2 => cases hF
  rename_i ds hds
  split at hF
  case isFalse => cases hF
  rename_i hlen
  refine toE (pe_lcX (wi := wI X tg iter) (g := uGX X scope tg) (te := uEX X W scope elt) hc hN hst hfr tk piW ok (fun s H C cl fp xe => ⟨fun pins s' σ H' v u Q I r h => (h s H C cl fp xe).h pins s' u I r⟩) (fun s H C cl fp xe σ tk' => ⟨fun pins s' σ2 H' Q I h => (h s H C cl fp xe tk').h pins s' I⟩) hs) ?_
  refine hi φ Hf0 H0 ρ σ Hf H ds _ S hds fun J Hf1 H1 g1 itb => ?_
  intro Dn hDn
  refine ⟨fun i m H2 => m = ds.length - i ∧ i ≤ ds.length ∧ ∃ Hf2 us, Gr Hf1 H1 Hf2 H2 ∧ Hf2 Dn = none ∧ H2 Dn = some (.lst us) ∧ us.length ≤ i ∧ xCompL g E GX (wipeE ρ (own.map (·.2))) (ds.drop i) = some x,
    ⟨ds.length, by simp, Nat.zero_le _, Hf1, [], .own g1.s hDn, g1.s.free hDn, upd_same, Nat.le_refl _, by simpa using hF⟩, ?_⟩
  rintro i m H2 ⟨rfl, hil, Hf2, us, g2, hf2, hh2, hul, hrest⟩
  by_cases hlt : i < ds.length
  case neg =>
    have hie : i = ds.length := by omega
    subst hie
    rw [List.drop_length] at hrest
    cases hrest
  right
  have hget : ds[i]? = some ds[i] := List.getElem?_eq_getElem hlt
  obtain ⟨hgo, hyld⟩ := (itb i Hf2 H2 g2).2 _ hget
  refine ⟨hgo, fun H' => ∃ Hf3 us', Gr Hf1 H1 Hf3 H' ∧ Hf3 Dn = none ∧ H' Dn = some (.lst us') ∧ us'.length ≤ i + 1 ∧ xCompL g E GX (wipeE ρ (own.map (·.2))) (ds.drop (i + 1)) = some x,
    fun H' ⟨Hf3, us', a1, a2, a3, a4, a5⟩ => ⟨ds.length - (i + 1), by omega, rfl, hlt, Hf3, us', a1, a2, a3, a4, a5⟩, fun xv H3 hy => ?_⟩
  obtain ⟨Hf3, g3, r3⟩ := hyld xv H3 hy
  have g13 := g2.trans g3
  have S3 := ((S.gr g1).gr g13).wipe (own.map (·.2))
  rw [List.drop_eq_getElem_cons hlt] at hrest
  unfold xCompL at hrest
  split at hrest
  · cases hrest
  · rename_i ρ2 hρ2
    intro s0 h0 C0 cl0 fp0 xe0
    refine hg s0 h0 C0 cl0 fp0 xe0 φ Hf0 H0 _ _ Hf3 H3 _ xv ρ2 _ S3 r3 hρ2 fun σ2 S4 w4 => ⟨(w4 _ (fun i hi => by simpa using (List.all_eq_true.mp htg) i hi)).trans wipe_wipe, ?_⟩
    intro s1 h1 C1 cl1 fp1 xe1 tk1
    split at hrest
    · rename_i y hy2
      refine he s1 h1 C1 cl1 fp1 xe1 φ Hf0 H0 ρ2 σ2 Hf3 H3 y _ S4 hy2 fun v Hf5 H5 g5 r5 => ?_
      have g35 := g3.trans g5
      have hh5 := g35.h _ _ hh2
      have hf5 := g35.n _ _ hh2 hf2
      refine ⟨us, hh5, by omega, Hf5, us ++ [v], ?_, hf5, upd_same, by rw [List.length_append, List.length_singleton]; omega, hrest⟩
      have gg := g2.trans g35
      refine ⟨gg.f, fun b o e => ?_, fun b o e => ?_, gg.n⟩
      · rw [upd_ne (ne_of_none e hDn)]; exact gg.h _ _ e
      · rw [upd_ne (ne_of_none e hf5)]; exact gg.s _ _ e
    · have S5 : SR X.K φ Hf3 H3 [] ρ2 σ2 Hf3 H3 := ⟨S4.len, S4.sub, .refl _, .refl _, fun _ _ _ z => z, S4.val, fun i d _ m => absurd m (by simp), fun i j _ _ _ _ _ m => absurd m (by simp)⟩
      refine hx s1 h1 C1 cl1 fp1 xe1 _ tk1 φ Hf3 H3 ρ2 σ2 Hf3 H3 x _ S5 hrest fun σ' dd v Hf' H' s' S' e1 e2 => ?_
      exact P σ dd v Hf' H' ((g1.f.trans g13.f).trans S'.from0.f) (((S.gr g1).gr g13).gr S'.from0) e1 e2
/-! ### a class method that makes one of its class -/
structure CMd (K : PySem.W.Frag) (C : Addr) (m : Str) (f : Addr) : Prop where
  rd : ClX.CRead K C (.type "type")
  cm : ∃ p, ClX.CMet K C (.type "type") m p f
def clmB (K : PySem.W.Frag) (c m : Str) : Bool :=
  PySem.W.readsIn K (He.ga K c) (.type "type") && (He.eqO (PySem.W.specialIn K (.ref (He.ga K c)) "__getattribute__") (some (some (.builtin "type.__getattribute__"))) &&
    ((match PySem.W.findCls K (.ref (He.ga K c)) (.type "type") m with | some (.get (.builtin b) (.ref p) .none (.ref C)) => decide (b = "classmethod.__get__") && (decide (C = He.ga K c) && (match PySem.W.recIn K p "classmethod" with | some (.ref f :: _) => decide (f = pAd K (He.ga K c) m) | _ => false)) | _ => false) &&
    PySem.W.fnIn K (pAd K (He.ga K c) m)))
theorem clm_ok {K : PySem.W.Frag} {c m : Str} (h : clmB K c m = true) : CMd K (He.ga K c) m (pAd K (He.ga K c) m) := by
  unfold clmB at h
  simp only [Bool.and_eq_true] at h
  obtain ⟨h1, h2, h3, h4⟩ := h
  refine ⟨⟨h1, He.eqO_ok h2⟩, ?_⟩
  split at h3
  case h_2 => cases h3
  rename_i b p C e
  obtain ⟨e1, h3⟩ := Bool.and_eq_true_iff.mp h3
  obtain ⟨e2, h3⟩ := Bool.and_eq_true_iff.mp h3
  split at h3
  case h_2 => cases h3
  rename_i f rest e3
  exact ⟨p, by rw [e, of_decide_eq_true e1, of_decide_eq_true e2], ⟨rest, by rw [e3, of_decide_eq_true h3]⟩, h4⟩
section
variable {X : Cx} [WW X.w] {O : List Nat} {e o : Expr} {es : List Expr} {c m x : Str} {p pos apos : Pos} {C fa : Addr} {CX : CXT} {k j n i : Nat} {fd : FuncData} {ps fs : List Str} {sp : Sp} {ta : TE} {t : TA} {Fs : Env → Option (List D)} {mir : List D → Option D} {mi : List D → Option (List D)}
theorem run_cmS {q : Addr} {E : XK} {Q : VK} {us : List Value} {vs : List V} {pins : List (Addr × Obj)} {σ : L2.St} {H : Hp} {s : Shared} (F : FnOk X.prog X.w X.K X.mg X.base CX k fa fd ps sp) (hr : Room k X.A) (hb : Binds X.K fd ps []) (hx : PassesAt CX X σ E)
    (I : Inv X ((q, PySem.W.methodObj (.ref fa) (.ref C)) :: pins) σ H s) (r : Vals vs us) (h : sp (.ref C :: vs) H Q E) : wpAny (model X.prog X.w) X.A (call (.ref q) us) (EP X pins σ Q) X.xe s := by
  have hl : (Value.ref C :: us).length = ps.length := (Paired.length (.cons rfl r : Vals (.ref C :: vs) (.ref C :: us))).symm.trans (F.len _ _ _ _ h)
  have b := hb s (.ref C :: us) I.kIn (by rw [List.append_nil]; exact hl)
  rw [List.append_nil] at b
  refine wpAny_call (PySem.W.method_call (ClX.pin_at I) (codeAny_mono (F.run X.A X.stack s H ⟨.ref C :: us, []⟩ (.ref C :: us) (.ref C :: vs) Q E hr I.env0 b (.cons rfl r) h) fun y s' hq => ?_))
  cases y with
  | error z => exact hx _ H s z s' I hq
  | ok fl =>
    cases fl with
    | ret u => exact ClX.unpinE (I.after hq)
    | next => exact False.elim hq
    | brk => exact False.elim hq
    | cont => exact False.elim hq
theorem pe_clm {pl : Sem Bool} {E : L2.St → XK} (he : PE X o ta) (cm : CMd X.K C m fa) (F : FnOk X.prog X.w X.K X.mg X.base CX k fa fd ps sp) (hr : Room k X.A) (hb : Binds X.K fd ps []) (hx : ∀ σ, PassesAt CX X σ (E σ)) (ha : PA X (e :: es) t)
    (hst : starEach (e :: es) X.env = (false, eval e X.env) :: starEach es X.env := by rfl) (hpl : (backTo pos (starEach es X.env)).any (·.1) = false := by rfl)
    (ht : eval (.Call (.Attribute o m apos) (e :: es) [] pos) X.env = (do
      let ov ← eval o X.env
      standAt apos.atName
      let (f, first) ← holding [ov] (getMethod ov m pl)
      callWith pos f first (backTo pos (starEach (e :: es) X.env)) (backToKw pos (keywordEach [] X.env))) := by rfl) :
    PE X (.Call (.Attribute o m apos) (e :: es) [] pos) (fun σ H Q => ta σ H fun y H1 => y = .ref C ∧ t σ H1 fun vs H2 => sp (.ref C :: vs) H2 Q (E σ)) := by
  refine ⟨fun pins s σ H Q I h => ?_⟩
  obtain ⟨q0, cmt⟩ := cm.cm
  refine PySem.W.methodCall_KW (pl := pl) (thn (he.run pins s σ H _ I h) fun u s1 ⟨y, H1, I1, ry, ey, q⟩ => ?_) ht
  subst ey
  obtain rfl : u = Value.ref C := ry
  refine ClX.getmethcm_ok I1 cm.rd cmt fun s2 I2 => ?_
  exact ClX.callwith_cm I2 (ClX.base_none I1 (Nat.le_refl _)) cmt.fi (thn (ha.run pos _ s2 σ H1 _ I2 q) fun us s3 ⟨vs, H2, I3, rv, q2⟩ => ⟨⟨ClX.pin_at I3, I3.kIn⟩, run_cmS F hr hb (hx σ) I3 rv q2⟩) hst hpl
theorem pe_makeL {f : Addr} {dvs : List V} {ds : List Value} {E : XK} (hN : X.N[i]? = some x) (hv : Vis X.env.scope x) (M : Mk X.K C f) (F : FnOk X.prog X.w X.K X.mg X.base CX k f fd ps sp) (hr : Room (k + 1) X.A) (hb : Binds X.K fd ps ds) (hd : Vals dvs ds) (hx : Passes CX X E)
    (ha : PA X (e :: es) t) (h1 : (x == ("__debug__" : Str)) = false := by decide) (h2 : (x == ("__classdict__" : Str)) = false := by decide) (he : starEach (e :: es) X.env = (false, eval e X.env) :: starEach es X.env := by rfl) (hpl : (backTo pos (starEach es X.env)).any (·.1) = false := by rfl) :
    PE X (.Call (.Name x p) (e :: es) [] pos) (fun σ H Q => σ[i]? = some (some (.ref C)) ∧ tMake C sp dvs E t σ H Q) := by
  refine ⟨fun pins s σ H Q I h => ?_⟩
  obtain ⟨hs, h⟩ := h
  refine wpAny_Call_Name_kw (thn ((pe_var hN hv h1 h2).run pins s σ H (fun v H1 => v = .ref C ∧ H1 = H) I ⟨_, hs, rfl, rfl⟩) fun u s1 ⟨v, H1, I1, rv, ev, eH⟩ => ?_)
  subst ev eH
  obtain rfl : u = Value.ref C := rv
  refine PySem.W.callWith_K (h₀ := X.base) I1.ok.mod.kin M.kp (thn (ha.run pos pins s1 σ _ _ I1 h) fun us s2 ⟨vs, H2, I2, r, q⟩ => ⟨I2.kIn, ?_⟩) he hpl
  exact run_make M F hr hb hd hx I2 r q
end
end FL
namespace FL
variable [HW]
open PySem PySem.Spec L2 PyProof.Rows

/-! ### the body of a class method: return cls(..), cls in the first slot -/
def FEc (X : Cx) (C : Addr) (e : Expr) (F : Env → Option D) : Prop :=
  ∀ (φ : Nat → Option Addr) (Hf0 H0 : Hp) (ρ : Env) (σ : L2.St) (Hf H : Hp) (d : D) (Q : VK), σ[0]? = some (some (.ref C)) → SR X.K φ Hf0 H0 [] ρ σ Hf H → F ρ = some d → (∀ v Hf' H', Gr Hf H Hf' H' → Rp X.K φ Hf' d v → Q v H') → wE X e σ H Q
def FSc (X : Cx) (C : Addr) (sts : List Stmt) (F : Env → Option D) : Prop :=
  ∀ (φ : Nat → Option Addr) (Hf0 H0 : Hp) (ρ : Env) (σ : L2.St) (Hf H : Hp) (d : D) (Dn : Ends), σ[0]? = some (some (.ref C)) → SR X.K φ Hf0 H0 [] ρ σ Hf H → F ρ = some d → (∀ v Hf' H', Gr Hf H Hf' H' → Rp X.K φ Hf' d v → Dn.rt v H') → wSs X sts Dn σ H
def FEcX (X : Cx) (W : WX) (C : Addr) (e : Expr) (G : Env → Option XC) : Prop :=
  ∀ (φ : Nat → Option Addr) (Hf0 H0 : Hp) (ρ : Env) (σ : L2.St) (Hf H : Hp) (x : XC) (Q : VK), σ[0]? = some (some (.ref C)) → SR X.K φ Hf0 H0 [] ρ σ Hf H → G ρ = some x → XPost X.K φ Hf0 H0 [] Hf x ρ W → wE X e σ H Q
def FScX (X : Cx) (W : WX) (C : Addr) (sts : List Stmt) (G : Env → Option XC) : Prop :=
  ∀ (φ : Nat → Option Addr) (Hf0 H0 : Hp) (ρ : Env) (σ : L2.St) (Hf H : Hp) (x : XC) (Dn : Ends), σ[0]? = some (some (.ref C)) → SR X.K φ Hf0 H0 [] ρ σ Hf H → G ρ = some x → XPost X.K φ Hf0 H0 [] Hf x ρ W → wSs X sts Dn σ H
section
variable {X : Cx} [WW X.w] {W : WX} {C : Addr} {e : Expr} {es : List Expr} {sts : List Stmt} {c x : Str} {p pos : Pos} {k j n : Nat} {fs : List Str} {F : Env → Option D} {Fs : Env → Option (List D)} {G : Env → Option XC} {mi : List D → Option (List D)}
theorem fsc_ret (h : FEc X C e F) : FSc X C (.Return (some e) pos :: sts) F := fun φ Hf0 H0 ρ σ Hf H d Dn hs S hF k =>
  toSs (pss_cons psW pssW) (toS (ps_ret peW) (h φ Hf0 H0 ρ σ Hf H d _ hs S hF k))
theorem fscx_ret (h : FEcX X W C e G) : FScX X W C (.Return (some e) pos :: sts) G := fun φ Hf0 H0 ρ σ Hf H y Dn hs S hF P =>
  toSs (pss_cons psW pssW) (toS (ps_ret peW) (h φ Hf0 H0 ρ σ Hf H y _ hs S hF P))
theorem fec_make (cc : CalC X.prog X.w X.K X.mg X.base j c fs n mi) (hr : Room k X.A) (hk : j + 1 ≤ k) (hN : X.N[0]? = some x) (hv : Vis X.env.scope x) (ha : FA X [] (e :: es) Fs) (h1 : (x == ("__debug__" : Str)) = false := by decide +kernel) (h2 : (x == ("__classdict__" : Str)) = false := by decide +kernel)
    (he : starEach (e :: es) X.env = (false, eval e X.env) :: starEach es X.env := by rfl) (hpl : (backTo pos (starEach es X.env)).any (·.1) = false := by rfl) : FEc X (He.ga X.K c) (.Call (.Name x p) (e :: es) [] pos) (eMk c fs n mi Fs) := by
  obtain ⟨f, fd, ps, Fn, M, hm, hb⟩ := cc.ok
  intro φ Hf0 H0 ρ σ Hf H d Q hs S hF q
  unfold eMk at hF
  split at hF
  case h_2 => cases hF
  rename_i ds d1
  split at hF
  case isFalse => cases hF
  rename_i hl
  split at hF
  case h_2 => cases hF
  rename_i xs d2
  cases hF
  refine toE (pe_makeL hN hv M Fn (hr.mono hk) hb .nil pass0 paW h1 h2 he hpl) ⟨hs, ?_⟩
  refine ha φ Hf0 H0 ρ σ Hf H ds _ S d1 fun vs Hf1 H1 g1 r1 => ?_
  intro a dx hx hdx hne
  have hs1 : Same H1 (upd (upd H1 dx (.own a)) a (.ins (He.ga X.K c) dx [])) := (same_upd hdx).trans (same_upd (by rw [upd_ne (fun z => hne z.symm)]; exact hx))
  refine ⟨φ, Hf1, a, dx, vs, ds, xs, by rw [List.append_nil], upd_same, g1.s.free hx, g1.s.trans hs1, r1, hl, d2, fun Hf2 H2 ws t s2 x2 y2 l2 r2 => ⟨rfl, ?_⟩⟩
  have g2 : Gr Hf1 H1 (upd Hf2 a (.ins (He.ga X.K c) dx (fs.zip ws))) H2 := by
    refine ⟨t.f.trans (same_upd x2), fun b u z => ?_, fun b u z => ?_, fun b u z zf => ?_⟩
    · exact t.h b u (ne_of_none z hx) (hs1 _ _ z)
    · by_cases hb : b = a
      · subst hb; rw [upd_same] at z; cases z; exact y2
      · rw [upd_ne hb] at z; exact s2 _ _ z
    · have hb := ne_of_none z hx
      rw [upd_ne hb]
      exact t.n b u hb (hs1 _ _ z) zf
  exact q (.ref a) _ H2 (g1.trans g2) (.ins upd_same l2 (r2.mono (same_upd x2)))
theorem fecx_args {f : Addr} (M : Mk X.K C f) (hN : X.N[0]? = some x) (hv : Vis X.env.scope x) (ha : FAX X W [] (e :: es) G) (h1 : (x == ("__debug__" : Str)) = false := by decide +kernel) (h2 : (x == ("__classdict__" : Str)) = false := by decide +kernel)
    (he : starEach (e :: es) X.env = (false, eval e X.env) :: starEach es X.env := by rfl) (hpl : (backTo pos (starEach es X.env)).any (·.1) = false := by rfl) : FEcX X W C (.Call (.Name x p) (e :: es) [] pos) G := by
  intro φ Hf0 H0 ρ σ Hf H y Q hs S hF P
  have pe : PE X (.Call (.Name x p) (e :: es) [] pos) (fun σ H Q => σ[0]? = some (some (.ref C)) ∧ wA X (e :: es) σ H fun _ _ => False) := by
    refine ⟨fun pins s σ H Q I h => ?_⟩
    obtain ⟨hs, h⟩ := h
    refine wpAny_Call_Name_kw (thn ((pe_var hN hv h1 h2).run pins s σ H (fun v H1 => v = .ref C ∧ H1 = H) I ⟨_, hs, rfl, rfl⟩) fun u s1 ⟨v, H1, I1, rv, ev, eH⟩ => ?_)
    subst ev eH
    obtain rfl : u = Value.ref C := rv
    exact PySem.W.callWith_K (h₀ := X.base) I1.ok.mod.kin M.kp (thn ((paW (X := X) (es := e :: es)).run pos pins s1 σ _ _ I1 h) fun us s2 ⟨vs, H2, I2, r, q⟩ => q.elim) he hpl
  exact toE pe ⟨hs, ha φ Hf0 H0 ρ σ Hf H y _ S hF P⟩
end
def spC (K : PySem.W.Frag) (C : Addr) (n : Nat) (m : List D → Option D) : Sp := fun vs H Q E => ∃ us, vs = .ref C :: us ∧ spF K false n m us H Q E
def spCX (K : PySem.W.Frag) (C : Addr) (n : Nat) (m : List D → Option XC) : Sp := fun vs H Q E => ∃ us, vs = .ref C :: us ∧ spX K n m us H Q E
def runC {α : Type} (N n : Nat) (G : Env → Option α) (ds : List D) : Option α := G (none :: envOf (N - 1) n ds)
structure CalCl (P : Program) (w : World) (K : PySem.W.Frag) (mg : Str → Option Value) (base : Heap) (k : Nat) (c m : Str) (n : Nat) (mir : List D → Option D) : Prop where
  ok : ∃ (fd : FuncData) (ps : List Str), FnOk P w K mg base CX0 k (pAd K (He.ga K c) m) fd ps (spC K (He.ga K c) n mir) ∧ mg c = some (.ref (He.ga K c)) ∧ CMd K (He.ga K c) m (pAd K (He.ga K c) m) ∧ Binds K fd ps []
structure CalClX (P : Program) (w : World) (K : PySem.W.Frag) (mg : Str → Option Value) (base : Heap) (k : Nat) (c m : Str) (n : Nat) (mir : List D → Option XC) : Prop where
  ok : ∃ (fd : FuncData) (ps : List Str), FnOk P w K mg base (L2.CX P w) k (pAd K (He.ga K c) m) fd ps (spCX K (He.ga K c) n mir) ∧ mg c = some (.ref (He.ga K c)) ∧ CMd K (He.ga K c) m (pAd K (He.ga K c) m) ∧ Binds K fd ps []
section
variable {K : PySem.W.Frag} {φ : Nat → Option Addr} {Hf H : Hp} {N ps : List Str} {C : Addr} {us : List V} {ds : List D} {n N' : Nat}
theorem sr_cls (hs : Same Hf H) (r : RpAll K φ Hf ds us) (hl : ds.length = n) (hN : N' = N.length) (hn : n + 1 = ps.length) :
    SR K φ Hf H [] (none :: envOf (N' - 1) n ds) (L2.start N (.ref C :: us)) Hf H := by
  have e : L2.start N (.ref C :: us) = some (.ref C) :: (us.map some ++ List.replicate (N.length - 1 - n) none) := by
    unfold L2.start
    rw [List.map_cons, List.length_cons, ← r.length, hl, List.cons_append, show N.length - (n + 1) = N.length - 1 - n by omega]
  rw [e, hN]
  unfold envOf
  refine ⟨by simp [r.length], hs, Same.refl _, Same.refl _, fun _ _ _ z => z, fun i d e _ => ?_, fun i d _ m => absurd m (by simp), fun i j _ _ _ _ _ m => absurd m (by simp)⟩
  cases i with
  | zero => cases e
  | succ i => exact r.val _ i d e
end
section
variable {P : Program} {w : World} [WW w] {K : PySem.W.Frag} {mg : Str → Option Value} {base : Heap} {k : Nat} {ps N : List Str} {q c m : Str} {st : Stmt} {N' n : Nat}
theorem calCl_of {G : Env → Option D} (Dd : FnAt K m q st [] [] (pAd K (He.ga K c) m)) (hg : mg c = some (.ref (He.ga K c))) (hc : clmB K c m = true) (S : FnScope N ps (defScope st)) (hN : N' = N.length) (hn : n + 1 = ps.length)
    (hbind : ∀ (kV doc pm : Value) (an : Option Addr) (cdv ct : Value) (us : List Value), us.length = ps.length → bindArgs (PySem.W.fnOf m q (defArgs st) (defBody st) (defScope st) .none kV doc pm an cdv ct) ⟨us, []⟩ = pure (ps.zip us))
    (hb : ∀ (cdv : Value) (A : Around) (outer : List PySem.Env) (s : Shared) (H : Hp) (E : XK), Room k (A.deeper (PyProof.Rows.envOfC q (defScope st) s.heap.objs.size (pAd K (He.ga K c) m) cdv)) →
      FSc (cxOf CX0 P w K mg base N q (defScope st) (pAd K (He.ga K c) m) cdv A outer s H E).nox (He.ga K c) (defBody st) G) : CalCl P w K mg base (k + 1) c m n (runC N' n G) := by
  obtain ⟨fd, F⟩ := Dd
  refine ⟨fd, ps, ?_, hg, clm_ok hc, FunD.bindsN F hbind⟩
  refine FunD.ok F S (fun vs H Q E h => ?_) (fun cdv A outer s H vs Q E hr h => ?_)
  · obtain ⟨us, rfl, φ, Hf, ds, d, _, r, hl, _⟩ := h
    rw [List.length_cons, ← r.length, hl, hn]
  · obtain ⟨us, rfl, φ, Hf, ds, d, hs, r, hl, hm, hk⟩ := h
    exact ⟨_, PSs.nox pssW, hb cdv A outer s H E hr φ Hf H _ _ Hf H d _ rfl (sr_cls hs r hl hN hn) hm hk⟩
theorem calClX_of {G : Env → Option XC} (Dd : FnAt K m q st [] [] (pAd K (He.ga K c) m)) (hg : mg c = some (.ref (He.ga K c))) (hc : clmB K c m = true) (S : FnScope N ps (defScope st)) (hN : N' = N.length) (hn : n + 1 = ps.length)
    (hbind : ∀ (kV doc pm : Value) (an : Option Addr) (cdv ct : Value) (us : List Value), us.length = ps.length → bindArgs (PySem.W.fnOf m q (defArgs st) (defBody st) (defScope st) .none kV doc pm an cdv ct) ⟨us, []⟩ = pure (ps.zip us))
    (hb : ∀ (cdv : Value) (A : Around) (outer : List PySem.Env) (s : Shared) (H : Hp) (E : XK), Room k (A.deeper (PyProof.Rows.envOfC q (defScope st) s.heap.objs.size (pAd K (He.ga K c) m) cdv)) → Takes (cxOf (L2.CX P w) P w K mg base N q (defScope st) (pAd K (He.ga K c) m) cdv A outer s H E) (fun cls d _ H => E cls d H) →
      FScX (cxOf (L2.CX P w) P w K mg base N q (defScope st) (pAd K (He.ga K c) m) cdv A outer s H E) (fun cls d _ H => E cls d H) (He.ga K c) (defBody st) G) : CalClX P w K mg base (k + 1) c m n (runC N' n G) := by
  obtain ⟨fd, F⟩ := Dd
  refine ⟨fd, ps, ?_, hg, clm_ok hc, FunD.bindsN F hbind⟩
  refine FunD.ok F S (fun vs H Q E h => ?_) (fun cdv A outer s H vs Q E hr h => ?_)
  · obtain ⟨us, rfl, φ, Hf, ds, x, _, r, hl, _⟩ := h
    rw [List.length_cons, ← r.length, hl, hn]
  · obtain ⟨us, rfl, φ, Hf, ds, x, hs, r, hl, hm, hk⟩ := h
    exact ⟨_, pssW, hb cdv A outer s H E hr (takes_of rfl rfl rfl rfl) φ Hf H _ _ Hf H x _ rfl (sr_cls hs r hl hN hn) hm fun σ' dd v Hf' H' s' S' e1 e2 => hk dd v Hf' H' S'.from0 e1 e2⟩
end
section
variable {X : Cx} [WW X.w] {W : WX} {O : List Nat} {e : Expr} {es : List Expr} {c m : Str} {p pos apos : Pos} {k j n : Nat} {Fs : Env → Option (List D)} {mir : List D → Option D} {mirx : List D → Option XC}
theorem fe_clm {pl : Sem Bool} (cm : CalCl X.prog X.w X.K X.mg X.base j c m n mir) (hr : Room k X.A) (hk : j ≤ k) (hg : Gl X c) (ha : FA X O (e :: es) Fs) (hdb : (c == ("__debug__" : Str)) = false := by decide +kernel)
    (hst : starEach (e :: es) X.env = (false, eval e X.env) :: starEach es X.env := by rfl) (hpl : (backTo pos (starEach es X.env)).any (·.1) = false := by rfl)
    (ht : eval (.Call (.Attribute (.Name c p) m apos) (e :: es) [] pos) X.env = (do
      let ov ← eval (.Name c p) X.env
      standAt apos.atName
      let (f, first) ← holding [ov] (getMethod ov m pl)
      callWith pos f first (backTo pos (starEach (e :: es) X.env)) (backToKw pos (keywordEach [] X.env))) := by rfl) : FE X O (.Call (.Attribute (.Name c p) m apos) (e :: es) [] pos) (eL (mL n mir) Fs) := by
  obtain ⟨fd, ps, Fn, hmg, hc, hb⟩ := cm.ok
  intro φ Hf0 H0 ρ σ Hf H d Q S hF q
  obtain ⟨ds, h1, h2⟩ := eL_some hF
  unfold mL at h2
  split at h2
  case isFalse => cases h2
  rename_i hl
  refine toE (pe_clm (E := fun _ _ _ _ => False) (pl := pl) (pe_glob hg hmg (v := .ref (He.ga X.K c)) rfl hdb) hc Fn (hr.mono hk) hb (fun σ pins H s e s' I z => (pass0 pins σ H s e s' I z)) paW hst hpl ht) ?_
  refine ⟨rfl, ?_⟩
  refine ha φ Hf0 H0 ρ σ Hf H ds _ S h1 fun vs Hf1 H1 g1 r1 => ?_
  exact ⟨vs, rfl, φ, Hf1, ds, d, g1.s, r1, hl, h2, fun v Hf2 H2 g2 r2 => q v Hf2 H2 (g1.trans g2) r2⟩
theorem fex_clm {pl : Sem Bool} (cm : CalClX X.prog X.w X.K X.mg X.base j c m n mirx) (hr : Room k X.A) (hk : j ≤ k) (hg : Gl X c) (tk : Takes X W) (ha : FA X O (e :: es) Fs) (hdb : (c == ("__debug__" : Str)) = false := by decide +kernel)
    (hst : starEach (e :: es) X.env = (false, eval e X.env) :: starEach es X.env := by rfl) (hpl : (backTo pos (starEach es X.env)).any (·.1) = false := by rfl)
    (ht : eval (.Call (.Attribute (.Name c p) m apos) (e :: es) [] pos) X.env = (do
      let ov ← eval (.Name c p) X.env
      standAt apos.atName
      let (f, first) ← holding [ov] (getMethod ov m pl)
      callWith pos f first (backTo pos (starEach (e :: es) X.env)) (backToKw pos (keywordEach [] X.env))) := by rfl) : FEX X W O (.Call (.Attribute (.Name c p) m apos) (e :: es) [] pos) (xCall n mirx Fs) := by
  obtain ⟨fd, ps, Fn, hmg, hc, hb⟩ := cm.ok
  intro φ Hf0 H0 ρ σ Hf H y Q S hF P
  unfold xCall at hF
  split at hF
  case h_2 => cases hF
  rename_i ds hds
  split at hF
  case isFalse => cases hF
  rename_i hl
  refine toE (pe_clm (pl := pl) (pe_glob hg hmg (v := .ref (He.ga X.K c)) rfl hdb) hc Fn (hr.mono hk) hb (fun σ => passAt tk σ) paW hst hpl ht) ?_
  refine ⟨rfl, ?_⟩
  refine ha φ Hf0 H0 ρ σ Hf H ds _ S hds fun vs Hf1 H1 g1 r1 => ?_
  exact ⟨vs, rfl, φ, Hf1, ds, y, g1.s, r1, hl, hF, fun dd v Hf2 H2 g2 hdd rv => P σ dd v Hf2 H2 (g1.f.trans g2.f) ((S.gr g1).gr g2) hdd rv⟩
end
end FL
namespace FL
variable [HW]
open PySem PySem.Spec L2 PyProof.Rows

/-! ### x = e, e raises -/
section
variable {X : Cx} [WW X.w] {W : WX} {O : List Nat} {e : Expr} {pos : Pos}
theorem fx_asg {G : Env → Option XC} {i : Nat} {x : Str} {p2 : Pos} (hN : X.N.Nodup) (hi : X.N[i]? = some x) (hx : Loc X.env.scope x) (h : FEX X W O e G) (hs : swapsWith e (some (.Name x p2)) pos.line X.env = pure false := by rfl) (hf : X.fn x = true ∨ X.env.scope.names.lookup x = some .local := by first | exact .inl rfl | exact .inr rfl | assumption) :
    FX X W O O (.Assign [.Name x p2] e pos) (xHere G) := fun φ Hf0 H0 ρ σ Hf H y ρ' Dn S hF P => by
  unfold xHere at hF
  split at hF
  · rename_i z hz
    cases hF
    exact toS (ps_set hN hi hx peW hs hf) (h φ Hf0 H0 ρ σ Hf H y _ S hz P)
  · cases hF
end
/-! ### x.replace(y, z), y and z written, where a token is out -/
def wAt (X : Cx) (es : List Expr) : TA := fun σ H Q => Lk (∀ pos pins s, 1 ≤ s.toks → Inv X pins σ H s → wpAny (model X.prog X.w) X.A (spliced (backTo pos (starEach es X.env))) (AP X pins σ Q) X.xe s)
def FAT (X : Cx) (O : List Nat) (es : List Expr) (F : Env → Option (List D)) : Prop :=
  ∀ (φ : Nat → Option Addr) (Hf0 H0 : Hp) (ρ : Env) (σ : L2.St) (Hf H : Hp) (ds : List D) (Q : List V → Hp → Prop), SR X.K φ Hf0 H0 O ρ σ Hf H → F ρ = some ds → (∀ vs Hf' H', Gr Hf H Hf' H' → RpAll X.K φ Hf' ds vs → Q vs H') → wAt X es σ H Q
def replD (y z : Str) : D → Option D
  | .str x => if x.length + (x.length + 1) * z.length ≤ 16777216 then some (.str (Txt.replace x y z)) else none
  | _ => none
section
variable {X : Cx} [WW X.w] {O : List Nat} {a o : Expr} {es : List Expr} {F : Env → Option D} {Fs : Env → Option (List D)} {x y z : Str} {j k : Nat} {c0 c1 apos pos : Pos} {op : Operator} {r : R2} {f : D → D → Option D}
theorem patW : PAT X es (wAt X es) := fun pos pins s _ _ _ h0 I h => h.h pos pins s h0 I
theorem toAt {t : TA} {σ : L2.St} {H : Hp} {Q : List V → Hp → Prop} (h : PAT X es t) (q : t σ H Q) : wAt X es σ H Q := ⟨fun pos pins s h0 I => h pos pins s σ H Q h0 I q⟩
theorem fat_of (h : FA X O es Fs) : FAT X O es Fs := fun φ Hf0 H0 ρ σ Hf H ds Q S hF k => ⟨fun pos pins s _ I => (h φ Hf0 H0 ρ σ Hf H ds Q S hF k).h pos pins s I⟩
theorem fat_rep (h : FE X O o F) (t : FAT X O es Fs) (hyz : (y == z) = false := by decide +kernel)
    (hst : starEach [.Constant (.str y) j c0, .Constant (.str z) k c1] X.env = [(false, eval (.Constant (.str y) j c0) X.env), (false, eval (.Constant (.str z) k c1) X.env)] := by rfl)
    (hbase : attributeBase o "replace" X.env (eval o X.env) = eval o X.env := by rfl) (hline : (apos.endLine == pos.line) = true := by rfl)
    (hs : starEach (.Call (.Attribute o "replace" apos) [.Constant (.str y) j c0, .Constant (.str z) k c1] [] pos :: es) X.env = (false, eval (.Call (.Attribute o "replace" apos) [.Constant (.str y) j c0, .Constant (.str z) k c1] [] pos) X.env) :: starEach es X.env := by rfl) :
    FAT X O (.Call (.Attribute o "replace" apos) [.Constant (.str y) j c0, .Constant (.str z) k c1] [] pos :: es) (aCons (e1 (replD y z) F) Fs) := by
  intro φ Hf0 H0 ρ σ Hf H ds Q S hF q
  unfold aCons at hF
  split at hF
  case h_2 => cases hF
  rename_i d h1
  split at hF
  case h_2 => cases hF
  rename_i ds' h2
  cases hF
  obtain ⟨u, h3, h4⟩ := e1_some h1
  unfold replD at h4
  split at h4
  case h_2 => cases h4
  rename_i b
  split at h4
  case isFalse => cases h4
  rename_i hl
  cases h4
  refine toAt (pat_cons (CwR.pet_replC peW hyz hst hbase hline) patW hs) ?_
  refine h φ Hf0 H0 ρ σ Hf H _ _ S h3 fun v Hf1 H1 g1 r1 => ?_
  cases r1
  refine ⟨b, rfl, hl, ?_⟩
  refine t φ Hf0 H0 ρ σ Hf1 H1 ds' _ (S.gr g1) h2 fun vs Hf2 H2 g2 r2 => ?_
  exact q (_ :: vs) Hf2 H2 (g1.trans g2) (.cons (.str _) r2)
theorem pa_tok {ta : TE} {u : TA} (ho : OpR X (binaryOp op) r) (ha : PE X a ta) (hr : PAT X es u)
    (hs : starEach (.BinOp a op (.Constant (.str x) j c0) pos :: es) X.env = (false, eval (.BinOp a op (.Constant (.str x) j c0) pos) X.env) :: starEach es X.env := by rfl) :
    PA X (.BinOp a op (.Constant (.str x) j c0) pos :: es) (fun σ H Q => ta σ H fun v H1 => r v (.str x) H1 fun w H2 => u σ H2 fun ws H3 => Q (w :: ws) H3) := by
  refine ⟨fun pos' pins s σ H Q I h => ?_⟩
  rw [hs]
  show wpAny _ _ (spliced ((false, eval (.BinOp a op (.Constant (.str x) j c0) pos) X.env) :: backTo pos' (starEach es X.env))) _ _ s
  refine Calls.spliced_cons (wpAny_BinOp (thn (ha.run pins s σ H _ I h) fun v s1 ⟨w, H1, I1, r1, q1⟩ => Calls.Constant_str ?_))
  refine wpAny_mono (PySem.wpAny_toks (ho pins { s1 with toks := s1.toks + 1 } σ H1 w (.str x) v (.str x s1.toks) _ (I1.tok _) r1 ⟨_, rfl⟩ q1)) (fun v2 s2 q => ?_) fun _ _ z => z.2
  obtain ⟨hk, w2, H2, I2, r2, q2⟩ := q
  have hk : s1.toks + 1 ≤ s2.toks := hk
  exact thn (hr pos' pins s2 σ H2 _ (by omega) I2 q2) fun us s3 ⟨xs, H3, I3, r3, q3⟩ => ⟨w2 :: xs, H3, I3, .cons r2 r3, q3⟩
theorem fa_tok (ho : OpR X (binaryOp op) r) (hr : Op2 X.K r f) (ha : FB X O a F) (t : FAT X O es Fs)
    (hs : starEach (.BinOp a op (.Constant (.str x) j c0) pos :: es) X.env = (false, eval (.BinOp a op (.Constant (.str x) j c0) pos) X.env) :: starEach es X.env := by rfl) :
    FA X O (.BinOp a op (.Constant (.str x) j c0) pos :: es) (aCons (e2 f F (eC (.str x))) Fs) := by
  intro φ Hf0 H0 ρ σ Hf H ds Q S hF q
  unfold aCons at hF
  split at hF
  case h_2 => cases hF
  rename_i d h1
  split at hF
  case h_2 => cases hF
  rename_i ds' h2
  cases hF
  obtain ⟨u, v, h3, h4, h5⟩ := e2_some h1
  cases h4
  refine toA (pa_tok ho peW patW hs) ?_
  refine ha φ Hf0 H0 ρ σ Hf H u _ S h3 fun v1 Hf1 H1 g1 r1 => ?_
  refine hr φ Hf1 H1 u (.str x) d v1 (.str x) _ g1.s r1 (.inl (.str x)) h5 fun z1 Hf2 H2 g2 r2 => ?_
  refine t φ Hf0 H0 ρ σ Hf2 H2 ds' _ (S.gr (g1.trans g2)) h2 fun vs Hf3 H3 g3 r3 => ?_
  exact q (z1 :: vs) Hf3 H3 ((g1.trans g2).trans g3) (.cons (r2.mono g3.f) r3)
end
end FL
namespace LW
open PySem PySem.Spec L2 FL
variable [HW]
local macro_rules | `(tactic| walk_at "VIS") => `(tactic| first | exact Or.inl rfl | exact Or.inr (Or.inl rfl) | exact Or.inr (Or.inr rfl))
local macro_rules | `(tactic| walk_at "LOC") => `(tactic| first | exact Or.inl rfl | exact Or.inr rfl)
def top (i : Nat) : Stmt := PySem.Challenge.pw_lyingstandins_k19_parsed_books.main.body.getD i (.Pass ⟨0, 0, 0, 0⟩)
def tb_CLAIM_WORDS : List (Str × D) := [("look", (.tup [(.str "gone"), (.str "there"), (.str "changes"), (.str "firm"), (.str "goes"), (.str "stays")])), ("has", (.tup [(.str "gone"), (.str "there")])), ("get", (.tup [(.str "gone"), (.str "there")])), ("set", (.tup [(.str "done"), (.str "not")])), ("define", (.tup [(.str "done"), (.str "not"), (.str "changes"), (.str "firm"), (.str "goes"), (.str "stays")])), ("take", (.tup [(.str "done"), (.str "not")])), ("names", (.tup [(.str "gone"), (.str "there")])), ("shut", (.tup [(.str "done"), (.str "not")])), ("isshut", (.tup [(.str "shut"), (.str "open")]))]
def tb_FREEST : List (Str × D) := [("shut", (.tup [(.str "shut done if open"), (.str "isshut shut if open"), (.str "isshut open if shut")])), ("stays", (.tup [(.str "look stays if gone"), (.str "look stays if goes"), (.str "define done stays if gone"), (.str "define done stays if goes"), (.str "look gone if stays"), (.str "look goes if stays"), (.str "has gone if stays"), (.str "get gone if stays"), (.str "define done goes if stays"), (.str "take done if stays"), (.str "names gone if stays")])), ("fixed", (.tup [(.str "look firm stays if gone"), (.str "look firm stays if changes"), (.str "look firm stays if goes"), (.str "define done firm stays if gone"), (.str "define done firm stays if changes"), (.str "define done firm stays if goes"), (.str "look changes if firm stays"), (.str "look there if firm stays other"), (.str "get there if firm stays other"), (.str "set done if firm stays other"), (.str "define done changes if firm stays"), (.str "define done if firm stays other")])), ("never", (.tup [(.str "shut done if open"), (.str "isshut shut if open"), (.str "look gone if there shut"), (.str "has gone if there shut"), (.str "get gone if there shut"), (.str "take done if there shut"), (.str "names gone if there shut"), (.str "look there if gone shut"), (.str "has there if gone shut"), (.str "get there if gone shut"), (.str "set done if gone shut"), (.str "define done if gone shut"), (.str "names there if gone shut")]))]
def k_SHUT_WORDS : D := (.tup [(.str "shut"), (.str "open")])
def k_FIELD_WORDS : D := (.tup [(.str "gone"), (.str "there"), (.str "changes"), (.str "firm"), (.str "goes"), (.str "stays")])
def k_WORDS : D := (.tup [(.str "done"), (.str "not"), (.str "gone"), (.str "there"), (.str "changes"), (.str "firm"), (.str "goes"), (.str "stays"), (.str "other"), (.str "shut"), (.str "open")])
def k_PROMISES : D := (.tup [(.str "shut"), (.str "stays"), (.str "fixed"), (.str "never")])
abbrev s_behind_words : Stmt := top 24
abbrev N_behind_words : List Str := ["kind"]
theorem sc_behind_words : FnScope N_behind_words ["kind"] (defScope s_behind_words) := ⟨rfl, rfl, rfl, by decide +kernel, rfl, by decide +kernel, by decide +kernel⟩
abbrev s__in_order : Stmt := top 31
abbrev N__in_order : List Str := ["words", "word"]
theorem sc__in_order : FnScope N__in_order ["words"] (defScope s__in_order) := ⟨rfl, rfl, rfl, by decide +kernel, rfl, by decide +kernel, by decide +kernel⟩
abbrev s__is_side : Stmt := top 30
abbrev N__is_side : List Str := ["words", "allowed", "word"]
theorem sc__is_side : FnScope N__is_side ["words", "allowed"] (defScope s__is_side) := ⟨rfl, rfl, rfl, by decide +kernel, rfl, by decide +kernel, by decide +kernel⟩
abbrev s_parse_check : Stmt := top 29
abbrev N_parse_check : List Str := ["line", "kind", "words", "at", "claim", "behind"]
theorem sc_parse_check : FnScope N_parse_check ["line"] (defScope s_parse_check) := ⟨rfl, rfl, rfl, by decide +kernel, rfl, by decide +kernel, by decide +kernel⟩
abbrev s_format_check : Stmt := top 32
abbrev N_format_check : List Str := ["check", "kind", "claim", "behind"]
theorem sc_format_check : FnScope N_format_check ["check"] (defScope s_format_check) := ⟨rfl, rfl, rfl, by decide +kernel, rfl, by decide +kernel, by decide +kernel⟩
abbrev s__different : Stmt := top 44
abbrev N__different : List Str := ["checks", "check"]
theorem sc__different : FnScope N__different ["checks"] (defScope s__different) := ⟨rfl, rfl, rfl, by decide +kernel, rfl, by decide +kernel, by decide +kernel⟩
abbrev s_Book___init__ : Stmt := clsM (top 45) 0
abbrev N_Book___init__ : List Str := ["self", "checks"]
theorem sc_Book___init__ : FnScope N_Book___init__ ["self", "checks"] (defScope s_Book___init__) := ⟨rfl, rfl, rfl, by decide +kernel, rfl, by decide +kernel, by decide +kernel⟩
abbrev s_Book___iter__ : Stmt := clsM (top 45) 2
abbrev N_Book___iter__ : List Str := ["self"]
theorem sc_Book___iter__ : FnScope N_Book___iter__ ["self"] (defScope s_Book___iter__) := ⟨rfl, rfl, rfl, by decide +kernel, rfl, by decide +kernel, by decide +kernel⟩
abbrev s_Book_parsed : Stmt := clsM (top 45) 9
abbrev N_Book_parsed : List Str := ["cls", "lines", "line"]
theorem sc_Book_parsed : FnScope N_Book_parsed ["cls", "lines"] (defScope s_Book_parsed) := ⟨rfl, rfl, rfl, by decide +kernel, rfl, by decide +kernel, by decide +kernel⟩
abbrev s_Book_freest : Stmt := clsM (top 45) 10
abbrev N_Book_freest : List Str := ["promises", "chosen", "promise", "line"]
theorem sc_Book_freest : FnScope N_Book_freest ["promises"] (defScope s_Book_freest) := ⟨rfl, rfl, rfl, by decide +kernel, rfl, by decide +kernel, by decide +kernel⟩
abbrev s__law_cell : Stmt := top 47
abbrev N__law_cell : List Str := ["_law_script", "_law_k"]
theorem sc__law_cell : FnScope N__law_cell ["_law_script", "_law_k"] (defScope s__law_cell) := ⟨rfl, rfl, rfl, by decide +kernel, rfl, by decide +kernel, by decide +kernel⟩
abbrev s__law_draws : Stmt := top 48
abbrev N__law_draws : List Str := ["_law_cell_here", "_law_many", "_law_draws_here", "_law_rest", "_law_k", "_law_mixed"]
theorem sc__law_draws : FnScope N__law_draws ["_law_cell_here", "_law_many"] (defScope s__law_draws) := ⟨rfl, rfl, rfl, by decide +kernel, rfl, by decide +kernel, by decide +kernel⟩
abbrev s__law_pick : Stmt := top 49
abbrev N__law_pick : List Str := ["_law_draw", "_law_first", "_law_second", "_law_part"]
theorem sc__law_pick : FnScope N__law_pick ["_law_draw", "_law_first", "_law_second"] (defScope s__law_pick) := ⟨rfl, rfl, rfl, by decide +kernel, rfl, by decide +kernel, by decide +kernel⟩
abbrev s__law_rule : Stmt := top 50
abbrev N__law_rule : List Str := ["_law_one", "_law_two", "_law_kinds", "_law_kind", "_law_claim", "_law_behind"]
theorem sc__law_rule : FnScope N__law_rule ["_law_one", "_law_two"] (defScope s__law_rule) := ⟨rfl, rfl, rfl, by decide +kernel, rfl, by decide +kernel, by decide +kernel⟩
abbrev s__law_wish : Stmt := top 51
abbrev N__law_wish : List Str := ["_law_draw", "_law_words", "_law_wish_here", "_law_k"]
theorem sc__law_wish : FnScope N__law_wish ["_law_draw"] (defScope s__law_wish) := ⟨rfl, rfl, rfl, by decide +kernel, rfl, by decide +kernel, by decide +kernel⟩
abbrev s__law_is_same : Stmt := top 52
abbrev N__law_is_same : List Str := ["_law_got", "_law_due", "_law_k"]
theorem sc__law_is_same : FnScope N__law_is_same ["_law_got", "_law_due"] (defScope s__law_is_same) := ⟨rfl, rfl, rfl, by decide +kernel, rfl, by decide +kernel, by decide +kernel⟩
abbrev s__law_parsing : Stmt := top 53
abbrev N__law_parsing : List Str := ["_law_lines", "_law_book", "e", "_law_rule_here"]
theorem sc__law_parsing : FnScope N__law_parsing ["_law_lines"] (defScope s__law_parsing) := ⟨rfl, rfl, rfl, by decide +kernel, rfl, by decide +kernel, by decide +kernel⟩
abbrev s_law : Stmt := top 54
abbrev N_law : List Str := ["_law_script", "_law_many", "_law_draws_here", "_law_rules", "_law_texts", "_law_k", "_law_rule_here", "_law_claim", "_law_given", "_law_at", "_law_bad", "_law_free"]
theorem sc_law : FnScope N_law ["_law_script"] (defScope s_law) := ⟨rfl, rfl, rfl, by decide +kernel, rfl, by decide +kernel, by decide +kernel⟩
/-! ### the mirrors -/
def G_behind_words : FL.Env → Option Out :=
    (sSeq (sIf (tB blD (e2 inD (eVar 0) (eC (.tup [(.str "shut"), (.str "isshut")]))))
      (sSeq (sRet (eC k_SHUT_WORDS))
    sNil)
      sNil)
    (sSeq (sIf (tB blD (e2 inD (eVar 0) (eC (.tup [(.str "look"), (.str "get"), (.str "set"), (.str "define")]))))
      (sSeq (sRet (eL tupD (aStar (eC k_FIELD_WORDS) (aCons (eC (.str "other")) (aStar (eC k_SHUT_WORDS) aNil)))))
    sNil)
      sNil)
    (sForget [0] (sSeq (sRet (eL tupD (aStar (eC k_FIELD_WORDS) (aStar (eC k_SHUT_WORDS) aNil))))
    sNil))))
def m_behind_words : List D → Option D := runD false 1 1 G_behind_words
def G__in_order : FL.Env → Option Out :=
    (sSeq (sRet (eL tupOf (aCons (eComp [1] (iSeq isTup (eC k_WORDS)) (gSet 1) (tB blD (e2 inD (eVar 1) (eVar 0))) (eVar 1)) aNil)))
    sNil)
def m__in_order : List D → Option D := runD false 2 1 G__in_order
def G__is_side : FL.Env → Option Out :=
    (sSeq (sRet (eL allD (aCons (eComp [2] (iSeq isLst (eVar 0)) (gSet 2) tYesE (eAnd (e2 inD (eVar 2) (eVar 1)) (e2 eqD (eM countD (eVar 0) (aCons (eVar 2) aNil)) (eC (.int 1))))) aNil)))
    sNil)
def m__is_side : List D → Option D := runD false 3 2 G__is_side
def G_parse_check : FL.Env → Option Out :=
    (sSeq (sStar 1 2 (eM splitD (eVar 0) (aCons (eC (.str " ")) aNil)))
    (sSeq (sIf (tOr (tB blD (e1 (tbHasF tb_CLAIM_WORDS true) (eVar 1))) (tB blD (e2 neD (eM countD (eVar 2) (aCons (eC (.str "if")) aNil)) (eC (.int 1)))))
      (sSeq (fun _ => none)
    sNil)
      sNil)
    (sSeq (sSet 3 (eM indexD (eVar 2) (aCons (eC (.str "if")) aNil)))
    (sSeq (sSet 4 (eSl slD (eVar 2) pNo (pYes (eVar 3))))
    (sSeq (sSet 5 (eSl slD (eVar 2) (pYes (e2 addD (eVar 3) (eC (.int 1)))) pNo))
    (sForget [2, 3] (sSeq (sIf (tOr (tNot (tB truD (eL (mL 2 m__is_side) (aCons (eVar 4) (aCons (e1 (tbItem tb_CLAIM_WORDS) (eVar 1)) aNil))))) (tNot (tB truD (eL (mL 2 m__is_side) (aCons (eVar 5) (aCons (eL (mL 1 m_behind_words) (aCons (eVar 1) aNil)) aNil))))))
      (sSeq (fun _ => none)
    sNil)
      sNil)
    (sForget [0] (sSeq (sRet (eL tupD (aCons (eVar 1) (aCons (eL (mL 1 m__in_order) (aCons (eVar 4) aNil)) (aCons (eL (mL 1 m__in_order) (aCons (eVar 5) aNil)) aNil)))))
    sNil)))))))))
def m_parse_check : List D → Option D := runD false 6 1 G_parse_check
def GX_parse_check : FL.Env → Option (XC × FL.Env) :=
    (xSeq (sStar 1 2 (eM splitD (eVar 0) (aCons (eC (.str " ")) aNil))) xNo
    (xSeq (sIf (tOr (tB blD (e1 (tbHasF tb_CLAIM_WORDS true) (eVar 1))) (tB blD (e2 neD (eM countD (eVar 2) (aCons (eC (.str "if")) aNil)) (eC (.int 1)))))
      (sSeq (fun _ => none)
    sNil)
      sNil) (xIf (tOr (tB blD (e1 (tbHasF tb_CLAIM_WORDS true) (eVar 1))) (tB blD (e2 neD (eM countD (eVar 2) (aCons (eC (.str "if")) aNil)) (eC (.int 1))))) (xHere (xRaise "BadCheck" "line" (eVar 0))) xNo)
    (xSeq (sSet 3 (eM indexD (eVar 2) (aCons (eC (.str "if")) aNil))) xNo
    (xSeq (sSet 4 (eSl slD (eVar 2) pNo (pYes (eVar 3)))) xNo
    (xSeq (sSet 5 (eSl slD (eVar 2) (pYes (e2 addD (eVar 3) (eC (.int 1)))) pNo)) xNo
    (xIf (tOr (tNot (tB truD (eL (mL 2 m__is_side) (aCons (eVar 4) (aCons (e1 (tbItem tb_CLAIM_WORDS) (eVar 1)) aNil))))) (tNot (tB truD (eL (mL 2 m__is_side) (aCons (eVar 5) (aCons (eL (mL 1 m_behind_words) (aCons (eVar 1) aNil)) aNil)))))) (xHere (xRaise "BadCheck" "line" (eVar 0))) xNo))))))
def mx_parse_check : List D → Option XC := runX 6 1 GX_parse_check
def G_format_check : FL.Env → Option Out :=
    (sSeq (sAsg (gTup (gCons (gSet 1) (gCons (gSet 2) (gCons (gSet 3) gNil)))) (eVar 0))
    (sForget [0] (sSeq (sRet (eM joinD (eC (.str " ")) (aCons (eL lstD (aCons (eVar 1) (aStar (eVar 2) (aCons (eC (.str "if")) (aStar (eVar 3) aNil))))) aNil)))
    sNil)))
def m_format_check : List D → Option D := runD false 4 1 G_format_check
def G__different : FL.Env → Option Out :=
    (sSeq (sRet (eDed 1 (iSeq isLst (eVar 0))))
    sNil)
def m__different : List D → Option D := runD false 2 1 G__different
def fs_Book___init__ : List Str := ["_checks"]
def st_Book___init__ : List (Str × (FL.Env → Option D)) :=
    [("_checks", (eL (mL 1 m__different) (aCons (eVar 1) aNil)))]
def m_Book___init__ : List D → Option (List D) := runI "Book" 2 1 st_Book___init__
def G_Book_parsed : FL.Env → Option D :=
    (eMk "Book" fs_Book___init__ 1 m_Book___init__ (aCons (eComp [2] (iSeq isLst (eVar 1)) (gSet 2) tYesE (eL (mL 1 m_parse_check) (aCons (eVar 2) aNil))) aNil))
def m_Book_parsed : List D → Option D := runC 3 1 G_Book_parsed
def GX_Book_parsed : FL.Env → Option XC :=
    (xComp [2] (iSeq isLst (eVar 1)) (gSet 2) (eL (mL 1 m_parse_check) (aCons (eVar 2) aNil)) (xCall 1 mx_parse_check (aCons (eVar 2) aNil)))
def mx_Book_parsed : List D → Option XC := runC 3 1 GX_Book_parsed
def G_Book_freest : FL.Env → Option Out :=
    (sSeq (sSet 1 (eComp [2] (iSeq isTup (eC k_PROMISES)) (gSet 2) (tB blD (e2 inD (eVar 2) (eVar 0))) (eVar 2)))
    (sForget [0] (sSeq (sRet (eMk "Book" fs_Book___init__ 1 m_Book___init__ (aCons (eCompN [] [2, 3] (iSeq isLst (eVar 1)) (gSet 2) (cF [3] (iSeq isTup (e1 (tbItem tb_FREEST) (eVar 2))) (gSet 3) (cE (eL (mL 1 m_parse_check) (aCons (eVar 3) aNil))))) aNil)))
    sNil)))
def m_Book_freest : List D → Option D := runD false 4 1 G_Book_freest
def G__law_cell : FL.Env → Option Out :=
    (sSeq (sIf (tB blD (e2 ltD (eVar 1) (eL lenD (aCons (eVar 0) aNil))))
      (sSeq (sRet (eL intD (aCons (e2 ixD (eVar 0) (eVar 1)) aNil)))
    sNil)
      sNil)
    (sForget [0, 1] (sSeq (sRet (eC (.int 0)))
    sNil)))
def m__law_cell : List D → Option D := runD false 2 2 G__law_cell
def L__law_draws_0 : FL.Env → Option Out :=
    (sSeq (sSet 5 (e2 modD (eL intD (aCons (e2 addD (e2 addD (eVar 0) (e2 mulD (eC (.int 7919)) (eVar 4))) (eC (.int 13))) aNil)) (eC (.int 2147483647))))
    (sSeq (sSet 5 (e2 modD (eL intD (aCons (e2 addD (e2 mulD (eVar 5) (eVar 5)) (e2 mulD (eC (.int 48271)) (eVar 4))) aNil)) (eC (.int 2147483629))))
    (sSeq (sSet 5 (e2 modD (eL intD (aCons (e2 addD (e2 mulD (eVar 5) (eC (.int 69621))) (e2 fdivD (eVar 5) (eC (.int 1009)))) aNil)) (eC (.int 1000003))))
    (sSeq (sIf (tB blD (e2 gtD (eVar 3) (eC (.int 0))))
      (sSeq (sSet 5 (e2 modD (eL intD (aCons (eVar 3) aNil)) (eC (.int 1000003))))
    (sSeq (sSet 3 (e2 fdivD (eVar 3) (eC (.int 1000003))))
    sNil))
      sNil)
    (sSeq (sMut 2 appendF (aCons (eVar 5) aNil))
    sNil)))))
def G__law_draws : FL.Env → Option Out :=
    (sSeq (sSet 2 (eL lstD aNil))
    (sSeq (sSet 3 (eC (.int 0)))
    (sSeq (sIf (tB blD (e2 geD (eVar 0) (e2 powD (eC (.int 10)) (eC (.int 18)))))
      (sSeq (sSet 3 (e2 subD (eVar 0) (e2 powD (eC (.int 10)) (eC (.int 18)))))
    sNil)
      sNil)
    (sSeq (sFor (iRng1 (aCons (eVar 1) aNil)) (gSet 4) L__law_draws_0)
    (sForget [0, 1, 3, 4, 5] (sSeq (sRet (eVar 2))
    sNil))))))
def m__law_draws : List D → Option D := runD false 6 2 G__law_draws
def G__law_pick : FL.Env → Option Out :=
    (sSeq (sSet 3 (e2 modD (eL intD (aCons (eVar 0) aNil)) (eC (.int 13))))
    (sForget [0] (sSeq (sIf (tB blD (e2 ltD (eVar 3) (eC (.int 5))))
      (sSeq (sRet (eL lstD aNil))
    sNil)
      sNil)
    (sSeq (sIf (tB blD (e2 ltD (eVar 3) (eC (.int 9))))
      (sSeq (sRet (eL lstD (aCons (eVar 1) aNil)))
    sNil)
      sNil)
    (sSeq (sIf (tB blD (e2 ltD (eVar 3) (eC (.int 12))))
      (sSeq (sRet (eL lstD (aCons (eVar 2) aNil)))
    sNil)
      sNil)
    (sForget [3] (sSeq (sRet (eL lstD (aCons (eVar 1) (aCons (eVar 2) aNil))))
    sNil)))))))
def m__law_pick : List D → Option D := runD false 4 3 G__law_pick
def G__law_rule : FL.Env → Option Out :=
    (sSeq (sSet 2 (eL lstD (aK [(.str "look"), (.str "has"), (.str "get"), (.str "set"), (.str "define"), (.str "take"), (.str "names"), (.str "shut"), (.str "isshut")])))
    (sSeq (sSet 3 (e2 ixD (eVar 2) (e2 modD (eL intD (aCons (eVar 0) aNil)) (eC (.int 9)))))
    (sForget [2] (sSeq (sSet 4 (eL lstD aNil))
    (sSeq (sSet 5 (eL lstD aNil))
    (sSeq (sIf (tB blD (e2 inD (eVar 3) (eL lstD (aK [(.str "set"), (.str "define"), (.str "take"), (.str "shut")]))))
      (sSeq (sSet 4 (eL (mL 3 m__law_pick) (aCons (e2 fdivD (eVar 0) (eC (.int 9))) (aCons (eC (.str "done")) (aCons (eC (.str "not")) aNil)))))
    sNil)
      sNil)
    (sSeq (sIf (tB blD (e2 inD (eVar 3) (eL lstD (aK [(.str "look"), (.str "has"), (.str "get"), (.str "names")]))))
      (sSeq (sSet 4 (eL (mL 3 m__law_pick) (aCons (e2 fdivD (eVar 0) (eC (.int 9))) (aCons (eC (.str "gone")) (aCons (eC (.str "there")) aNil)))))
    sNil)
      sNil)
    (sSeq (sIf (tB blD (e2 inD (eVar 3) (eL lstD (aK [(.str "look"), (.str "define")]))))
      (sSeq (sSet 4 (e2 addD (eVar 4) (eL (mL 3 m__law_pick) (aCons (e2 fdivD (eVar 0) (eC (.int 117))) (aCons (eC (.str "changes")) (aCons (eC (.str "firm")) aNil))))))
    (sSeq (sSet 4 (e2 addD (eVar 4) (eL (mL 3 m__law_pick) (aCons (e2 fdivD (eVar 0) (eC (.int 1521))) (aCons (eC (.str "goes")) (aCons (eC (.str "stays")) aNil))))))
    sNil))
      sNil)
    (sSeq (sIf (tB blD (e2 eqD (eVar 3) (eC (.str "isshut"))))
      (sSeq (sSet 4 (eL (mL 3 m__law_pick) (aCons (e2 fdivD (eVar 0) (eC (.int 9))) (aCons (eC (.str "shut")) (aCons (eC (.str "open")) aNil)))))
    sNil)
      sNil)
    (sForget [0] (sSeq (sIf (tB blD (e2 ninD (eVar 3) (eL lstD (aK [(.str "shut"), (.str "isshut")]))))
      (sSeq (sSet 5 (e2 addD (eL (mL 3 m__law_pick) (aCons (eVar 1) (aCons (eC (.str "gone")) (aCons (eC (.str "there")) aNil)))) (eL (mL 3 m__law_pick) (aCons (e2 fdivD (eVar 1) (eC (.int 13))) (aCons (eC (.str "changes")) (aCons (eC (.str "firm")) aNil))))))
    (sSeq (sSet 5 (e2 addD (eVar 5) (eL (mL 3 m__law_pick) (aCons (e2 fdivD (eVar 1) (eC (.int 169))) (aCons (eC (.str "goes")) (aCons (eC (.str "stays")) aNil))))))
    sNil))
      sNil)
    (sSeq (sIf (tAnd (tB blD (e2 inD (eVar 3) (eL lstD (aK [(.str "look"), (.str "get"), (.str "set"), (.str "define")])))) (tB blD (e2 eqD (e2 modD (eL intD (aCons (e2 fdivD (eVar 1) (eC (.int 2197))) aNil)) (eC (.int 3))) (eC (.int 1)))))
      (sSeq (sSet 5 (e2 addD (eVar 5) (eL lstD (aCons (eC (.str "other")) aNil))))
    sNil)
      sNil)
    (sSeq (sSet 5 (e2 addD (eVar 5) (eL (mL 3 m__law_pick) (aCons (e2 fdivD (eVar 1) (eC (.int 6591))) (aCons (eC (.str "shut")) (aCons (eC (.str "open")) aNil))))))
    (sForget [1] (sSeq (sRet (eL tupD (aCons (eVar 3) (aCons (eL tupOf (aCons (eVar 4) aNil)) (aCons (eL tupOf (aCons (eVar 5) aNil)) aNil)))))
    sNil)))))))))))))))
def m__law_rule : List D → Option D := runD false 6 2 G__law_rule
def G__law_wish : FL.Env → Option Out :=
    (sSeq (sSet 1 (eL lstD (aK [(.str "shut"), (.str "stays"), (.str "fixed"), (.str "never")])))
    (sSeq (sSet 2 (eComp [3] (iRng1 (aCons (eC (.int 4)) aNil)) (gSet 3) (tB blD (e2 eqD (e2 modD (eL intD (aCons (e2 fdivD (eVar 0) (e2 ixD (eL lstD (aK [(.int 1), (.int 2), (.int 4), (.int 8)])) (eVar 3))) aNil)) (eC (.int 2))) (eC (.int 1)))) (e2 ixD (eVar 1) (eVar 3))))
    (sForget [1] (sSeq (sIf (tB blD (e2 eqD (e2 modD (eL intD (aCons (e2 fdivD (eVar 0) (eC (.int 16))) aNil)) (eC (.int 2))) (eC (.int 1))))
      (sSeq (sRet (e1 revD (eVar 2)))
    sNil)
      sNil)
    (sForget [0] (sSeq (sRet (eVar 2))
    sNil))))))
def m__law_wish : List D → Option D := runD false 4 1 G__law_wish
def G__law_is_same (r : List D → Option D) : FL.Env → Option Out :=
    (sSeq (sIf (tOr (tB truD (e1 (isiD "tuple") (eVar 1))) (tB truD (e1 (isiD "list") (eVar 1))))
      (sSeq (sIf (tAnd (tB truD (e1 (isiD "tuple") (eVar 1))) (tNot (tB truD (e1 (isiD "tuple") (eVar 0)))))
      (sSeq (sRet (eC (.bl false)))
    sNil)
      sNil)
    (sSeq (sIf (tAnd (tB truD (e1 (isiD "list") (eVar 1))) (tNot (tB truD (e1 (isiD "list") (eVar 0)))))
      (sSeq (sRet (eC (.bl false)))
    sNil)
      sNil)
    (sSeq (sIf (tB blD (e2 neD (eL lenD (aCons (eVar 0) aNil)) (eL lenD (aCons (eVar 1) aNil))))
      (sSeq (sRet (eC (.bl false)))
    sNil)
      sNil)
    (sSeq (sFor (iRng1 (aCons (eL lenD (aCons (eVar 1) aNil)) aNil)) (gSet 2)
      (sSeq (sIf (tNot (tB truD (eL (mL 2 r) (aCons (e2 ixD (eVar 0) (eVar 2)) (aCons (e2 ixD (eVar 1) (eVar 2)) aNil)))))
      (sSeq (sRet (eC (.bl false)))
    sNil)
      sNil)
    sNil))
    (sSeq (sRet (eC (.bl true)))
    sNil)))))
      sNil)
    (sForget [2] (sSeq (sIf (tB blD (e2 isD (eVar 1) (eC .non)))
      (sSeq (sRet (e2 isD (eVar 0) (eC .non)))
    sNil)
      sNil)
    (sSeq (sIf (tB truD (e1 (isiD "bool") (eVar 1)))
      (sSeq (sRet (eAnd (e1 (isiD "bool") (eVar 0)) (e2 eqD (eVar 0) (eVar 1))))
    sNil)
      sNil)
    (sSeq (sIf (tB truD (e1 (isiD "int") (eVar 1)))
      (sSeq (sRet (eAnd (e1 (isiD "int") (eVar 0)) (eAnd (e1 notD (e1 (isiD "bool") (eVar 0))) (e2 eqD (eVar 0) (eVar 1)))))
    sNil)
      sNil)
    (sSeq (sRet (eAnd (e1 (isiD "str") (eVar 0)) (e2 eqD (eVar 0) (eVar 1))))
    sNil))))))
def m__law_is_same : Nat → List D → Option D
  | 0 => fun _ => none
  | n + 1 => runD false 3 2 (G__law_is_same (m__law_is_same n))
def G__law_parsing : FL.Env → Option Out :=
    (sSeq (sTry 2 "BadCheck" "line" (sSeq (sSet 1 (eL (mL 1 m_Book_parsed) (aCons (eVar 0) aNil)))
    sNil)
      (xHere (xCall 1 mx_Book_parsed (aCons (eVar 0) aNil)))
      (fun xd => (eL lstD (aCons (fun _ => some (.bl true)) (aCons (fun _ => some xd) aNil)))))
    (sForget [0] (sSeq (sRet (eComp [3] (iOwn "Book" "_checks" (eVar 1)) (gSet 3) tYesE (eVar 3)))
    sNil)))
def m__law_parsing : List D → Option D := runD false 4 1 G__law_parsing
def L_law_0 : FL.Env → Option Out :=
    (sSeq (sSet 6 (eL (mL 2 m__law_rule) (aCons (e2 ixD (eVar 2) (e2 mulD (eC (.int 2)) (eVar 5))) (aCons (e2 ixD (eVar 2) (e2 addD (e2 mulD (eC (.int 2)) (eVar 5)) (eC (.int 1)))) aNil))))
    (sSeq (sSet 7 (eL listOf (aCons (e2 ixD (eVar 6) (eC (.int 1))) aNil)))
    (sSeq (sIf (tB blD (e2 eqD (e2 modD (eL intD (aCons (e2 ixD (eVar 2) (e2 mulD (eC (.int 2)) (eVar 5))) aNil)) (eC (.int 2))) (eC (.int 1))))
      (sSeq (sSet 7 (e1 revD (eVar 7)))
    sNil)
      sNil)
    (sSeq (sMut 4 appendF (aCons (eM joinD (eC (.str " ")) (aCons (e2 addD (e2 addD (e2 addD (eL lstD (aCons (e2 ixD (eVar 6) (eC (.int 0))) aNil)) (eVar 7)) (eL lstD (aCons (eC (.str "if")) aNil))) (eL listOf (aCons (e2 ixD (eVar 6) (eC (.int 2))) aNil))) aNil)) aNil))
    (sSeq (sIf (tB blD (e2 ninD (eVar 6) (eVar 3)))
      (sSeq (sMut 3 appendF (aCons (eVar 6) aNil))
    sNil)
      sNil)
    sNil)))))
def L_law_1 : FL.Env → Option Out :=
    (sSeq (sIf (tNot (tB truD (eL (mL 2 (m__law_is_same 6)) (aCons (eL (mL 1 m_parse_check) (aCons (eL (mL 1 m_format_check) (aCons (eVar 6) aNil)) aNil)) (aCons (eVar 6) aNil)))))
      (sSeq (sRet (eC (.bl false)))
    sNil)
      sNil)
    sNil)
def G_law : FL.Env → Option Out :=
    (sSeq (sSet 1 (e2 modD (eL (mL 2 m__law_cell) (aCons (eVar 0) (aCons (eC (.int 1)) aNil))) (eC (.int 9))))
    (sSeq (sSet 2 (eL (mL 2 m__law_draws) (aCons (eL (mL 2 m__law_cell) (aCons (eVar 0) (aCons (eC (.int 0)) aNil))) (aCons (e2 addD (e2 mulD (eC (.int 2)) (eVar 1)) (eC (.int 3))) aNil))))
    (sSeq (sSet 3 (eL lstD aNil))
    (sSeq (sSet 4 (eL lstD aNil))
    (sSeq (sFor (iRng1 (aCons (eVar 1) aNil)) (gSet 5) L_law_0)
    (sForget [5, 7] (sSeq (sSet 8 (eL listOf (aCons (eVar 4) aNil)))
    (sSeq (sIf (tOr (tNot (tB truD (eL (mL 2 (m__law_is_same 6)) (aCons (eL (mL 1 m__law_parsing) (aCons (eVar 8) aNil)) (aCons (eVar 3) aNil))))) (tB blD (e2 neD (eVar 8) (eVar 4))))
      (sSeq (sRet (eC (.bl false)))
    sNil)
      sNil)
    (sForget [3, 8] (sSeq (sIf (tAnd (tB blD (e2 gtD (eVar 1) (eC (.int 0)))) (tB blD (e2 eqD (e2 modD (eL intD (aCons (e2 ixD (eVar 2) (e2 mulD (eC (.int 2)) (eVar 1))) aNil)) (eC (.int 2))) (eC (.int 1)))))
      (sSeq (sSet 9 (e2 modD (eL intD (aCons (e2 ixD (eVar 2) (e2 addD (e2 mulD (eC (.int 2)) (eVar 1)) (eC (.int 1)))) aNil)) (eVar 1)))
    (sSeq (sSet 10 (e2 ixD (eL lstD (aCons (e2 addD (e2 ixD (eVar 4) (eVar 9)) (eC (.str " "))) (aCons (e1 (replD " if" "") (e2 ixD (eVar 4) (eVar 9))) (aCons (eC (.str "")) aNil)))) (e2 modD (eL intD (aCons (e2 ixD (eVar 2) (e2 addD (e2 mulD (eC (.int 2)) (eVar 1)) (eC (.int 2)))) aNil)) (eC (.int 3)))))
    (sSeq (sPut 4 (eVar 9) (eVar 10))
    (sSeq (sIf (tNot (tB truD (eL (mL 2 (m__law_is_same 6)) (aCons (eL (mL 1 m__law_parsing) (aCons (eVar 4) aNil)) (aCons (eL lstD (aCons (eC (.bl true)) (aCons (eVar 10) aNil))) aNil)))))
      (sSeq (sRet (eC (.bl false)))
    sNil)
      sNil)
    sNil))))
      sNil)
    (sForget [1, 2, 4, 9, 10] (sSeq (sSet 11 (eComp [6] (iOwn "Book" "_checks" (eL (mL 1 m_Book_freest) (aCons (eL (mL 1 m__law_wish) (aCons (eL (mL 2 m__law_cell) (aCons (eVar 0) (aCons (eC (.int 2)) aNil))) aNil)) aNil))) (gSet 6) tYesE (eVar 6)))
    (sForget [0] (sSeq (sFor (iSeq isLst (eVar 11)) (gSet 6) L_law_1)
    (sForget [6] (sSeq (sRet (e2 leD (eL lenD (aCons (eVar 11) aNil)) (eC (.int 40))))
    sNil))))))))))))))))
def m_law : List D → Option D := runD false 12 1 G_law
/-! ### what the top has left -/
structure TX (P : Program) (w : World) (K : PySem.W.Frag) (mg : Str → Option Value) : Prop where
  c_Book : Cls K (He.ga K "Book")
  g_Book : mg "Book" = some (.ref (He.ga K "Book"))
  i_Book : Mk K (He.ga K "Book") (He.ma K (He.ga K "Book") "__init__")
  n_Book__checks : NoAttr K (He.ga K "Book") "_checks"
  d_behind_words : DefAt K "behind_words" s_behind_words (He.ga K "behind_words")
  g_behind_words : mg "behind_words" = some (.ref (He.ga K "behind_words"))
  d__in_order : DefAt K "_in_order" s__in_order (He.ga K "_in_order")
  g__in_order : mg "_in_order" = some (.ref (He.ga K "_in_order"))
  d__is_side : DefAt K "_is_side" s__is_side (He.ga K "_is_side")
  g__is_side : mg "_is_side" = some (.ref (He.ga K "_is_side"))
  d_parse_check : DefAt K "parse_check" s_parse_check (He.ga K "parse_check")
  g_parse_check : mg "parse_check" = some (.ref (He.ga K "parse_check"))
  d_format_check : DefAt K "format_check" s_format_check (He.ga K "format_check")
  g_format_check : mg "format_check" = some (.ref (He.ga K "format_check"))
  d__different : DefAt K "_different" s__different (He.ga K "_different")
  g__different : mg "_different" = some (.ref (He.ga K "_different"))
  d_Book___init__ : FnAt K "__init__" "Book.__init__" s_Book___init__ [] [] (He.fAd K ("Book", some "__init__"))
  d_Book___iter__ : FnAt K "__iter__" "Book.__iter__" s_Book___iter__ [] [] (He.fAd K ("Book", some "__iter__"))
  m_Book___iter__ : Meth K (He.ga K "Book") "__iter__" (He.ma K (He.ga K "Book") "__iter__")
  d_Book_parsed : FnAt K "parsed" "Book.parsed" s_Book_parsed [] [] (pAd K (He.ga K "Book") "parsed")
  d_Book_freest : FnAt K "freest" "Book.freest" s_Book_freest [] [] (pAd K (He.ga K "Book") "freest")
  d__law_cell : DefAt K "_law_cell" s__law_cell (He.ga K "_law_cell")
  g__law_cell : mg "_law_cell" = some (.ref (He.ga K "_law_cell"))
  d__law_draws : DefAt K "_law_draws" s__law_draws (He.ga K "_law_draws")
  g__law_draws : mg "_law_draws" = some (.ref (He.ga K "_law_draws"))
  d__law_pick : DefAt K "_law_pick" s__law_pick (He.ga K "_law_pick")
  g__law_pick : mg "_law_pick" = some (.ref (He.ga K "_law_pick"))
  d__law_rule : DefAt K "_law_rule" s__law_rule (He.ga K "_law_rule")
  g__law_rule : mg "_law_rule" = some (.ref (He.ga K "_law_rule"))
  d__law_wish : DefAt K "_law_wish" s__law_wish (He.ga K "_law_wish")
  g__law_wish : mg "_law_wish" = some (.ref (He.ga K "_law_wish"))
  d__law_is_same : DefAt K "_law_is_same" s__law_is_same (He.ga K "_law_is_same")
  g__law_is_same : mg "_law_is_same" = some (.ref (He.ga K "_law_is_same"))
  d__law_parsing : DefAt K "_law_parsing" s__law_parsing (He.ga K "_law_parsing")
  g__law_parsing : mg "_law_parsing" = some (.ref (He.ga K "_law_parsing"))
  d_law : DefAt K "law" s_law (He.ga K "law")
  g_law : mg "law" = some (.ref (He.ga K "law"))
  z_all : mg "all" = none
  z_bool : mg "bool" = none
  z_int : mg "int" = none
  z_isinstance : mg "isinstance" = none
  z_iter : mg "iter" = none
  z_len : mg "len" = none
  z_list : mg "list" = none
  z_range : mg "range" = none
  z_str : mg "str" = none
  z_super : mg "super" = none
  z_tuple : mg "tuple" = none
  k_SHUT_WORDS : ConAt K mg "SHUT_WORDS" k_SHUT_WORDS
  k_FIELD_WORDS : ConAt K mg "FIELD_WORDS" k_FIELD_WORDS
  k_WORDS : ConAt K mg "WORDS" k_WORDS
  k_PROMISES : ConAt K mg "PROMISES" k_PROMISES
  k_CLAIM_WORDS : TabF K w mg "CLAIM_WORDS" tb_CLAIM_WORDS
  k_FREEST : TabF K w mg "FREEST" tb_FREEST
  p_Book_parsed : clmB K "Book" "parsed" = true
  p_Book_freest : smB K "Book" "freest" = true
  gx_BadCheck : mg "BadCheck" = some (.ref (He.ga K "BadCheck"))
  gx_StandInError : mg "StandInError" = some (.ref (He.ga K "StandInError"))
  x_BadCheck : OneC P K (He.ga K "BadCheck") (He.fAd K ("BadCheck", some "__init__")) "line" "line" "not a check: "
  ec_BadCheck : ExcC K (He.ga K "BadCheck") ∧ XfC K (He.ga K "BadCheck")
  xm_BadCheck_StandInError : PySem.W.exmOne K (.ref (He.ga K "BadCheck")) (.ref (He.ga K "StandInError")) = some true
  xk_BadCheck_BadCheck : PySem.W.kitOne K (.ref (He.ga K "BadCheck")) (.ref (He.ga K "BadCheck")) = some true
section
variable {P : Program} {w : World} [WW w] {K : PySem.W.Frag} {mg : Str → Option Value} {base : Heap}
theorem cal_behind_words (T : TX P w K mg) : CalK P w K mg base 1 "behind_words" false 1 m_behind_words := calK_of (ps := ["kind"]) (N := N_behind_words) (T.d_behind_words) T.g_behind_words sc_behind_words rfl rfl (fun _ _ _ _ _ _ us hl => match us, hl with | [_], _ => rfl) [] (fun cdv A outer s H E hr =>
    (fss_cons (fs_if (O' := []) (ft_cmp (op_inX (u65 hr)) o_in (fb_var (i := 0) rfl (by walk_at "VIS")) (fb_of (fe_cst (by kernel_rfl))) (by with_unfolding_all rfl))
      (fss_cons (fs_ret (fe_glob rfl T.k_SHUT_WORDS))
    fss_nil)
      (fss_to fss_nil (by decide)))
    (fss_cons (fs_if (O' := []) (ft_cmp (op_inX (u65 hr)) o_in (fb_var (i := 0) rfl (by walk_at "VIS")) (fb_of (fe_cst (by kernel_rfl))) (by with_unfolding_all rfl))
      (fss_cons (fs_ret (fe_tup (fa_star (fb_of (fe_glob rfl T.k_FIELD_WORDS)) (fa_cons fe_str (fa_star (fb_of (fe_glob rfl T.k_SHUT_WORDS)) fa_nil)))))
    fss_nil)
      (fss_to fss_nil (by decide)))
    (fss_forget [0] (fss_cons (fs_ret (fe_tup (fa_star (fb_of (fe_glob rfl T.k_FIELD_WORDS)) (fa_star (fb_of (fe_glob rfl T.k_SHUT_WORDS)) fa_nil))))
    fss_nil)))))
theorem cal__in_order (T : TX P w K mg) : CalK P w K mg base 1 "_in_order" false 1 m__in_order := calK_of (ps := ["words"]) (N := N__in_order) (T.d__in_order) T.g__in_order sc__in_order rfl rfl (fun _ _ _ _ _ _ us hl => match us, hl with | [_], _ => rfl) [] (fun cdv A outer s H E hr =>
    (fss_cons (fs_ret (fe_callTy call_tuple_of l_tup rfl T.z_tuple (by decide +kernel) (fba_cons (fb_of (fe_of_fn (fn_lcIf (own := [("word", 1)]) (tgs := [1]) rfl sc__in_order.nd (blkOk_by (N := N__in_order) (sc := defScope s__in_order) (own := [("word", 1)]) (by decide +kernel)) (fib_of (fi_tup (fe_glob rfl T.k_WORDS))) (fun _ _ _ _ _ => (fg_name (i := 1) sc__in_order.nd rfl (by walk_at "LOC"))) (fun _ _ _ _ _ => (ft_cmp (op_inX (u65 hr)) o_in (fb_var (i := 1) rfl (by walk_at "VIS")) (fb_var (i := 0) rfl (by walk_at "VIS")) (by with_unfolding_all rfl))) (fun _ _ _ _ _ => (fe_var (i := 1) rfl (by walk_at "VIS") (by decide))) (by decide)))) fba_nil)))
    fss_nil))
theorem cal__is_side (T : TX P w K mg) : CalK P w K mg base 1 "_is_side" false 2 m__is_side := calK_of (ps := ["words", "allowed"]) (N := N__is_side) (T.d__is_side) T.g__is_side sc__is_side rfl rfl (fun _ _ _ _ _ _ us hl => match us, hl with | [_, _], _ => rfl) [] (fun cdv A outer s H E hr =>
    (fss_cons (fs_ret (fe_callB (cr_all rfl) l_all rfl T.z_all (by decide +kernel) (fba_cons (fb_of (fe_of_fn (fn_lc (own := [("word", 2)]) (tgs := [2]) rfl sc__is_side.nd (blkOk_by (N := N__is_side) (sc := defScope s__is_side) (own := [("word", 2)]) (by decide +kernel)) (fib_list (fb_var (i := 0) rfl (by walk_at "VIS"))) (fun _ _ _ _ _ => (fg_name (i := 2) sc__is_side.nd rfl (by walk_at "LOC"))) (fun _ _ _ _ _ => (fe_and (fe_cmp (op_inX (u65 hr)) o_in (fb_var (i := 2) rfl (by walk_at "VIS")) (fb_var (i := 1) rfl (by walk_at "VIS")) (by with_unfolding_all rfl)) (fe_one (fe_cmp (op_eqX (u64 hr)) o_eq (fb_of (fe_counted (fb_var (i := 0) rfl (by walk_at "VIS")) (fba_cons (fb_var (i := 2) rfl (by walk_at "VIS")) fba_nil))) (fb_of fe_int) (nomark _))))) (by decide)))) fba_nil)))
    fss_nil))
theorem calx_parse_check (T : TX P w K mg) : CalX P w K mg base 4 "parse_check" 1 mx_parse_check := calX_of (ps := ["line"]) (N := N_parse_check) (T.d_parse_check) T.g_parse_check sc_parse_check rfl rfl (fun _ _ _ _ _ _ us hl => match us, hl with | [_], _ => rfl) [] (fun cdv A outer s H E hr tk =>
    (fxs_cons (fs_star (i := 1) (j := 2) rfl sc_parse_check.nd rfl (by walk_at "LOC") rfl (by walk_at "LOC") (fe_of_fn (fn_split (fb_var (i := 0) rfl (by walk_at "VIS")) (fba_cons (fb_of fe_str) fba_nil)))) fx_no
    (fxs_cons (fs_if (O' := []) (ft_w (fw_or (ft_tbNotInF T.k_CLAIM_WORDS rfl (fe_var (i := 1) rfl (by walk_at "VIS") (by decide))) (fw_or1 (ft_cmp (op_neX (u64 hr)) o_ne (fb_of (fe_counted (fb_var (i := 2) rfl (by walk_at "VIS")) (fba_cons (fb_of fe_str) fba_nil))) (fb_of fe_int) (nomark _)))))
      (fss_cons (fs_dead (O' := []))
    fss_nil)
      (fss_to fss_nil (by decide))) (fx_if (ft_w (fw_or (ft_tbNotInF T.k_CLAIM_WORDS rfl (fe_var (i := 1) rfl (by walk_at "VIS") (by decide))) (fw_or1 (ft_cmp (op_neX (u64 hr)) o_ne (fb_of (fe_counted (fb_var (i := 2) rfl (by walk_at "VIS")) (fba_cons (fb_of fe_str) fba_nil))) (fb_of fe_int) (nomark _))))) (fxs_hd (fx_raise rfl tk T.x_BadCheck T.gx_BadCheck T.z_super (hr.mono (by decide)) rfl (fe_var (i := 0) rfl (by walk_at "VIS") (by decide)))) fxs_no)
    (fxs_cons (fs_set (i := 3) sc_parse_check.nd rfl (by walk_at "LOC") (fe_indexed (fb_var (i := 2) rfl (by walk_at "VIS")) (fba_cons (fb_of fe_str) fba_nil))) fx_no
    (fxs_cons (fs_set (i := 4) sc_parse_check.nd rfl (by walk_at "LOC") (fe_sl (fb_var (i := 2) rfl (by walk_at "VIS")) fo_no (fo_yes (fe_var (i := 3) rfl (by walk_at "VIS") (by decide))))) fx_no
    (fxs_cons (fs_set (i := 5) sc_parse_check.nd rfl (by walk_at "LOC") (fe_sl (fb_var (i := 2) rfl (by walk_at "VIS")) (fo_yes (fe_op op_addX o_add (fb_var (i := 3) rfl (by walk_at "VIS")) (fb_of fe_int))) fo_no)) fx_no
    (fxs_hd (fx_if (ft_w (fw_or (ft_not (ft_val (fe_call (cal__is_side T) hr (by decide) rfl (fa_cons (fe_var (i := 4) rfl (by walk_at "VIS") (by decide)) (fa_cons (fe_tbItem T.k_CLAIM_WORDS.at_ rfl (fe_var (i := 1) rfl (by walk_at "VIS") (by decide)) (hs := fun _ _ => rfl)) fa_nil))))) (fw_or1 (ft_not (ft_val (fe_call (cal__is_side T) hr (by decide) rfl (fa_cons (fe_var (i := 5) rfl (by walk_at "VIS") (by decide)) (fa_cons (fe_call (cal_behind_words T) hr (by decide) rfl (fa_cons (fe_var (i := 1) rfl (by walk_at "VIS") (by decide)) fa_nil)) fa_nil)))))))) (fxs_hd (fx_raise rfl tk T.x_BadCheck T.gx_BadCheck T.z_super (hr.mono (by decide)) rfl (fe_var (i := 0) rfl (by walk_at "VIS") (by decide)))) fxs_no))))))))
theorem cal_parse_check (T : TX P w K mg) : CalK P w K mg base 4 "parse_check" false 1 m_parse_check := calK_of (ps := ["line"]) (N := N_parse_check) (T.d_parse_check) T.g_parse_check sc_parse_check rfl rfl (fun _ _ _ _ _ _ us hl => match us, hl with | [_], _ => rfl) [] (fun cdv A outer s H E hr =>
    (fss_cons (fs_star (i := 1) (j := 2) rfl sc_parse_check.nd rfl (by walk_at "LOC") rfl (by walk_at "LOC") (fe_of_fn (fn_split (fb_var (i := 0) rfl (by walk_at "VIS")) (fba_cons (fb_of fe_str) fba_nil))))
    (fss_cons (fs_if (O' := []) (ft_w (fw_or (ft_tbNotInF T.k_CLAIM_WORDS rfl (fe_var (i := 1) rfl (by walk_at "VIS") (by decide))) (fw_or1 (ft_cmp (op_neX (u64 hr)) o_ne (fb_of (fe_counted (fb_var (i := 2) rfl (by walk_at "VIS")) (fba_cons (fb_of fe_str) fba_nil))) (fb_of fe_int) (nomark _)))))
      (fss_cons (fs_dead (O' := []))
    fss_nil)
      (fss_to fss_nil (by decide)))
    (fss_cons (fs_set (i := 3) sc_parse_check.nd rfl (by walk_at "LOC") (fe_indexed (fb_var (i := 2) rfl (by walk_at "VIS")) (fba_cons (fb_of fe_str) fba_nil)))
    (fss_cons (fs_set (i := 4) sc_parse_check.nd rfl (by walk_at "LOC") (fe_sl (fb_var (i := 2) rfl (by walk_at "VIS")) fo_no (fo_yes (fe_var (i := 3) rfl (by walk_at "VIS") (by decide)))))
    (fss_cons (fs_set (i := 5) sc_parse_check.nd rfl (by walk_at "LOC") (fe_sl (fb_var (i := 2) rfl (by walk_at "VIS")) (fo_yes (fe_op op_addX o_add (fb_var (i := 3) rfl (by walk_at "VIS")) (fb_of fe_int))) fo_no))
    (fss_forget [2, 3] (fss_cons (fs_if (O' := []) (ft_w (fw_or (ft_not (ft_val (fe_call (cal__is_side T) hr (by decide) rfl (fa_cons (fe_var (i := 4) rfl (by walk_at "VIS") (by decide)) (fa_cons (fe_tbItem T.k_CLAIM_WORDS.at_ rfl (fe_var (i := 1) rfl (by walk_at "VIS") (by decide)) (hs := fun _ _ => rfl)) fa_nil))))) (fw_or1 (ft_not (ft_val (fe_call (cal__is_side T) hr (by decide) rfl (fa_cons (fe_var (i := 5) rfl (by walk_at "VIS") (by decide)) (fa_cons (fe_call (cal_behind_words T) hr (by decide) rfl (fa_cons (fe_var (i := 1) rfl (by walk_at "VIS") (by decide)) fa_nil)) fa_nil))))))))
      (fss_cons (fs_dead (O' := []))
    fss_nil)
      (fss_to fss_nil (by decide)))
    (fss_forget [0] (fss_cons (fs_ret (fe_tup (fa_cons (fe_var (i := 1) rfl (by walk_at "VIS") (by decide)) (fa_cons (fe_call (cal__in_order T) hr (by decide) rfl (fa_cons (fe_var (i := 4) rfl (by walk_at "VIS") (by decide)) fa_nil)) (fa_cons (fe_call (cal__in_order T) hr (by decide) rfl (fa_cons (fe_var (i := 5) rfl (by walk_at "VIS") (by decide)) fa_nil)) fa_nil)))))
    fss_nil))))))))))
theorem cal_format_check (T : TX P w K mg) : CalK P w K mg base 1 "format_check" false 1 m_format_check := calK_of (ps := ["check"]) (N := N_format_check) (T.d_format_check) T.g_format_check sc_format_check rfl rfl (fun _ _ _ _ _ _ us hl => match us, hl with | [_], _ => rfl) [] (fun cdv A outer s H E hr =>
    (fss_cons (fs_asg (fe_var (i := 0) rfl (by walk_at "VIS") (by decide)) (fg_tup rfl (fgs_cons (fg_name (i := 1) sc_format_check.nd rfl (by walk_at "LOC")) (fgs_cons (fg_name (i := 2) sc_format_check.nd rfl (by walk_at "LOC")) (fgs_cons (fg_name (i := 3) sc_format_check.nd rfl (by walk_at "LOC")) fgs_nil))) rfl (gCons_len (gCons_len (gCons_len gNil_len)))))
    (fss_forget [0] (fss_cons (fs_ret (fe_joined (fb_of fe_str) (fba_cons (fb_of (fe_of_fn (fn_lst (fa_cons (fe_var (i := 1) rfl (by walk_at "VIS") (by decide)) (fa_star (fb_var (i := 2) rfl (by walk_at "VIS")) (fa_cons fe_str (fa_star (fb_var (i := 3) rfl (by walk_at "VIS")) fa_nil))))))) fba_nil)))
    fss_nil))))
theorem cal__different (T : TX P w K mg) : CalK P w K mg base 1 "_different" false 1 m__different := calK_of (ps := ["checks"]) (N := N__different) (T.d__different) T.g__different sc__different rfl rfl (fun _ _ _ _ _ _ us hl => match us, hl with | [_], _ => rfl) [] (fun cdv A outer s H E hr =>
    (fss_cons (fs_ret (fe_ded (own := [("check", 1)]) (i0 := 1) (V0 := eC (.bl true)) rfl hr.hd (u8 hr) sc__different.nd (blkOk_by (N := N__different) (sc := defScope s__different) (own := [("check", 1)]) (by decide +kernel)) (fib_list (fb_var (i := 0) rfl (by walk_at "VIS"))) (fun _ _ _ _ _ => (fg_name (i := 1) sc__different.nd rfl (by walk_at "LOC"))) (by decide) (fun _ _ _ _ _ => (fe_var (i := 1) rfl (by walk_at "VIS") (by decide))) (fun _ _ _ _ _ => fe_bl) (fun _ => ⟨_, rfl⟩) rfl T.z_tuple (by decide +kernel)))
    fss_nil))
theorem cal_Book___init__ (T : TX P w K mg) : CalC P w K mg base 2 "Book" fs_Book___init__ 1 m_Book___init__ := calC_of (ps := ["self", "checks"]) (N := N_Book___init__) (steps := st_Book___init__) T.d_Book___init__ T.c_Book T.i_Book T.g_Book sc_Book___init__ rfl rfl (fun _ _ _ _ _ _ us hl => match us, hl with | [_, _], _ => rfl) (fun cdv A outer s H E hr =>
    ⟨_, _, _, _, _, _, rfl, (fe_call (cal__different T) hr (by decide) rfl (fa_cons (fe_var (i := 1) rfl (by walk_at "VIS") (by decide)) fa_nil)), rfl, (by walk_at "VIS"), (by decide), (by decide), T.n_Book__checks, (by rfl), rfl⟩)
theorem cal_Book___iter__ (T : TX P w K mg) : CalI P w K mg base 1 "Book" "_checks" := calI_of (self := "self") T.d_Book___iter__ T.c_Book T.m_Book___iter__ T.n_Book__checks sc_Book___iter__ T.z_iter (fun _ _ _ _ _ _ us hl => match us, hl with | [_], _ => rfl) rfl rfl (by decide) (by decide) (fun _ _ _ => rfl) (fun _ _ _ => (by walk_at "VIS"))
theorem cal_Book_parsed (T : TX P w K mg) : CalCl P w K mg base 5 "Book" "parsed" 1 m_Book_parsed := calCl_of (ps := ["cls", "lines"]) (N := N_Book_parsed) T.d_Book_parsed T.g_Book T.p_Book_parsed sc_Book_parsed rfl rfl (fun _ _ _ _ _ _ us hl => match us, hl with | [_, _], _ => rfl) (fun cdv A outer s H E hr =>
    (fsc_ret (fec_make (cal_Book___init__ T) hr (by decide) rfl (by walk_at "VIS") (fa_cons (fe_of_fn (fn_lc (own := [("line", 2)]) (tgs := [2]) rfl sc_Book_parsed.nd (blkOk_by (N := N_Book_parsed) (sc := defScope s_Book_parsed) (own := [("line", 2)]) (by decide +kernel)) (fib_list (fb_var (i := 1) rfl (by walk_at "VIS"))) (fun _ _ _ _ _ => (fg_name (i := 2) sc_Book_parsed.nd rfl (by walk_at "LOC"))) (fun _ _ _ _ _ => (fe_call (cal_parse_check T) hr (by decide) rfl (fa_cons (fe_var (i := 2) rfl (by walk_at "VIS") (by decide)) fa_nil))) (by decide))) fa_nil))))
theorem calx_Book_parsed (T : TX P w K mg) : CalClX P w K mg base 5 "Book" "parsed" 1 mx_Book_parsed := calClX_of (ps := ["cls", "lines"]) (N := N_Book_parsed) T.d_Book_parsed T.g_Book T.p_Book_parsed sc_Book_parsed rfl rfl (fun _ _ _ _ _ _ us hl => match us, hl with | [_, _], _ => rfl) (fun cdv A outer s H E hr tk =>
    (fscx_ret (fecx_args T.i_Book rfl (by walk_at "VIS") (fax_hd (fex_lc (own := [("line", 2)]) (tgs := [2]) rfl sc_Book_parsed.nd rfl rfl tk (blkOk_by (N := N_Book_parsed) (sc := defScope s_Book_parsed) (own := [("line", 2)]) (by decide +kernel)) (by rfl) (fib_list (fb_var (i := 1) rfl (by walk_at "VIS"))) (fun _ _ _ _ _ _ => (fg_name (i := 2) sc_Book_parsed.nd rfl (by walk_at "LOC"))) (fun _ _ _ _ _ _ => (fe_call (cal_parse_check T) hr (by decide) rfl (fa_cons (fe_var (i := 2) rfl (by walk_at "VIS") (by decide)) fa_nil))) (fun _ _ _ _ _ _ _ tk => (fex_call (calx_parse_check T) hr (by decide) rfl tk (fa_cons (fe_var (i := 2) rfl (by walk_at "VIS") (by decide)) fa_nil))) (by decide))))))
theorem cal_Book_freest (T : TX P w K mg) : CalSF P w K mg base 5 "Book" "freest" 1 m_Book_freest := calSF_of (ps := ["promises"]) (N := N_Book_freest) T.d_Book_freest T.g_Book T.p_Book_freest sc_Book_freest rfl rfl (fun _ _ _ _ _ _ us hl => match us, hl with | [_], _ => rfl) [] (fun cdv A outer s H E hr =>
    (fss_cons (fs_to (fs_setLcIf (i := 1) (own := [("promise", 2)]) (tgs := [2]) rfl sc_Book_freest.nd rfl rfl (by with_unfolding_all rfl) (blkOk_by (N := N_Book_freest) (sc := defScope s_Book_freest) (own := [("promise", 2)]) (by decide +kernel)) (fib_of (fi_tup (fe_glob rfl T.k_PROMISES))) (fun _ _ _ _ _ => (fg_name (i := 2) sc_Book_freest.nd rfl (by walk_at "LOC"))) (fun _ _ _ _ _ => (ft_cmp (op_inX (u65 hr)) o_in (fb_var (i := 2) rfl (by walk_at "VIS")) (fb_var (i := 0) rfl (by walk_at "VIS")) (by with_unfolding_all rfl))) (fun _ _ _ _ _ => (fe_var (i := 2) rfl (by walk_at "VIS") (by decide))) (by decide)) (O' := []) (by decide))
    (fss_forget [0] (fss_cons (fs_ret (fe_make (cal_Book___init__ T) hr (by decide) rfl (fa_cons (fe_of_fn (fn_lcN (O' := []) (own := [("promise", 2), ("line", 3)]) (tgs := [2]) rfl sc_Book_freest.nd (blkOk_by (N := N_Book_freest) (sc := defScope s_Book_freest) (own := [("promise", 2), ("line", 3)]) (by decide +kernel)) (fib_list (fb_var (i := 1) rfl (by walk_at "VIS"))) (fun _ _ _ _ _ => (fg_name (i := 2) sc_Book_freest.nd rfl (by walk_at "LOC"))) (by decide) (fr_cons (vs := [3]) (tgs := [3]) (fun _ _ _ _ _ => (fi_tup (fe_tbItem T.k_FREEST.at_ rfl (fe_var (i := 2) rfl (by walk_at "VIS") (by decide)) (hs := fun _ _ => rfl)))) (fun _ _ _ _ _ => (fg_name (i := 3) sc_Book_freest.nd rfl (by walk_at "LOC"))) (by decide) (by decide) (fr_nil (fun _ _ _ _ _ => (fe_call (cal_parse_check T) hr (by decide) rfl (fa_cons (fe_var (i := 3) rfl (by walk_at "VIS") (by decide)) fa_nil))))) (by decide))) fa_nil)))
    fss_nil))))
theorem cal__law_cell (T : TX P w K mg) : CalK P w K mg base 1 "_law_cell" false 2 m__law_cell := calK_of (ps := ["_law_script", "_law_k"]) (N := N__law_cell) (T.d__law_cell) T.g__law_cell sc__law_cell rfl rfl (fun _ _ _ _ _ _ us hl => match us, hl with | [_, _], _ => rfl) [] (fun cdv A outer s H E hr =>
    (fss_cons (fs_if (O' := []) (ft_cmp op_lt o_lt (fb_var (i := 1) rfl (by walk_at "VIS")) (fb_of (fe_callB c_len l_len rfl T.z_len (by decide +kernel) (fba_cons (fb_var (i := 0) rfl (by walk_at "VIS")) fba_nil))) (nomark _))
      (fss_cons (fs_ret (fe_callTy call_int1 l_int rfl T.z_int (by decide +kernel) (fba_cons (fb_of (fe_ix ix_seq o_ix (fb_var (i := 0) rfl (by walk_at "VIS")) (fb_var (i := 1) rfl (by walk_at "VIS")) (fun _ _ => rfl))) fba_nil)))
    fss_nil)
      (fss_to fss_nil (by decide)))
    (fss_forget [0, 1] (fss_cons (fs_ret fe_int)
    fss_nil))))
theorem cal__law_draws (T : TX P w K mg) : CalK P w K mg base 1 "_law_draws" false 2 m__law_draws := calK_of (ps := ["_law_cell_here", "_law_many"]) (N := N__law_draws) (T.d__law_draws) T.g__law_draws sc__law_draws rfl rfl (fun _ _ _ _ _ _ us hl => match us, hl with | [_, _], _ => rfl) [] (fun cdv A outer s H E hr =>
    (fss_cons (fs_setNew (i := 2) sc__law_draws.nd rfl (by walk_at "LOC") (fn_lst fa_nil))
    (fss_cons (fs_set (i := 3) sc__law_draws.nd rfl (by walk_at "LOC") fe_int)
    (fss_cons (fs_if (O' := [2]) (ft_cmp op_ge o_ge (fb_var (i := 0) rfl (by walk_at "VIS")) (fb_of (fe_op op_pow o_pow (fb_of fe_int) (fb_of fe_int))) (nomark _))
      (fss_to (fss_cons (fs_set (i := 3) sc__law_draws.nd rfl (by walk_at "LOC") (fe_op op_sub o_sub (fb_var (i := 0) rfl (by walk_at "VIS")) (fb_of (fe_op op_pow o_pow (fb_of fe_int) (fb_of fe_int)))))
    fss_nil) (by decide))
      (fss_to fss_nil (by decide)))
    (fss_cons (fs_for PassesOwn.never rfl (fi_rng1 rfl T.z_range (fa_cons (fe_var (i := 1) rfl (by walk_at "VIS") (by decide)) fa_nil)) (fg_name (i := 4) sc__law_draws.nd rfl (by walk_at "LOC"))
      (fss_to (fss_cons (fs_set (i := 5) sc__law_draws.nd rfl (by walk_at "LOC") (fe_op op_mod o_mod (fb_of (fe_callTy call_int1 l_int rfl T.z_int (by decide +kernel) (fba_cons (fb_of (fe_op op_addX o_add (fb_of (fe_op op_addX o_add (fb_var (i := 0) rfl (by walk_at "VIS")) (fb_of (fe_op op_mul o_mul (fb_of fe_int) (fb_var (i := 4) rfl (by walk_at "VIS")))))) (fb_of fe_int))) fba_nil))) (fb_of fe_int)))
    (fss_cons (fs_set (i := 5) sc__law_draws.nd rfl (by walk_at "LOC") (fe_op op_mod o_mod (fb_of (fe_callTy call_int1 l_int rfl T.z_int (by decide +kernel) (fba_cons (fb_of (fe_op op_addX o_add (fb_of (fe_op op_mul o_mul (fb_var (i := 5) rfl (by walk_at "VIS")) (fb_var (i := 5) rfl (by walk_at "VIS")))) (fb_of (fe_op op_mul o_mul (fb_of fe_int) (fb_var (i := 4) rfl (by walk_at "VIS")))))) fba_nil))) (fb_of fe_int)))
    (fss_cons (fs_set (i := 5) sc__law_draws.nd rfl (by walk_at "LOC") (fe_op op_mod o_mod (fb_of (fe_callTy call_int1 l_int rfl T.z_int (by decide +kernel) (fba_cons (fb_of (fe_op op_addX o_add (fb_of (fe_op op_mul o_mul (fb_var (i := 5) rfl (by walk_at "VIS")) (fb_of fe_int))) (fb_of (fe_op op_fdiv o_fdiv (fb_var (i := 5) rfl (by walk_at "VIS")) (fb_of fe_int))))) fba_nil))) (fb_of fe_int)))
    (fss_cons (fs_if (O' := [2]) (ft_cmp op_gt o_gt (fb_var (i := 3) rfl (by walk_at "VIS")) (fb_of fe_int) (nomark _))
      (fss_to (fss_cons (fs_set (i := 5) sc__law_draws.nd rfl (by walk_at "LOC") (fe_op op_mod o_mod (fb_of (fe_callTy call_int1 l_int rfl T.z_int (by decide +kernel) (fba_cons (fb_var (i := 3) rfl (by walk_at "VIS")) fba_nil))) (fb_of fe_int)))
    (fss_cons (fs_set (i := 3) sc__law_draws.nd rfl (by walk_at "LOC") (fe_op op_fdiv o_fdiv (fb_var (i := 3) rfl (by walk_at "VIS")) (fb_of fe_int)))
    fss_nil)) (by decide))
      (fss_to fss_nil (by decide)))
    (fss_cons (fs_mut (i := 2) rfl (by walk_at "VIS") (by decide) PySem.F.slot_list_append PySem.F.type_list_append mt_append r_append (fa_cons (fe_var (i := 5) rfl (by walk_at "VIS") (by decide)) fa_nil))
    fss_nil))))) (by decide)))
    (fss_forget [0, 1, 3, 4, 5] (fss_cons (fs_frz (O1 := []) (fs_ret (fe_var (i := 2) rfl (by walk_at "VIS") (by decide))) (by decide))
    fss_nil)))))))
theorem cal__law_pick (T : TX P w K mg) : CalK P w K mg base 1 "_law_pick" false 3 m__law_pick := calK_of (ps := ["_law_draw", "_law_first", "_law_second"]) (N := N__law_pick) (T.d__law_pick) T.g__law_pick sc__law_pick rfl rfl (fun _ _ _ _ _ _ us hl => match us, hl with | [_, _, _], _ => rfl) [] (fun cdv A outer s H E hr =>
    (fss_cons (fs_set (i := 3) sc__law_pick.nd rfl (by walk_at "LOC") (fe_op op_mod o_mod (fb_of (fe_callTy call_int1 l_int rfl T.z_int (by decide +kernel) (fba_cons (fb_var (i := 0) rfl (by walk_at "VIS")) fba_nil))) (fb_of fe_int)))
    (fss_forget [0] (fss_cons (fs_if (O' := []) (ft_cmp op_lt o_lt (fb_var (i := 3) rfl (by walk_at "VIS")) (fb_of fe_int) (nomark _))
      (fss_cons (fs_ret (fe_of_fn (fn_lst fa_nil)))
    fss_nil)
      (fss_to fss_nil (by decide)))
    (fss_cons (fs_if (O' := []) (ft_cmp op_lt o_lt (fb_var (i := 3) rfl (by walk_at "VIS")) (fb_of fe_int) (nomark _))
      (fss_cons (fs_ret (fe_of_fn (fn_lst (fa_cons (fe_var (i := 1) rfl (by walk_at "VIS") (by decide)) fa_nil))))
    fss_nil)
      (fss_to fss_nil (by decide)))
    (fss_cons (fs_if (O' := []) (ft_cmp op_lt o_lt (fb_var (i := 3) rfl (by walk_at "VIS")) (fb_of fe_int) (nomark _))
      (fss_cons (fs_ret (fe_of_fn (fn_lst (fa_cons (fe_var (i := 2) rfl (by walk_at "VIS") (by decide)) fa_nil))))
    fss_nil)
      (fss_to fss_nil (by decide)))
    (fss_forget [3] (fss_cons (fs_ret (fe_of_fn (fn_lst (fa_cons (fe_var (i := 1) rfl (by walk_at "VIS") (by decide)) (fa_cons (fe_var (i := 2) rfl (by walk_at "VIS") (by decide)) fa_nil)))))
    fss_nil))))))))
theorem cal__law_rule (T : TX P w K mg) : CalK P w K mg base 2 "_law_rule" false 2 m__law_rule := calK_of (ps := ["_law_one", "_law_two"]) (N := N__law_rule) (T.d__law_rule) T.g__law_rule sc__law_rule rfl rfl (fun _ _ _ _ _ _ us hl => match us, hl with | [_, _], _ => rfl) [] (fun cdv A outer s H E hr =>
    (fss_cons (fs_set (i := 2) sc__law_rule.nd rfl (by walk_at "LOC") (fe_of_fn (fn_lst (fa_cst (by kernel_rfl)))))
    (fss_cons (fs_set (i := 3) sc__law_rule.nd rfl (by walk_at "LOC") (fe_ix ix_seq o_ix (fb_var (i := 2) rfl (by walk_at "VIS")) (fb_of (fe_op op_mod o_mod (fb_of (fe_callTy call_int1 l_int rfl T.z_int (by decide +kernel) (fba_cons (fb_var (i := 0) rfl (by walk_at "VIS")) fba_nil))) (fb_of fe_int))) (fun _ _ => rfl)))
    (fss_forget [2] (fss_cons (fs_set (i := 4) sc__law_rule.nd rfl (by walk_at "LOC") (fe_of_fn (fn_lst fa_nil)))
    (fss_cons (fs_set (i := 5) sc__law_rule.nd rfl (by walk_at "LOC") (fe_of_fn (fn_lst fa_nil)))
    (fss_cons (fs_if (O' := []) (ft_cmp (op_inX (u65 hr)) o_in (fb_var (i := 3) rfl (by walk_at "VIS")) (fb_of (fe_of_fn (fn_lst (fa_cst (by kernel_rfl))))) (by with_unfolding_all rfl))
      (fss_to (fss_cons (fs_set (i := 4) sc__law_rule.nd rfl (by walk_at "LOC") (fe_call (cal__law_pick T) hr (by decide) rfl (fa_cons (fe_op op_fdiv o_fdiv (fb_var (i := 0) rfl (by walk_at "VIS")) (fb_of fe_int)) (fa_cons fe_str (fa_cons fe_str fa_nil)))))
    fss_nil) (by decide))
      (fss_to fss_nil (by decide)))
    (fss_cons (fs_if (O' := []) (ft_cmp (op_inX (u65 hr)) o_in (fb_var (i := 3) rfl (by walk_at "VIS")) (fb_of (fe_of_fn (fn_lst (fa_cst (by kernel_rfl))))) (by with_unfolding_all rfl))
      (fss_to (fss_cons (fs_set (i := 4) sc__law_rule.nd rfl (by walk_at "LOC") (fe_call (cal__law_pick T) hr (by decide) rfl (fa_cons (fe_op op_fdiv o_fdiv (fb_var (i := 0) rfl (by walk_at "VIS")) (fb_of fe_int)) (fa_cons fe_str (fa_cons fe_str fa_nil)))))
    fss_nil) (by decide))
      (fss_to fss_nil (by decide)))
    (fss_cons (fs_if (O' := []) (ft_cmp (op_inX (u65 hr)) o_in (fb_var (i := 3) rfl (by walk_at "VIS")) (fb_of (fe_of_fn (fn_lst (fa_cst (by kernel_rfl))))) (by with_unfolding_all rfl))
      (fss_to (fss_cons (fs_set (i := 4) sc__law_rule.nd rfl (by walk_at "LOC") (fe_op op_addX o_add (fb_var (i := 4) rfl (by walk_at "VIS")) (fb_of (fe_call (cal__law_pick T) hr (by decide) rfl (fa_cons (fe_op op_fdiv o_fdiv (fb_var (i := 0) rfl (by walk_at "VIS")) (fb_of fe_int)) (fa_cons fe_str (fa_cons fe_str fa_nil)))))))
    (fss_cons (fs_set (i := 4) sc__law_rule.nd rfl (by walk_at "LOC") (fe_op op_addX o_add (fb_var (i := 4) rfl (by walk_at "VIS")) (fb_of (fe_call (cal__law_pick T) hr (by decide) rfl (fa_cons (fe_op op_fdiv o_fdiv (fb_var (i := 0) rfl (by walk_at "VIS")) (fb_of fe_int)) (fa_cons fe_str (fa_cons fe_str fa_nil)))))))
    fss_nil)) (by decide))
      (fss_to fss_nil (by decide)))
    (fss_cons (fs_if (O' := []) (ft_cmp (op_eqX (u64 hr)) o_eq (fb_var (i := 3) rfl (by walk_at "VIS")) (fb_of fe_str) (nomark _))
      (fss_to (fss_cons (fs_set (i := 4) sc__law_rule.nd rfl (by walk_at "LOC") (fe_call (cal__law_pick T) hr (by decide) rfl (fa_cons (fe_op op_fdiv o_fdiv (fb_var (i := 0) rfl (by walk_at "VIS")) (fb_of fe_int)) (fa_cons fe_str (fa_cons fe_str fa_nil)))))
    fss_nil) (by decide))
      (fss_to fss_nil (by decide)))
    (fss_forget [0] (fss_cons (fs_if (O' := []) (ft_cmp (op_ninX (u65 hr)) o_nin (fb_var (i := 3) rfl (by walk_at "VIS")) (fb_of (fe_of_fn (fn_lst (fa_cst (by kernel_rfl))))) (by with_unfolding_all rfl))
      (fss_to (fss_cons (fs_set (i := 5) sc__law_rule.nd rfl (by walk_at "LOC") (fe_op op_addX o_add (fb_of (fe_call (cal__law_pick T) hr (by decide) rfl (fa_cons (fe_var (i := 1) rfl (by walk_at "VIS") (by decide)) (fa_cons fe_str (fa_cons fe_str fa_nil))))) (fb_of (fe_call (cal__law_pick T) hr (by decide) rfl (fa_cons (fe_op op_fdiv o_fdiv (fb_var (i := 1) rfl (by walk_at "VIS")) (fb_of fe_int)) (fa_cons fe_str (fa_cons fe_str fa_nil)))))))
    (fss_cons (fs_set (i := 5) sc__law_rule.nd rfl (by walk_at "LOC") (fe_op op_addX o_add (fb_var (i := 5) rfl (by walk_at "VIS")) (fb_of (fe_call (cal__law_pick T) hr (by decide) rfl (fa_cons (fe_op op_fdiv o_fdiv (fb_var (i := 1) rfl (by walk_at "VIS")) (fb_of fe_int)) (fa_cons fe_str (fa_cons fe_str fa_nil)))))))
    fss_nil)) (by decide))
      (fss_to fss_nil (by decide)))
    (fss_cons (fs_if (O' := []) (ft_w (fw_and (ft_cmp (op_inX (u65 hr)) o_in (fb_var (i := 3) rfl (by walk_at "VIS")) (fb_of (fe_of_fn (fn_lst (fa_cst (by kernel_rfl))))) (by with_unfolding_all rfl)) (fw_and1 (ft_cmp (op_eqX (u64 hr)) o_eq (fb_of (fe_op op_mod o_mod (fb_of (fe_callTy call_int1 l_int rfl T.z_int (by decide +kernel) (fba_cons (fb_of (fe_op op_fdiv o_fdiv (fb_var (i := 1) rfl (by walk_at "VIS")) (fb_of fe_int))) fba_nil))) (fb_of fe_int))) (fb_of fe_int) (nomark _)))))
      (fss_to (fss_cons (fs_set (i := 5) sc__law_rule.nd rfl (by walk_at "LOC") (fe_op op_addX o_add (fb_var (i := 5) rfl (by walk_at "VIS")) (fb_of (fe_of_fn (fn_lst (fa_cons fe_str fa_nil))))))
    fss_nil) (by decide))
      (fss_to fss_nil (by decide)))
    (fss_cons (fs_set (i := 5) sc__law_rule.nd rfl (by walk_at "LOC") (fe_op op_addX o_add (fb_var (i := 5) rfl (by walk_at "VIS")) (fb_of (fe_call (cal__law_pick T) hr (by decide) rfl (fa_cons (fe_op op_fdiv o_fdiv (fb_var (i := 1) rfl (by walk_at "VIS")) (fb_of fe_int)) (fa_cons fe_str (fa_cons fe_str fa_nil)))))))
    (fss_forget [1] (fss_cons (fs_ret (fe_tup (fa_cons (fe_var (i := 3) rfl (by walk_at "VIS") (by decide)) (fa_cons (fe_callTy call_tuple_of l_tup rfl T.z_tuple (by decide +kernel) (fba_cons (fb_var (i := 4) rfl (by walk_at "VIS")) fba_nil)) (fa_cons (fe_callTy call_tuple_of l_tup rfl T.z_tuple (by decide +kernel) (fba_cons (fb_var (i := 5) rfl (by walk_at "VIS")) fba_nil)) fa_nil)))))
    fss_nil))))))))))))))))
theorem cal__law_wish (T : TX P w K mg) : CalK P w K mg base 1 "_law_wish" false 1 m__law_wish := calK_of (ps := ["_law_draw"]) (N := N__law_wish) (T.d__law_wish) T.g__law_wish sc__law_wish rfl rfl (fun _ _ _ _ _ _ us hl => match us, hl with | [_], _ => rfl) [] (fun cdv A outer s H E hr =>
    (fss_cons (fs_set (i := 1) sc__law_wish.nd rfl (by walk_at "LOC") (fe_of_fn (fn_lst (fa_cst (by kernel_rfl)))))
    (fss_cons (fs_to (fs_setLcIf (i := 2) (own := [("_law_k", 3)]) (tgs := [3]) rfl sc__law_wish.nd rfl rfl (by with_unfolding_all rfl) (blkOk_by (N := N__law_wish) (sc := defScope s__law_wish) (own := [("_law_k", 3)]) (by decide +kernel)) (fib_of (fi_rng1 rfl T.z_range (fa_cons fe_int fa_nil))) (fun _ _ _ _ _ => (fg_name (i := 3) sc__law_wish.nd rfl (by walk_at "LOC"))) (fun _ _ _ _ _ => (ft_cmp (op_eqX (u64 hr)) o_eq (fb_of (fe_op op_mod o_mod (fb_of (fe_callTy call_int1 l_int rfl T.z_int (by decide +kernel) (fba_cons (fb_of (fe_op op_fdiv o_fdiv (fb_var (i := 0) rfl (by walk_at "VIS")) (fb_of (fe_ix ix_seq o_ix (fb_of (fe_of_fn (fn_lst (fa_cst (by kernel_rfl))))) (fb_var (i := 3) rfl (by walk_at "VIS")) (fun _ _ => rfl))))) fba_nil))) (fb_of fe_int))) (fb_of fe_int) (nomark _))) (fun _ _ _ _ _ => (fe_ix ix_seq o_ix (fb_var (i := 1) rfl (by walk_at "VIS")) (fb_var (i := 3) rfl (by walk_at "VIS")) (fun _ _ => rfl))) (by decide)) (O' := []) (by decide))
    (fss_forget [1] (fss_cons (fs_if (O' := []) (ft_cmp (op_eqX (u64 hr)) o_eq (fb_of (fe_op op_mod o_mod (fb_of (fe_callTy call_int1 l_int rfl T.z_int (by decide +kernel) (fba_cons (fb_of (fe_op op_fdiv o_fdiv (fb_var (i := 0) rfl (by walk_at "VIS")) (fb_of fe_int))) fba_nil))) (fb_of fe_int))) (fb_of fe_int) (nomark _))
      (fss_cons (fs_ret (fe_of_fn (fn_rev (fb_var (i := 2) rfl (by walk_at "VIS")))))
    fss_nil)
      (fss_to fss_nil (by decide)))
    (fss_forget [0] (fss_cons (fs_ret (fe_var (i := 2) rfl (by walk_at "VIS") (by decide)))
    fss_nil)))))))
theorem cal__law_is_same' (T : TX P w K mg) : ∀ n : Nat, CalK P w K mg base (1 + n) "_law_is_same" false 2 (m__law_is_same n)
  | 0 => calK_zero (ps := ["_law_got", "_law_due"]) T.d__law_is_same T.g__law_is_same (fun _ _ _ _ _ _ us hl => match us, hl with | [_, _], _ => rfl)
  | n + 1 => by
    have ih := cal__law_is_same' T n
    exact calK_of (ps := ["_law_got", "_law_due"]) (N := N__law_is_same) (T.d__law_is_same) T.g__law_is_same sc__law_is_same rfl rfl (fun _ _ _ _ _ _ us hl => match us, hl with | [_, _], _ => rfl) [] (fun cdv A outer s H E hr =>
    (fss_cons (fs_if (O' := []) (ft_w (fw_or (ft_val (fe_isi (T := "tuple") (by decide) rfl T.z_isinstance (by decide +kernel) rfl T.z_tuple (by decide +kernel) (fb_var (i := 1) rfl (by walk_at "VIS")))) (fw_or1 (ft_val (fe_isi (T := "list") (by decide) rfl T.z_isinstance (by decide +kernel) rfl T.z_list (by decide +kernel) (fb_var (i := 1) rfl (by walk_at "VIS")))))))
      (fss_cons (fs_if (O' := []) (ft_w (fw_and (ft_val (fe_isi (T := "tuple") (by decide) rfl T.z_isinstance (by decide +kernel) rfl T.z_tuple (by decide +kernel) (fb_var (i := 1) rfl (by walk_at "VIS")))) (fw_and1 (ft_not (ft_val (fe_isi (T := "tuple") (by decide) rfl T.z_isinstance (by decide +kernel) rfl T.z_tuple (by decide +kernel) (fb_var (i := 0) rfl (by walk_at "VIS"))))))))
      (fss_cons (fs_ret fe_bl)
    fss_nil)
      (fss_to fss_nil (by decide)))
    (fss_cons (fs_if (O' := []) (ft_w (fw_and (ft_val (fe_isi (T := "list") (by decide) rfl T.z_isinstance (by decide +kernel) rfl T.z_list (by decide +kernel) (fb_var (i := 1) rfl (by walk_at "VIS")))) (fw_and1 (ft_not (ft_val (fe_isi (T := "list") (by decide) rfl T.z_isinstance (by decide +kernel) rfl T.z_list (by decide +kernel) (fb_var (i := 0) rfl (by walk_at "VIS"))))))))
      (fss_cons (fs_ret fe_bl)
    fss_nil)
      (fss_to fss_nil (by decide)))
    (fss_cons (fs_if (O' := []) (ft_cmp (op_neX (u64 hr)) o_ne (fb_of (fe_callB c_len l_len rfl T.z_len (by decide +kernel) (fba_cons (fb_var (i := 0) rfl (by walk_at "VIS")) fba_nil))) (fb_of (fe_callB c_len l_len rfl T.z_len (by decide +kernel) (fba_cons (fb_var (i := 1) rfl (by walk_at "VIS")) fba_nil))) (nomark _))
      (fss_cons (fs_ret fe_bl)
    fss_nil)
      (fss_to fss_nil (by decide)))
    (fss_cons (fs_for PassesOwn.never rfl (fi_rng1 rfl T.z_range (fa_cons (fe_callB c_len l_len rfl T.z_len (by decide +kernel) (fba_cons (fb_var (i := 1) rfl (by walk_at "VIS")) fba_nil)) fa_nil)) (fg_name (i := 2) sc__law_is_same.nd rfl (by walk_at "LOC"))
      (fss_to (fss_cons (fs_if (O' := []) (ft_not (ft_val (fe_call ih hr (Nat.le_refl _) rfl (fa_cons (fe_ix ix_seq o_ix (fb_var (i := 0) rfl (by walk_at "VIS")) (fb_var (i := 2) rfl (by walk_at "VIS")) (fun _ _ => rfl)) (fa_cons (fe_ix ix_seq o_ix (fb_var (i := 1) rfl (by walk_at "VIS")) (fb_var (i := 2) rfl (by walk_at "VIS")) (fun _ _ => rfl)) fa_nil)))))
      (fss_cons (fs_ret fe_bl)
    fss_nil)
      (fss_to fss_nil (by decide)))
    fss_nil) (by decide)))
    (fss_cons (fs_ret fe_bl)
    fss_nil)))))
      (fss_to fss_nil (by decide)))
    (fss_forget [2] (fss_cons (fs_if (O' := []) (ft_cmp op_isX o_is (fb_var (i := 1) rfl (by walk_at "VIS")) (fb_of fe_non) (nomark _))
      (fss_cons (fs_ret (fe_cmp op_isX o_is (fb_var (i := 0) rfl (by walk_at "VIS")) (fb_of fe_non) (nomark _)))
    fss_nil)
      (fss_to fss_nil (by decide)))
    (fss_cons (fs_if (O' := []) (ft_val (fe_isi (T := "bool") (by decide) rfl T.z_isinstance (by decide +kernel) rfl T.z_bool (by decide +kernel) (fb_var (i := 1) rfl (by walk_at "VIS"))))
      (fss_cons (fs_ret (fe_and (fe_isi (T := "bool") (by decide) rfl T.z_isinstance (by decide +kernel) rfl T.z_bool (by decide +kernel) (fb_var (i := 0) rfl (by walk_at "VIS"))) (fe_one (fe_cmp (op_eqX (u64 hr)) o_eq (fb_var (i := 0) rfl (by walk_at "VIS")) (fb_var (i := 1) rfl (by walk_at "VIS")) (nomark _)))))
    fss_nil)
      (fss_to fss_nil (by decide)))
    (fss_cons (fs_if (O' := []) (ft_val (fe_isi (T := "int") (by decide) rfl T.z_isinstance (by decide +kernel) rfl T.z_int (by decide +kernel) (fb_var (i := 1) rfl (by walk_at "VIS"))))
      (fss_cons (fs_ret (fe_and (fe_isi (T := "int") (by decide) rfl T.z_isinstance (by decide +kernel) rfl T.z_int (by decide +kernel) (fb_var (i := 0) rfl (by walk_at "VIS"))) (fe_and (fe_not (fe_isi (T := "bool") (by decide) rfl T.z_isinstance (by decide +kernel) rfl T.z_bool (by decide +kernel) (fb_var (i := 0) rfl (by walk_at "VIS")))) (fe_one (fe_cmp (op_eqX (u64 hr)) o_eq (fb_var (i := 0) rfl (by walk_at "VIS")) (fb_var (i := 1) rfl (by walk_at "VIS")) (nomark _))))))
    fss_nil)
      (fss_to fss_nil (by decide)))
    (fss_cons (fs_ret (fe_and (fe_isi (T := "str") (by decide) rfl T.z_isinstance (by decide +kernel) rfl T.z_str (by decide +kernel) (fb_var (i := 0) rfl (by walk_at "VIS"))) (fe_one (fe_cmp (op_eqX (u64 hr)) o_eq (fb_var (i := 0) rfl (by walk_at "VIS")) (fb_var (i := 1) rfl (by walk_at "VIS")) (nomark _)))))
    fss_nil)))))))
theorem cal__law_is_same (T : TX P w K mg) : CalK P w K mg base 7 "_law_is_same" false 2 (m__law_is_same 6) := cal__law_is_same' T 6
theorem cal__law_parsing (T : TX P w K mg) : CalK P w K mg base 6 "_law_parsing" false 1 m__law_parsing := calK_of (ps := ["_law_lines"]) (N := N__law_parsing) (T.d__law_parsing) T.g__law_parsing sc__law_parsing rfl rfl (fun _ _ _ _ _ _ us hl => match us, hl with | [_], _ => rfl) [] (fun cdv A outer s H E hr =>
    (fss_cons (fs_try rfl rfl sc__law_parsing.nd rfl rfl ⟨rfl, by decide +kernel, .inl T.gx_StandInError⟩ T.xm_BadCheck_StandInError (O' := []) (by decide) (fss_cons (fs_set (i := 1) sc__law_parsing.nd rfl (by walk_at "LOC") (fe_clm (cal_Book_parsed T) hr (by decide) rfl (fa_cons (fe_var (i := 0) rfl (by walk_at "VIS") (by decide)) fa_nil)))
    fss_nil)
      (fun W pn xe tk => (fxs_hd (fx_asg (i := 1) sc__law_parsing.nd rfl (by walk_at "LOC") (fex_clm (calx_Book_parsed T) hr (by decide) rfl tk (fa_cons (fe_var (i := 0) rfl (by walk_at "VIS") (by decide)) fa_nil)))))
      (fun xd => (fshs_ret (feh_lst (fah_cons (feh_isi (i := 2) rfl (by walk_at "VIS") T.ec_BadCheck.1 rfl T.z_isinstance (by decide +kernel) (fun _ _ _ => pe_glob rfl T.gx_BadCheck (v := .ref (He.ga K "BadCheck")) rfl) (fun u h => h) T.xk_BadCheck_BadCheck) (fah_cons (feh_fld (i := 2) rfl (by walk_at "VIS") T.ec_BadCheck.2 T.x_BadCheck.noF rfl) fah_nil))))))
    (fss_forget [0] (fss_cons (fs_ret (fe_of_fn (fn_lc (own := [("_law_rule_here", 3)]) (tgs := [3]) rfl sc__law_parsing.nd (blkOk_by (N := N__law_parsing) (sc := defScope s__law_parsing) (own := [("_law_rule_here", 3)]) (by decide +kernel)) (fib_of (fi_own (cal_Book___iter__ T) hr (by decide) (fe_var (i := 1) rfl (by walk_at "VIS") (by decide)))) (fun _ _ _ _ _ => (fg_name (i := 3) sc__law_parsing.nd rfl (by walk_at "LOC"))) (fun _ _ _ _ _ => (fe_var (i := 3) rfl (by walk_at "VIS") (by decide))) (by decide))))
    fss_nil))))
theorem ok_law (T : TX P w K mg) {fd : FuncData} (F : FunD K "law" "law" (defArgs s_law) (defBody s_law) (defScope s_law) [] [] (He.ga K "law") fd) : FnOk P w K mg base CX0 8 (He.ga K "law") fd ["_law_script"] (spF K false 1 m_law) :=
  fnOk_of (N := N_law) F sc_law rfl rfl [] (fun cdv A outer s H E hr =>
    (fss_cons (fs_set (i := 1) sc_law.nd rfl (by walk_at "LOC") (fe_op op_mod o_mod (fb_of (fe_call (cal__law_cell T) hr (by decide) rfl (fa_cons (fe_var (i := 0) rfl (by walk_at "VIS") (by decide)) (fa_cons fe_int fa_nil)))) (fb_of fe_int)))
    (fss_cons (fs_set (i := 2) sc_law.nd rfl (by walk_at "LOC") (fe_call (cal__law_draws T) hr (by decide) rfl (fa_cons (fe_call (cal__law_cell T) hr (by decide) rfl (fa_cons (fe_var (i := 0) rfl (by walk_at "VIS") (by decide)) (fa_cons fe_int fa_nil))) (fa_cons (fe_op op_addX o_add (fb_of (fe_op op_mul o_mul (fb_of fe_int) (fb_var (i := 1) rfl (by walk_at "VIS")))) (fb_of fe_int)) fa_nil))))
    (fss_cons (fs_setNew (i := 3) sc_law.nd rfl (by walk_at "LOC") (fn_lst fa_nil))
    (fss_cons (fs_setNew (i := 4) sc_law.nd rfl (by walk_at "LOC") (fn_lst fa_nil))
    (fss_cons (fs_for PassesOwn.never rfl (fi_rng1 rfl T.z_range (fa_cons (fe_var (i := 1) rfl (by walk_at "VIS") (by decide)) fa_nil)) (fg_name (i := 5) sc_law.nd rfl (by walk_at "LOC"))
      (fss_to (fss_cons (fs_set (i := 6) sc_law.nd rfl (by walk_at "LOC") (fe_call (cal__law_rule T) hr (by decide) rfl (fa_cons (fe_ix ix_seq o_ix (fb_var (i := 2) rfl (by walk_at "VIS")) (fb_of (fe_op op_mul o_mul (fb_of fe_int) (fb_var (i := 5) rfl (by walk_at "VIS")))) (fun _ _ => rfl)) (fa_cons (fe_ix ix_seq o_ix (fb_var (i := 2) rfl (by walk_at "VIS")) (fb_of (fe_op op_addX o_add (fb_of (fe_op op_mul o_mul (fb_of fe_int) (fb_var (i := 5) rfl (by walk_at "VIS")))) (fb_of fe_int))) (fun _ _ => rfl)) fa_nil))))
    (fss_cons (fs_set (i := 7) sc_law.nd rfl (by walk_at "LOC") (fe_of_fn (fn_callTy call_list_of l_list rfl T.z_list (by decide +kernel) (fba_cons (fb_of (fe_ix ix_seq o_ix (fb_var (i := 6) rfl (by walk_at "VIS")) (fb_of fe_int) (fun _ _ => rfl))) fba_nil))))
    (fss_cons (fs_if (O' := [3, 4]) (ft_cmp (op_eqX (u64 hr)) o_eq (fb_of (fe_op op_mod o_mod (fb_of (fe_callTy call_int1 l_int rfl T.z_int (by decide +kernel) (fba_cons (fb_of (fe_ix ix_seq o_ix (fb_var (i := 2) rfl (by walk_at "VIS")) (fb_of (fe_op op_mul o_mul (fb_of fe_int) (fb_var (i := 5) rfl (by walk_at "VIS")))) (fun _ _ => rfl))) fba_nil))) (fb_of fe_int))) (fb_of fe_int) (nomark _))
      (fss_to (fss_cons (fs_set (i := 7) sc_law.nd rfl (by walk_at "LOC") (fe_of_fn (fn_rev (fb_var (i := 7) rfl (by walk_at "VIS")))))
    fss_nil) (by decide))
      (fss_to fss_nil (by decide)))
    (fss_cons (fs_mut (i := 4) rfl (by walk_at "VIS") (by decide) PySem.F.slot_list_append PySem.F.type_list_append mt_append r_append (fa_cons (fe_joined (fb_of fe_str) (fba_cons (fb_of (fe_op op_addX o_add (fb_of (fe_op op_addX o_add (fb_of (fe_op op_addX o_add (fb_of (fe_of_fn (fn_lst (fa_cons (fe_ix ix_seq o_ix (fb_var (i := 6) rfl (by walk_at "VIS")) (fb_of fe_int) (fun _ _ => rfl)) fa_nil)))) (fb_var (i := 7) rfl (by walk_at "VIS")))) (fb_of (fe_of_fn (fn_lst (fa_cons fe_str fa_nil)))))) (fb_of (fe_of_fn (fn_callTy call_list_of l_list rfl T.z_list (by decide +kernel) (fba_cons (fb_of (fe_ix ix_seq o_ix (fb_var (i := 6) rfl (by walk_at "VIS")) (fb_of fe_int) (fun _ _ => rfl))) fba_nil)))))) fba_nil)) fa_nil))
    (fss_cons (fs_if (O' := [3, 4]) (ft_cmp (op_ninX (u65 hr)) o_nin (fb_var (i := 6) rfl (by walk_at "VIS")) (fb_var (i := 3) rfl (by walk_at "VIS")) (by with_unfolding_all rfl))
      (fss_to (fss_cons (fs_mut (i := 3) rfl (by walk_at "VIS") (by decide) PySem.F.slot_list_append PySem.F.type_list_append mt_append r_append (fa_cons (fe_var (i := 6) rfl (by walk_at "VIS") (by decide)) fa_nil))
    fss_nil) (by decide))
      (fss_to fss_nil (by decide)))
    fss_nil))))) (by decide)))
    (fss_forget [5, 7] (fss_cons (fs_set (i := 8) sc_law.nd rfl (by walk_at "LOC") (fe_of_fn (fn_callTy call_list_of l_list rfl T.z_list (by decide +kernel) (fba_cons (fb_var (i := 4) rfl (by walk_at "VIS")) fba_nil))))
    (fss_cons (fs_if (O' := [3, 4]) (ft_own (L := []) (ft_w (fw_or (ft_not (ft_val (fe_call (cal__law_is_same T) hr (by decide) rfl (fa_cons (fe_call (cal__law_parsing T) hr (by decide) rfl (fa_cons (fe_var (i := 8) rfl (by walk_at "VIS") (by decide)) fa_nil)) (fa_cons (fe_var (i := 3) rfl (by walk_at "VIS") (by decide)) fa_nil))))) (fw_or1 (ft_cmp (op_neX (u64 hr)) o_ne (fb_var (i := 8) rfl (by walk_at "VIS")) (fb_var (i := 4) rfl (by walk_at "VIS")) (nomark _))))) (by decide))
      (fss_cons (fs_ret fe_bl)
    fss_nil)
      (fss_to fss_nil (by decide)))
    (fss_forget [3, 8] (fss_cons (fs_if (O' := [3, 4]) (ft_w (fw_and (ft_cmp op_gt o_gt (fb_var (i := 1) rfl (by walk_at "VIS")) (fb_of fe_int) (nomark _)) (fw_and1 (ft_cmp (op_eqX (u64 hr)) o_eq (fb_of (fe_op op_mod o_mod (fb_of (fe_callTy call_int1 l_int rfl T.z_int (by decide +kernel) (fba_cons (fb_of (fe_ix ix_seq o_ix (fb_var (i := 2) rfl (by walk_at "VIS")) (fb_of (fe_op op_mul o_mul (fb_of fe_int) (fb_var (i := 1) rfl (by walk_at "VIS")))) (fun _ _ => rfl))) fba_nil))) (fb_of fe_int))) (fb_of fe_int) (nomark _)))))
      (fss_to (fss_cons (fs_set (i := 9) sc_law.nd rfl (by walk_at "LOC") (fe_op op_mod o_mod (fb_of (fe_callTy call_int1 l_int rfl T.z_int (by decide +kernel) (fba_cons (fb_of (fe_ix ix_seq o_ix (fb_var (i := 2) rfl (by walk_at "VIS")) (fb_of (fe_op op_addX o_add (fb_of (fe_op op_mul o_mul (fb_of fe_int) (fb_var (i := 1) rfl (by walk_at "VIS")))) (fb_of fe_int))) (fun _ _ => rfl))) fba_nil))) (fb_var (i := 1) rfl (by walk_at "VIS"))))
    (fss_cons (fs_set (i := 10) sc_law.nd rfl (by walk_at "LOC") (fe_ix ix_seq o_ix (fb_of (fe_of_fn (fn_lst (fa_tok op_addX o_add (fb_of (fe_ix ix_seq o_ix (fb_var (i := 4) rfl (by walk_at "VIS")) (fb_var (i := 9) rfl (by walk_at "VIS")) (fun _ _ => rfl))) (fat_rep (fe_ix ix_seq o_ix (fb_var (i := 4) rfl (by walk_at "VIS")) (fb_var (i := 9) rfl (by walk_at "VIS")) (fun _ _ => rfl)) (fat_of (fa_cons fe_str fa_nil))))))) (fb_of (fe_op op_mod o_mod (fb_of (fe_callTy call_int1 l_int rfl T.z_int (by decide +kernel) (fba_cons (fb_of (fe_ix ix_seq o_ix (fb_var (i := 2) rfl (by walk_at "VIS")) (fb_of (fe_op op_addX o_add (fb_of (fe_op op_mul o_mul (fb_of fe_int) (fb_var (i := 1) rfl (by walk_at "VIS")))) (fb_of fe_int))) (fun _ _ => rfl))) fba_nil))) (fb_of fe_int))) (fun _ _ => rfl)))
    (fss_cons (fs_put (i := 4) rfl (by walk_at "VIS") (by decide) (fe_var (i := 10) rfl (by walk_at "VIS") (by decide)) (fe_var (i := 9) rfl (by walk_at "VIS") (by decide)))
    (fss_cons (fs_if (O' := [3, 4]) (ft_own (L := []) (ft_not (ft_val (fe_call (cal__law_is_same T) hr (by decide) rfl (fa_cons (fe_call (cal__law_parsing T) hr (by decide) rfl (fa_cons (fe_var (i := 4) rfl (by walk_at "VIS") (by decide)) fa_nil)) (fa_cons (fe_of_fn (fn_lst (fa_cons fe_bl (fa_cons (fe_var (i := 10) rfl (by walk_at "VIS") (by decide)) fa_nil)))) fa_nil))))) (by decide))
      (fss_cons (fs_ret fe_bl)
    fss_nil)
      (fss_to fss_nil (by decide)))
    fss_nil)))) (by decide))
      (fss_to fss_nil (by decide)))
    (fss_forget [1, 2, 4, 9, 10] (fss_cons (fs_to (fs_setLc (i := 11) (own := [("_law_rule_here", 6)]) (tgs := [6]) rfl sc_law.nd rfl rfl (by with_unfolding_all rfl) (blkOk_by (N := N_law) (sc := defScope s_law) (own := [("_law_rule_here", 6)]) (by decide +kernel)) (fib_of (fi_own (cal_Book___iter__ T) hr (by decide) (fe_sfn (cal_Book_freest T) hr (by decide) rfl (fa_cons (fe_call (cal__law_wish T) hr (by decide) rfl (fa_cons (fe_call (cal__law_cell T) hr (by decide) rfl (fa_cons (fe_var (i := 0) rfl (by walk_at "VIS") (by decide)) (fa_cons fe_int fa_nil))) fa_nil)) fa_nil)))) (fun _ _ _ _ _ => (fg_name (i := 6) sc_law.nd rfl (by walk_at "LOC"))) (fun _ _ _ _ _ => (fe_var (i := 6) rfl (by walk_at "VIS") (by decide))) (by decide)) (O' := [3, 4]) (by decide))
    (fss_forget [0] (fss_cons (fs_for PassesOwn.never rfl (fi_list (fe_var (i := 11) rfl (by walk_at "VIS") (by decide))) (fg_name (i := 6) sc_law.nd rfl (by walk_at "LOC"))
      (fss_to (fss_cons (fs_if (O' := [3, 4]) (ft_not (ft_val (fe_call (cal__law_is_same T) hr (by decide) rfl (fa_cons (fe_call (cal_parse_check T) hr (by decide) rfl (fa_cons (fe_call (cal_format_check T) hr (by decide) rfl (fa_cons (fe_var (i := 6) rfl (by walk_at "VIS") (by decide)) fa_nil)) fa_nil)) (fa_cons (fe_var (i := 6) rfl (by walk_at "VIS") (by decide)) fa_nil)))))
      (fss_cons (fs_ret fe_bl)
    fss_nil)
      (fss_to fss_nil (by decide)))
    fss_nil) (by decide)))
    (fss_forget [6] (fss_cons (fs_ret (fe_cmp op_le o_le (fb_of (fe_callB c_len l_len rfl T.z_len (by decide +kernel) (fba_cons (fb_var (i := 11) rfl (by walk_at "VIS")) fba_nil))) (fb_of fe_int) (nomark _)))
    fss_nil)))))))))))))))))
end
end LW
namespace LW
open PySem FL
theorem and_v {A B : FL.Env → Option Bool} {ρ : FL.Env} {b c : Bool} (h1 : A ρ = some b) (h2 : B ρ = some c) : tAnd A B ρ = some (b && c) := by
  unfold tAnd
  rw [h1]
  cases b
  · rfl
  · exact h2
theorem lt_v {F G : FL.Env → Option D} {ρ : FL.Env} {i j : Int} (h : F ρ = some (.int i)) (h2 : G ρ = some (.int j)) : tB blD (e2 ltD F G) ρ = some (decide (i < j)) := tB_val (e2_val h h2 rfl) rfl
theorem add_strs {F G : FL.Env → Option D} {ρ : FL.Env} {xs ys : List Str} (h1 : F ρ = some (.lst (Strs xs))) (h2 : G ρ = some (.lst (Strs ys))) (hl : xs.length + ys.length < 1000) : e2 addD F G ρ = some (.lst (Strs (xs ++ ys))) := by
  refine e2_val h1 h2 ?_
  show (if (Strs xs).length + (Strs ys).length ≤ sizeLine then some (D.lst (Strs xs ++ Strs ys)) else none) = _
  rw [if_pos (by rw [List.length_map, List.length_map, PySem.sizeLine_eq]; omega)]
  show _ = some (D.lst ((xs ++ ys).map D.str))
  rw [List.map_append]
theorem tup_strs {F : FL.Env → Option D} {ρ : FL.Env} {xs : List Str} (h : F ρ = some (.lst (Strs xs))) : eL tupOf (aCons F aNil) ρ = some (.tup (Strs xs)) := eL_val (aCons_val h rfl) rfl
def GvP (P : D → Prop) (G : FL.Env → Option Out) (ρ : FL.Env) : Prop := ∃ d, G ρ = some (.rt d) ∧ P d
section
variable {P : D → Prop}
variable {A B G : FL.Env → Option Out} {F : FL.Env → Option D} {C : FL.Env → Option Bool} {ρ ρ' : FL.Env} {d : D} {i : Nat}
theorem gv_set (h : F ρ = some d) (k : GvP P G (ρ.set i (some d))) : GvP P (sSeq (sSet i F) G) ρ := let ⟨o, h1, h2⟩ := k; ⟨o, seq_set h h1, h2⟩
theorem gv_fg {vs : List Nat} (k : GvP P G (wipeE ρ vs)) : GvP P (sForget vs G) ρ := let ⟨o, h1, h2⟩ := k; ⟨o, seq_fg h1, h2⟩
theorem gv_seq {I : FL.Env → Prop} (h : ∃ ρ', A ρ = some (.nx ρ') ∧ I ρ') (k : ∀ ρ', I ρ' → GvP P G ρ') : GvP P (sSeq A G) ρ := by
  obtain ⟨ρ', h1, h2⟩ := h
  obtain ⟨o, h3, h4⟩ := k ρ' h2
  refine ⟨o, ?_, h4⟩
  unfold sSeq
  rw [h1]
  exact h3
theorem nx_if {I : FL.Env → Prop} {b : Bool} (h : C ρ = some b) (k1 : b = true → ∃ ρ', A ρ = some (.nx ρ') ∧ I ρ') (k2 : b = false → ∃ ρ', B ρ = some (.nx ρ') ∧ I ρ') : ∃ ρ', sIf C A B ρ = some (.nx ρ') ∧ I ρ' := by
  unfold sIf
  rw [h]
  cases b
  · exact k2 rfl
  · exact k1 rfl
theorem nx_set {I : FL.Env → Prop} (h : F ρ = some d) (k : ∃ ρ', G (ρ.set i (some d)) = some (.nx ρ') ∧ I ρ') : ∃ ρ', sSeq (sSet i F) G ρ = some (.nx ρ') ∧ I ρ' := let ⟨o, h1, h2⟩ := k; ⟨o, seq_set h h1, h2⟩
end
def rlE (x0 : Option D) (q : Int) (K : Str) (c b : List Str) : FL.Env := [x0, some (.int q), none, some (.str K), some (.lst (Strs c)), some (.lst (Strs b))]
theorem pick_v {F : FL.Env → Option D} {ρ : FL.Env} {z : Int} {x y : Str} {zs : List Str} (h : F ρ = some (.int z)) (k : m__law_pick [.int z, .str x, .str y] = some (.lst (Strs zs))) : eL (mL 3 m__law_pick) (aCons F (aCons (eC (.str x)) (aCons (eC (.str y)) aNil))) ρ = some (.lst (Strs zs)) :=
  eL_val (ds := [.int z, .str x, .str y]) (aCons_val h rfl) (mL_val rfl k)
/-! ### words -/
def W : List Str := ["done", "not", "gone", "there", "changes", "firm", "goes", "stays", "other", "shut", "open"]
def kinds : List Str := ["look", "has", "get", "set", "define", "take", "names", "shut", "isshut"]
theorem inS_iff {M : Str} {zs : List Str} : inS M zs = true ↔ M ∈ zs := by
  unfold inS Strs
  rw [List.any_map, List.any_eq_true]
  constructor
  · rintro ⟨z, h1, h2⟩
    have : z = M := beq_iff_eq.mp h2
    rw [← this]; exact h1
  · intro h
    exact ⟨M, h, beq_self_eq_true M⟩
def ndS : List Str → Bool
  | [] => true
  | z :: zs => !inS z zs && ndS zs
theorem ndS_ok : ∀ {zs : List Str}, ndS zs = true → zs.Nodup
  | [], _ => List.nodup_nil
  | z :: zs, h => by
    unfold ndS at h
    rw [Bool.and_eq_true] at h
    refine List.nodup_cons.mpr ⟨fun m => ?_, ndS_ok h.2⟩
    rw [inS_iff.mpr m] at h
    cases h.1
theorem W_nd : W.Nodup := ndS_ok (by kernel_rfl)
theorem filter_sub {p : Str → Bool} : ∀ {a V : List Str}, a.Sublist V → V.Nodup → (∀ w ∈ V, p w = true ↔ w ∈ a) → V.filter p = a
  | _, _, .slnil, _, _ => rfl
  | _, _, .cons x (l₁ := a) (l₂ := V) h, n, hp => by
    have n' := List.nodup_cons.mp n
    have hx : p x = false := by
      cases hh : p x with
      | false => rfl
      | true => exact absurd (h.subset ((hp x (.head _)).mp hh)) n'.1
    rw [List.filter_cons, hx, if_neg (by decide)]
    exact filter_sub h n'.2 fun w hw => hp w (.tail _ hw)
  | _, _, .cons₂ x (l₁ := a) (l₂ := V) h, n, hp => by
    have n' := List.nodup_cons.mp n
    have hx : p x = true := (hp x (.head _)).mpr (.head _)
    rw [List.filter_cons, if_pos hx]
    refine congrArg _ (filter_sub h n'.2 fun w hw => ?_)
    rw [hp w (.tail _ hw), List.mem_cons]
    refine ⟨fun z => ?_, Or.inr⟩
    rcases z with rfl | z
    · exact absurd hw n'.1
    · exact z
theorem sum_le : ∀ {zs : List Str}, (∀ z ∈ zs, z.length ≤ 10) → (zs.map fun z : Str => z.length).sum ≤ 10 * zs.length
  | [], _ => by simp
  | z :: zs, h => by
    have h1 := h z (.head _)
    have h2 := sum_le fun x hx => h x (.tail _ hx)
    simp only [List.map_cons, List.sum_cons, List.length_cons]
    omega
theorem strsD_v : ∀ zs : List Str, strsD (Strs zs) = some zs
  | [] => rfl
  | z :: zs => by
    show (match strsD (Strs zs) with | some ws => some (z :: ws) | none => none) = _
    rw [strsD_v zs]
theorem idx_v : ∀ {a b : List Str}, ("if" : Str) ∉ a → idxD (.str "if") (Strs (a ++ ("if" : Str) :: b)) = some a.length
  | [], b, _ => by
    show (if deq (.str "if") (.str "if") = true then some 0 else _) = _
    rw [if_pos (by kernel_rfl)]; rfl
  | w :: a, b, h => by
    have h1 : w ≠ "if" := fun e => h (by rw [e]; exact .head _)
    have h2 := idx_v (a := a) (b := b) fun m => h (.tail _ m)
    show (if deq (.str w) (.str "if") = true then some 0 else (match idxD (.str "if") (Strs (a ++ ("if" : Str) :: b)) with | some k => some (k + 1) | none => none)) = _
    rw [if_neg (show ¬ deq (.str w) (.str "if") = true from fun z => h1 (beq_iff_eq.mp z)), h2]
    rfl
theorem index_v {a b : List Str} (h : ("if" : Str) ∉ a) : indexD (.lst (Strs (a ++ ("if" : Str) :: b))) [.str "if"] = some (.int (a.length : Nat)) := by
  show (if (true && true) = true then (if (Strs (a ++ ("if" : Str) :: b)).all flatD = true then (match idxD (.str "if") (Strs (a ++ ("if" : Str) :: b)) with | some k => some (D.int (k : Nat)) | none => none) else none) else none) = _
  rw [if_pos (show (true && true) = true from rfl), if_pos (flat_strs _), idx_v h]
theorem cutn_to (xs : List D) (k : Nat) (h : k ≤ xs.length) : cutL xs none (some (k : Int)) = xs.take k := by
  unfold cutL
  rw [HT.sIx_none, HT.sIx_nat, List.drop_zero, Nat.min_eq_left h, Nat.sub_zero]
theorem cutn_from (xs : List D) (k : Nat) (h : k ≤ xs.length) : cutL xs (some (k : Int)) none = xs.drop k := by
  unfold cutL
  rw [HT.sIx_none, HT.sIx_nat, Nat.min_eq_left h]
  exact List.take_of_length_le (by rw [List.length_drop]; exact Nat.le_refl _)
/-! ### the rules -/
def c1W (K : Str) : List Str := if inS K ["set", "define", "take", "shut"] = true then ["done", "not"] else []
def c2W (K : Str) : List Str := if inS K ["look", "has", "get", "names"] = true then ["gone", "there"] else c1W K
def c3W (K : Str) : List Str := if inS K ["look", "define"] = true then c2W K ++ (["changes", "firm"] : List Str) ++ (["goes", "stays"] : List Str) else c2W K
def claimW (K : Str) : List Str := if sEq K "isshut" = true then ["shut", "open"] else c3W K
def b1W (K : Str) : List Str := if (!inS K ["shut", "isshut"]) = true then (["gone", "there"] : List Str) ++ (["changes", "firm"] : List Str) ++ (["goes", "stays"] : List Str) else []
def b2W (K : Str) : List Str := if inS K ["look", "get", "set", "define"] = true then b1W K ++ (["other"] : List Str) else b1W K
def behW (K : Str) : List Str := b2W K ++ (["shut", "open"] : List Str)
def IsR (r : Rl) : Prop := r.k ∈ kinds ∧ r.a.Sublist (claimW r.k) ∧ r.b.Sublist (behW r.k)
theorem pick_sub (z : Int) (x y : Str) : ∃ zs : List Str, m__law_pick [.int z, .str x, .str y] = some (.lst (Strs zs)) ∧ zs.Sublist [x, y] := by
  have go : ∀ zs : List Str, zs.Sublist [x, y] → (sSeq (sIf (tB blD (e2 ltD (eVar 3) (eC (.int 5))))
      (sSeq (sRet (eL lstD aNil))
    sNil)
      sNil)
    (sSeq (sIf (tB blD (e2 ltD (eVar 3) (eC (.int 9))))
      (sSeq (sRet (eL lstD (aCons (eVar 1) aNil)))
    sNil)
      sNil)
    (sSeq (sIf (tB blD (e2 ltD (eVar 3) (eC (.int 12))))
      (sSeq (sRet (eL lstD (aCons (eVar 2) aNil)))
    sNil)
      sNil)
    (sForget [3] (sSeq (sRet (eL lstD (aCons (eVar 1) (aCons (eVar 2) aNil))))
    sNil))))) [none, some (.str x), some (.str y), some (.int (z % 13))] = some (.rt (.lst (Strs zs))) → ∃ zs : List Str, m__law_pick [.int z, .str x, .str y] = some (.lst (Strs zs)) ∧ zs.Sublist [x, y] := fun zs hl h =>
    ⟨zs, runD_rt (seq_set (d := .int (z % 13)) (mod_v 13 (by decide) (int_v rfl)) (seq_fg h)), hl⟩
  by_cases h1 : z % 13 < 5
  · exact go [] (List.nil_sublist _) (seq_t ((lt_v rfl rfl).trans (congrArg some (decide_eq_true h1))) (seq_as (seq_ret (by kernel_rfl))))
  · by_cases h2 : z % 13 < 9
    · exact go [x] (.cons₂ _ (List.nil_sublist _)) (seq_f ((lt_v rfl rfl).trans (congrArg some (decide_eq_false h1))) (seq_nil (seq_t ((lt_v rfl rfl).trans (congrArg some (decide_eq_true h2))) (seq_as (seq_ret (by kernel_rfl))))))
    · by_cases h3 : z % 13 < 12
      · exact go [y] (.cons _ (.refl _)) (seq_f ((lt_v rfl rfl).trans (congrArg some (decide_eq_false h1))) (seq_nil (seq_f ((lt_v rfl rfl).trans (congrArg some (decide_eq_false h2))) (seq_nil (seq_t ((lt_v rfl rfl).trans (congrArg some (decide_eq_true h3))) (seq_as (seq_ret (by kernel_rfl))))))))
      · exact go [x, y] (.refl _) (seq_f ((lt_v rfl rfl).trans (congrArg some (decide_eq_false h1))) (seq_nil (seq_f ((lt_v rfl rfl).trans (congrArg some (decide_eq_false h2))) (seq_nil (seq_f ((lt_v rfl rfl).trans (congrArg some (decide_eq_false h3))) (seq_nil (seq_fg (seq_ret (by kernel_rfl)))))))))
def SbI (x0 : Option D) (q : Int) (K : Str) (C B : List Str) (ρ : FL.Env) : Prop := ∃ c b : List Str, c.Sublist C ∧ b.Sublist B ∧ ρ = rlE x0 q K c b
theorem cw_len (K : Str) : (claimW K).length ≤ 6 ∧ (c2W K).length ≤ 2 ∧ (c3W K).length ≤ 6 ∧ (b1W K).length ≤ 6 ∧ (b2W K).length ≤ 7 ∧ (behW K).length ≤ 9 := by
  have h1 : (c1W K).length ≤ 2 := by unfold c1W; split <;> simp
  have h2 : (c2W K).length ≤ 2 := by unfold c2W; split; simp; exact h1
  have h3 : (c3W K).length ≤ 6 := by unfold c3W; split; rw [List.length_append, List.length_append]; simp; omega; omega
  have h4 : (claimW K).length ≤ 6 := by unfold claimW; split; simp; exact h3
  have h5 : (b1W K).length ≤ 6 := by unfold b1W; split <;> simp
  have h6 : (b2W K).length ≤ 7 := by unfold b2W; split; rw [List.length_append]; simp; omega; omega
  have h7 : (behW K).length ≤ 9 := by unfold behW; rw [List.length_append]; simp; omega
  exact ⟨h4, h2, h3, h5, h6, h7⟩
theorem rule_sub (p q : Int) : ∃ d, m__law_rule [.int p, .int q] = some d ∧ ∃ r : Rl, d = encRl r ∧ IsR r := by
  have run : GvP (fun d => ∃ r : Rl, d = encRl r ∧ IsR r) G__law_rule (envOf 6 2 [.int p, .int q]) := by
    unfold G__law_rule
    refine gv_set (d := .lst (Strs kinds)) (by kernel_rfl) ?_
    obtain ⟨K, hK, oK⟩ : ∃ K, ixD (.lst (Strs kinds)) (.int (p % 9)) = some (.str K) ∧ K ∈ kinds := by
      have h1 := Int.emod_nonneg p (show (9 : Int) ≠ 0 by decide)
      have h2 := Int.emod_lt_of_pos p (show (0 : Int) < 9 by decide)
      obtain ⟨n, hn⟩ : ∃ n : Nat, p % 9 = (n : Int) := ⟨(p % 9).toNat, by omega⟩
      rw [hn] at h1 h2 ⊢
      have hk : n < kinds.length := by show n < 9; omega
      refine ⟨kinds[n], ?_, List.getElem_mem hk⟩
      show L2.atI (Strs kinds) (n : Int) = _
      exact atI_nat (by unfold Strs; rw [List.getElem?_map, List.getElem?_eq_getElem hk]; rfl)
    obtain ⟨l1, l2, l3, l4, l5, l6⟩ := cw_len K
    refine gv_set (d := .str K) (e2_val (x := .lst (Strs kinds)) (y := .int (p % 9)) rfl (mod_v 9 (by decide) (int_v rfl)) hK) (gv_fg ?_)
    refine gv_set (d := .lst (Strs [])) (by kernel_rfl) (gv_set (d := .lst (Strs [])) (by kernel_rfl) ?_)
    show GvP _ _ (rlE (some (.int p)) q K [] [])
    have isin : ∀ {x0 : Option D} {c b : List Str} (zs : List Str) {F : FL.Env → Option D}, F (rlE x0 q K c b) = some (.lst (Strs zs)) → tB blD (e2 inD (eVar 3) F) (rlE x0 q K c b) = some (inS K zs) := fun zs F h => tB_val (e2_val (x := .str K) (y := .lst (Strs zs)) rfl h (in_lst K zs)) rfl
    have notin : ∀ {x0 : Option D} {c b : List Str} (zs : List Str) {F : FL.Env → Option D}, F (rlE x0 q K c b) = some (.lst (Strs zs)) → tB blD (e2 ninD (eVar 3) F) (rlE x0 q K c b) = some (!inS K zs) := fun zs F h => tB_val (e2_val (x := .str K) (y := .lst (Strs zs)) rfl h (nin_lst K zs)) rfl
    refine gv_seq (I := SbI (some (.int p)) q K (c1W K) []) (nx_if (isin ["set", "define", "take", "shut"] (by kernel_rfl)) (fun h => ?_) (fun _ => ⟨_, rfl, [], [], List.nil_sublist _, .refl _, rfl⟩)) ?_
    · obtain ⟨zs, h1, h2⟩ := pick_sub (p / 9) "done" "not"
      exact nx_set (pick_v (fdiv_v 9 (by decide) rfl) h1) ⟨_, rfl, zs, [], by unfold c1W; rw [if_pos h]; exact h2, .refl _, rfl⟩
    rintro _ ⟨c, b, hc, hb, rfl⟩
    refine gv_seq (I := SbI (some (.int p)) q K (c2W K) []) (nx_if (isin ["look", "has", "get", "names"] (by kernel_rfl)) (fun h => ?_) (fun h => ⟨_, rfl, c, b, by unfold c2W; rw [h, if_neg (by decide)]; exact hc, hb, rfl⟩)) ?_
    · obtain ⟨zs, h1, h2⟩ := pick_sub (p / 9) "gone" "there"
      exact nx_set (pick_v (fdiv_v 9 (by decide) rfl) h1) ⟨_, rfl, zs, b, by unfold c2W; rw [if_pos h]; exact h2, hb, rfl⟩
    clear hc hb c b
    rintro _ ⟨c, b, hc, hb, rfl⟩
    refine gv_seq (I := SbI (some (.int p)) q K (c3W K) []) (nx_if (isin ["look", "define"] (by kernel_rfl)) (fun h => ?_) (fun h => ⟨_, rfl, c, b, by unfold c3W; rw [h, if_neg (by decide)]; exact hc, hb, rfl⟩)) ?_
    · obtain ⟨zs, h1, h2⟩ := pick_sub (p / 117) "changes" "firm"
      obtain ⟨ws, h3, h4⟩ := pick_sub (p / 1521) "goes" "stays"
      have hcl := hc.length_le
      have k2 := h2.length_le
      have k4 := h4.length_le
      simp only [List.length_cons, List.length_nil] at k2 k4
      refine nx_set (d := .lst (Strs (c ++ zs))) (add_strs rfl (pick_v (fdiv_v 117 (by decide) rfl) h1) (by omega)) (nx_set (d := .lst (Strs (c ++ zs ++ ws))) (add_strs rfl (pick_v (fdiv_v 1521 (by decide) rfl) h3) (by rw [List.length_append]; omega)) ⟨_, rfl, c ++ zs ++ ws, b, ?_, hb, rfl⟩)
      unfold c3W; rw [if_pos h]
      exact (hc.append h2).append h4
    clear hc hb c b
    rintro _ ⟨c, b, hc, hb, rfl⟩
    refine gv_seq (I := SbI (some (.int p)) q K (claimW K) []) (nx_if (b := sEq K "isshut") (tB_val (e2_val (x := .str K) (y := .str "isshut") rfl rfl (eq_str _ _)) rfl) (fun h => ?_) (fun h => ⟨_, rfl, c, b, by unfold claimW; rw [h, if_neg (by decide)]; exact hc, hb, rfl⟩)) ?_
    · obtain ⟨zs, h1, h2⟩ := pick_sub (p / 9) "shut" "open"
      exact nx_set (pick_v (fdiv_v 9 (by decide) rfl) h1) ⟨_, rfl, zs, b, by unfold claimW; rw [if_pos h]; exact h2, hb, rfl⟩
    clear hc hb c b
    rintro _ ⟨c, b, hc, hb, rfl⟩
    refine gv_fg ?_
    show GvP _ _ (rlE none q K c b)
    refine gv_seq (I := SbI none q K (claimW K) (b1W K)) (nx_if (notin ["shut", "isshut"] (by kernel_rfl)) (fun h => ?_) (fun h => ⟨_, rfl, c, b, hc, by unfold b1W; rw [h, if_neg (by decide)]; exact hb, rfl⟩)) ?_
    · obtain ⟨zs, h1, h2⟩ := pick_sub q "gone" "there"
      obtain ⟨ws, h3, h4⟩ := pick_sub (q / 13) "changes" "firm"
      obtain ⟨vs, h5, h6⟩ := pick_sub (q / 169) "goes" "stays"
      have k2 := h2.length_le
      have k4 := h4.length_le
      have k6 := h6.length_le
      simp only [List.length_cons, List.length_nil] at k2 k4 k6
      refine nx_set (d := .lst (Strs (zs ++ ws))) (add_strs (pick_v rfl h1) (pick_v (fdiv_v 13 (by decide) rfl) h3) (by omega)) (nx_set (d := .lst (Strs (zs ++ ws ++ vs))) (add_strs rfl (pick_v (fdiv_v 169 (by decide) rfl) h5) (by rw [List.length_append]; omega)) ⟨_, rfl, c, zs ++ ws ++ vs, hc, ?_, rfl⟩)
      unfold b1W; rw [if_pos h]
      exact (h2.append h4).append h6
    clear hc hb c b
    rintro _ ⟨c, b, hc, hb, rfl⟩
    have hbl := hb.length_le
    refine gv_seq (I := SbI none q K (claimW K) (b2W K)) (nx_if (b := inS K ["look", "get", "set", "define"] && (q / 2197 % 3 == 1)) (and_v (isin ["look", "get", "set", "define"] (by kernel_rfl)) (teq_v (mod_v 3 (by decide) (int_v (fdiv_v 2197 (by decide) rfl))) rfl)) (fun h => ?_) (fun _ => ⟨_, rfl, c, b, hc, ?_, rfl⟩)) ?_
    · rw [Bool.and_eq_true] at h
      refine nx_set (d := .lst (Strs (b ++ (["other"] : List Str)))) (add_strs rfl (by kernel_rfl) (by simp; omega)) ⟨_, rfl, c, b ++ (["other"] : List Str), hc, ?_, rfl⟩
      unfold b2W; rw [if_pos h.1]
      exact hb.append (.refl _)
    · unfold b2W
      split
      · exact hb.trans (List.sublist_append_left _ _)
      · exact hb
    clear hc hb hbl c b
    rintro _ ⟨c, b, hc, hb, rfl⟩
    have hbl := hb.length_le
    obtain ⟨zs, h1, h2⟩ := pick_sub (q / 6591) "shut" "open"
    have k2 := h2.length_le
    simp only [List.length_cons, List.length_nil] at k2
    refine gv_set (d := .lst (Strs (b ++ zs))) (add_strs rfl (pick_v (fdiv_v 6591 (by decide) rfl) h1) (by omega)) (gv_fg ?_)
    exact ⟨encRl ⟨K, c, b ++ zs⟩, seq_ret (eL_val (ds := [.str K, .tup (Strs c), .tup (Strs (b ++ zs))]) (aCons_val rfl (aCons_val (tup_strs rfl) (aCons_val (tup_strs rfl) rfl))) (by kernel_rfl)), ⟨K, c, b ++ zs⟩, rfl, oK, hc, hb.append h2⟩
  obtain ⟨d, h1, h2⟩ := run
  exact ⟨d, runD_rt h1, h2⟩
/-! ### what is known of a kind -/
def kindB (K : Str) : Bool := (claimW K).isSublist W && (behW K).isSublist W
theorem kindB_t : kinds.all kindB = true := by kernel_rfl
theorem kind_sub {K : Str} (h : K ∈ kinds) : (claimW K).Sublist W ∧ (behW K).Sublist W := by
  have := List.all_eq_true.mp kindB_t K h
  unfold kindB at this
  rw [Bool.and_eq_true] at this
  exact ⟨List.isSublist_iff_sublist.mp this.1, List.isSublist_iff_sublist.mp this.2⟩
theorem tb_t : (kinds.map fun K => tbGet tb_CLAIM_WORDS K) = kinds.map fun K => some (.tup (Strs (claimW K))) := by kernel_rfl
theorem tb_v {K : Str} (h : K ∈ kinds) : tbGet tb_CLAIM_WORDS K = some (.tup (Strs (claimW K))) := List.map_inj_left.mp tb_t K h
theorem bw_t : (kinds.map fun K => m_behind_words [.str K]) = kinds.map fun K => some (.tup (Strs (behW K))) := by kernel_rfl
theorem bw_v {K : Str} (h : K ∈ kinds) : m_behind_words [.str K] = some (.tup (Strs (behW K))) := List.map_inj_left.mp bw_t K h
theorem if_no : ("if" : Str) ∉ W := fun h => by
  have : inS "if" W = false := by kernel_rfl
  rw [inS_iff.mpr h] at this; cases this
/-! ### a check, written and read -/
theorem or_v {A B : FL.Env → Option Bool} {ρ : FL.Env} {b c : Bool} (h1 : A ρ = some b) (h2 : B ρ = some c) : tOr A B ρ = some (b || c) := by
  unfold tOr
  rw [h1]
  cases b
  · exact h2
  · rfl
end LW
namespace LW
open PySem FL
/-! ### try, in mirrors -/
theorem try_nx {i : Nat} {c f : Str} {G R : FL.Env → Option Out} {GX : FL.Env → Option (XC × FL.Env)} {HX : D → FL.Env → Option D} {ρ ρ' : FL.Env} {o : Option Out} (h : G ρ = some (.nx ρ')) (k : R ρ' = o) : sSeq (sTry i c f G GX HX) R ρ = o := by
  unfold sSeq sTry
  rw [h]
  exact k
theorem try_x {i : Nat} {c f : Str} {G R : FL.Env → Option Out} {GX : FL.Env → Option (XC × FL.Env)} {HX : D → FL.Env → Option D} {ρ ρ' : FL.Env} {d e : D} (h : G ρ = none) (hx : GX ρ = some (⟨c, f, e⟩, ρ')) (hi : i < ρ'.length) (hh : HX e (ρ'.set i none) = some d) : sSeq (sTry i c f G GX HX) R ρ = some (.rt d) := by
  unfold sSeq sTry
  rw [h, hx]
  dsimp only
  rw [if_pos ⟨rfl, rfl, hi⟩, hh]
theorem aCons_no {F : FL.Env → Option D} {G : FL.Env → Option (List D)} {ρ : FL.Env} (h : F ρ = none) : aCons F G ρ = none := by
  unfold aCons
  rw [h]
theorem seq_nx {A G : FL.Env → Option Out} {ρ ρ' : FL.Env} {o : Option Out} (h : A ρ = some (.nx ρ')) (k : G ρ' = o) : sSeq A G ρ = o := by
  unfold sSeq
  rw [h]
  exact k
/-! ### counting, sides, order: for any words -/
theorem strs_len (l : List Str) : (Strs l).length = l.length := List.length_map _
theorem count_g (w : Str) (l : List Str) : countD (.lst (Strs l)) [.str w] = some (.int ((l.count w : Nat) : Int)) := by
  have e : (Strs l).countP (fun z => deq z (.str w)) = l.count w := by
    unfold Strs
    rw [List.countP_map]
    rfl
  show (if (true && true) = true then (if (Strs l).all flatD = true then some (D.int ((Strs l).countP fun z => deq z (.str w) : Nat)) else none) else none) = _
  rw [if_pos (show (true && true) = true from rfl), if_pos (flat_strs l), e]
def fitB (l al : List Str) : Bool := l.all fun w => inS w al && (((l.count w : Nat) : Int) == 1)
theorem side_g (l al : List Str) (hl : l.length < 100000) : m__is_side [.lst (Strs l), .tup (Strs al)] = some (.bl (fitB l al)) := by
  refine runD_rt ?_
  unfold G__is_side
  have h := compL_yes (i := 2) (E := eAnd (e2 inD (eVar 2) (eVar 1)) (e2 eqD (eM countD (eVar 0) (aCons (eVar 2) aNil)) (eC (.int 1)))) (ρ := [some (.lst (Strs l)), some (.tup (Strs al)), none]) (fun d => match d with | .str w => .bl (inS w al && (((l.count w : Nat) : Int) == 1)) | _ => .non) (Strs l) (fun d hd => by
    obtain ⟨w, hw, rfl⟩ := List.mem_map.mp hd
    have a1 : e2 inD (eVar 2) (eVar 1) [some (.lst (Strs l)), some (.tup (Strs al)), some (.str w)] = some (.bl (inS w al)) := e2_val (x := .str w) (y := .tup (Strs al)) rfl rfl (in_tup w al)
    have a2 : e2 eqD (eM countD (eVar 0) (aCons (eVar 2) aNil)) (eC (.int 1)) [some (.lst (Strs l)), some (.tup (Strs al)), some (.str w)] = some (.bl (((l.count w : Nat) : Int) == 1)) := by
      refine e2_val (x := .int ((l.count w : Nat) : Int)) (y := .int 1) ?_ rfl rfl
      exact (show _ = countD (.lst (Strs l)) [.str w] from rfl).trans (count_g w l)
    show eAnd _ _ [some (.lst (Strs l)), some (.tup (Strs al)), some (.str w)] = some (.bl (inS w al && (((l.count w : Nat) : Int) == 1)))
    unfold eAnd
    rw [a1]
    cases inS w al with
    | false => rfl
    | true => exact a2)
  have e : ((Strs l).map fun d => match d with | .str w => D.bl (inS w al && (((l.count w : Nat) : Int) == 1)) | _ => .non) = (l.map fun w => inS w al && (((l.count w : Nat) : Int) == 1)).map D.bl := by
    unfold Strs
    rw [List.map_map, List.map_map]
    rfl
  rw [e] at h
  refine seq_ret (eL_val (ds := [.lst ((l.map fun w => inS w al && (((l.count w : Nat) : Int) == 1)).map D.bl)]) (aCons_val (comp_v (ds := Strs l) rfl (by rw [List.length_map, PySem.sizeLine_eq]; omega) h) rfl) ?_)
  rw [allD_bls, List.all_map]
  rfl
abbrev Fits (l al : List Str) : Prop := l.Nodup ∧ ∀ w ∈ l, w ∈ al
theorem fit_iff {l al : List Str} : fitB l al = true ↔ Fits l al := by
  unfold fitB
  rw [List.all_eq_true]
  constructor
  · intro h
    refine ⟨List.nodup_iff_count.mpr fun w => ?_, fun w hw => ?_⟩
    · by_cases hw : w ∈ l
      · have := h w hw
        rw [Bool.and_eq_true, beq_iff_eq] at this
        omega
      · rw [List.count_eq_zero_of_not_mem hw]; omega
    · have := h w hw
      rw [Bool.and_eq_true] at this
      exact inS_iff.mp this.1
  · rintro ⟨h1, h2⟩ w hw
    rw [Bool.and_eq_true, beq_iff_eq, h1.count, if_pos hw]
    exact ⟨inS_iff.mpr (h2 w hw), rfl⟩
def ordW (l : List Str) : List Str := W.filter fun w => inS w l
theorem order_g (l : List Str) : m__in_order [.lst (Strs l)] = some (.tup (Strs (ordW l))) := by
  refine runD_rt ?_
  unfold G__in_order
  have h := compL_if (i := 1) (T := tB blD (e2 inD (eVar 1) (eVar 0))) (E := eVar 1) (ρ := [some (.lst (Strs l)), none]) (fun d => match d with | .str w => inS w l | _ => false) id (Strs W) (fun d hd => by
    obtain ⟨w, _, rfl⟩ := List.mem_map.mp hd
    exact ⟨tB_val (e2_val (x := .str w) (y := .lst (Strs l)) rfl rfl (in_lst w l)) rfl, rfl⟩)
  rw [List.map_id] at h
  have e : (Strs W).filter (fun d => match d with | .str w => inS w l | _ => false) = Strs (ordW l) := by
    unfold Strs ordW
    rw [List.filter_map]
    rfl
  rw [e] at h
  refine seq_ret (eL_val (ds := [.lst (Strs (ordW l))]) (aCons_val (comp_v (ds := Strs W) ?_ (by rw [show (Strs W).length = 11 from rfl, PySem.sizeLine_eq]; omega) h) rfl) rfl)
  rfl
/-! ### parse_check, for any words -/
def SpT (t K : Str) (rest : List Str) : Prop := Txt.split t " " = K :: rest ∧ t.length ≤ 1900 ∧ rest.length ≤ 2000
theorem split_g {t K : Str} {rest : List Str} (h : SpT t K rest) : splitD (.str t) [.str " "] = some (.lst (Strs (K :: rest))) := by
  have e1 : (" " : Str).length = 1 := by kernel_rfl
  show (if ((" " : Str).length == 0) = false ∧ t.length + 2 ≤ sizeLine then some (D.lst ((Txt.split t " ").map D.str)) else none) = _
  have := h.2.1
  rw [if_pos ⟨by rw [e1]; rfl, by rw [PySem.sizeLine_eq]; omega⟩, h.1]
theorem tb_no {K : Str} (h : K ∉ kinds) : tbGet tb_CLAIM_WORDS K = none := by
  cases hq : tbGet tb_CLAIM_WORDS K with
  | none => rfl
  | some d =>
    have hm : K ∈ tb_CLAIM_WORDS.map (fun q => q.1) := List.mem_map.mpr ⟨(K, d), tbGet_mem hq, rfl⟩
    exact absurd (show K ∈ kinds from hm) h
structure Parted (rest a b : List Str) : Prop where
  e : rest = a ++ ("if" : Str) :: b
  n : ("if" : Str) ∉ a
theorem parted_of : ∀ {rest : List Str}, ("if" : Str) ∈ rest → ∃ a b, Parted rest a b
  | [], h => by cases h
  | w :: rest, h => by
    by_cases e : w = "if"
    · exact ⟨[], rest, by rw [e]; rfl, by simp⟩
    · rcases List.mem_cons.mp h with z | z
      · exact absurd z.symm e
      · obtain ⟨a, b, h1, h2⟩ := parted_of z
        refine ⟨w :: a, b, by rw [h1]; rfl, fun m => ?_⟩
        rcases List.mem_cons.mp m with q | q
        · exact e q.symm
        · exact h2 q
def Good (K : Str) (rest : List Str) : Prop := K ∈ kinds ∧ ∃ a b, Parted rest a b ∧ Fits a (claimW K) ∧ Fits b (behW K)
theorem parted_uniq {rest a b a' b' : List Str} (h : Parted rest a b) (h' : Parted rest a' b') : a = a' ∧ b = b' := by
  obtain ⟨e, n⟩ := h
  obtain ⟨e', n'⟩ := h'
  rw [e] at e'
  clear e
  induction a generalizing a' with
  | nil =>
    cases a' with
    | nil => exact ⟨rfl, (List.cons.inj e').2⟩
    | cons w a' =>
      have := (List.cons.inj e').1
      exact absurd (by rw [← this]; exact .head _) n'
  | cons w a ih =>
    cases a' with
    | nil =>
      have := (List.cons.inj e').1
      exact absurd (by rw [this]; exact .head _) n
    | cons w' a' =>
      obtain ⟨h1, h2⟩ := List.cons.inj e'
      obtain ⟨h3, h4⟩ := ih (fun m => n (.tail _ m)) h2 (fun m => n' (.tail _ m))
      exact ⟨by rw [h1, h3], h4⟩
section
variable {t K : Str} {rest : List Str}
def pcE (t K : Str) (rest : List Str) : FL.Env := [some (.str t), some (.str K), some (.lst (Strs rest)), none, none, none]
theorem star_g (h : SpT t K rest) : sStar 1 2 (eM splitD (eVar 0) (aCons (eC (.str " ")) aNil)) (envOf 6 1 [.str t]) = some (.nx (pcE t K rest)) := by
  have q : eM splitD (eVar 0) (aCons (eC (.str " ")) aNil) (envOf 6 1 [.str t]) = some (.lst (Strs (K :: rest))) := (show _ = splitD (.str t) [.str " "] from rfl).trans (split_g h)
  unfold sStar
  rw [q]
  show (if true = true then (if (Strs rest).length < 16384 then some (Out.nx (pcE t K rest)) else none) else none) = _
  have := h.2.2
  rw [if_pos rfl, if_pos (by rw [strs_len]; omega)]
theorem test1 : tOr (tB blD (e1 (tbHasF tb_CLAIM_WORDS true) (eVar 1))) (tB blD (e2 neD (eM countD (eVar 2) (aCons (eC (.str "if")) aNil)) (eC (.int 1)))) (pcE t K rest) = some (!(tbGet tb_CLAIM_WORDS K).isSome || !(((rest.count ("if" : Str) : Nat) : Int) == 1)) := by
  refine or_v ?_ ?_
  · refine tB_val (x := .bl (!(tbGet tb_CLAIM_WORDS K).isSome)) ?_ rfl
    show some (D.bl (true != (tbGet tb_CLAIM_WORDS K).isSome)) = _
    cases (tbGet tb_CLAIM_WORDS K).isSome <;> rfl
  · exact tB_val (e2_val (x := .int ((rest.count ("if" : Str) : Nat) : Int)) (y := .int 1) ((show _ = countD (.lst (Strs rest)) [.str "if"] from rfl).trans (count_g _ _)) rfl rfl) rfl
structure Past (t K : Str) (rest a b : List Str) : Prop where
  sp : SpT t K rest
  hk : K ∈ kinds
  pt : Parted rest a b
  ct : rest.count ("if" : Str) = 1
def pcE3 (t K : Str) (rest a : List Str) : FL.Env := [some (.str t), some (.str K), some (.lst (Strs rest)), some (.int ((a.length : Nat) : Int)), none, none]
def pcE4 (t K : Str) (rest a : List Str) : FL.Env := [some (.str t), some (.str K), some (.lst (Strs rest)), some (.int ((a.length : Nat) : Int)), some (.lst (Strs a)), none]
def pcE5 (t K : Str) (rest a b : List Str) : FL.Env := [some (.str t), some (.str K), some (.lst (Strs rest)), some (.int ((a.length : Nat) : Int)), some (.lst (Strs a)), some (.lst (Strs b))]
variable {a b : List Str}
theorem cut_a (h : Parted rest a b) : cutL (Strs rest) none (some ((a.length : Nat) : Int)) = Strs a := by
  rw [h.e, cutn_to _ _ (by rw [strs_len, List.length_append]; omega)]
  unfold Strs
  rw [List.map_append, ← List.length_map (f := D.str) (as := a), List.take_left]
theorem cut_b (h : Parted rest a b) : cutL (Strs rest) (some (((a.length + 1 : Nat) : Int))) none = Strs b := by
  rw [h.e, cutn_from _ _ (by rw [strs_len, List.length_append, List.length_cons]; omega)]
  unfold Strs
  rw [List.map_append, List.drop_append, List.drop_of_length_le (by rw [List.length_map]; omega), List.length_map, show a.length + 1 - a.length = 1 by omega]
  rfl
theorem set3 (h : Past t K rest a b) : eM indexD (eVar 2) (aCons (eC (.str "if")) aNil) (pcE t K rest) = some (.int ((a.length : Nat) : Int)) := by
  refine (show _ = indexD (.lst (Strs rest)) [.str "if"] from rfl).trans ?_
  rw [h.pt.e]
  exact index_v h.pt.n
theorem set4 (h : Past t K rest a b) : eSl slD (eVar 2) pNo (pYes (eVar 3)) (pcE3 t K rest a) = some (.lst (Strs a)) := by
  show some (D.lst (cutL (Strs rest) none (some ((a.length : Nat) : Int)))) = _
  rw [cut_a h.pt]
theorem set5 (h : Past t K rest a b) : eSl slD (eVar 2) (pYes (e2 addD (eVar 3) (eC (.int 1)))) pNo (pcE4 t K rest a) = some (.lst (Strs b)) := by
  show some (D.lst (cutL (Strs rest) (some (((a.length : Nat) : Int) + 1)) none)) = _
  rw [show ((a.length : Nat) : Int) + 1 = ((a.length + 1 : Nat) : Int) by omega, cut_b h.pt]
theorem past_len (h : Past t K rest a b) : a.length ≤ 2000 ∧ b.length ≤ 2000 := by
  have := h.sp.2.2
  rw [h.pt.e, List.length_append, List.length_cons] at this
  omega
theorem test2 (h : Past t K rest a b) {ρ : FL.Env} (h1 : ρ[1]? = some (some (.str K))) (h4 : ρ[4]? = some (some (.lst (Strs a)))) (h5 : ρ[5]? = some (some (.lst (Strs b)))) :
    tOr (tNot (tB truD (eL (mL 2 m__is_side) (aCons (eVar 4) (aCons (e1 (tbItem tb_CLAIM_WORDS) (eVar 1)) aNil))))) (tNot (tB truD (eL (mL 2 m__is_side) (aCons (eVar 5) (aCons (eL (mL 1 m_behind_words) (aCons (eVar 1) aNil)) aNil))))) ρ = some (!fitB a (claimW K) || !fitB b (behW K)) := by
  obtain ⟨l1, l2⟩ := past_len h
  refine or_v (not_val (tB_val (x := .bl (fitB a (claimW K))) (eL_val (ds := [.lst (Strs a), .tup (Strs (claimW K))]) (aCons_val (var_v h4) (aCons_val ?_ rfl)) (mL_val rfl (side_g _ _ (by omega)))) rfl)) (not_val (tB_val (x := .bl (fitB b (behW K))) (eL_val (ds := [.lst (Strs b), .tup (Strs (behW K))]) (aCons_val (var_v h5) (aCons_val (eL_val (ds := [.str K]) (aCons_val (var_v h1) rfl) (mL_val rfl (bw_v h.hk))) rfl)) (mL_val rfl (side_g _ _ (by omega)))) rfl))
  unfold e1
  rw [show eVar 1 ρ = some (.str K) from var_v h1]
  exact tb_v h.hk
theorem parse_ok (h : Past t K rest a b) (f1 : Fits a (claimW K)) (f2 : Fits b (behW K)) : m_parse_check [.str t] = some (.tup [.str K, .tup (Strs (ordW a)), .tup (Strs (ordW b))]) := by
  refine runD_rt ?_
  unfold G_parse_check
  have t1 := test1 (t := t) (K := K) (rest := rest)
  rw [tb_v h.hk, h.ct] at t1
  refine seq_nx (star_g h.sp) (seq_f t1 (seq_nil (seq_set (set3 h) (seq_set (set4 h) (seq_set (set5 h) (seq_fg ?_))))))
  have t2 := test2 h (ρ := [some (.str t), some (.str K), none, none, some (.lst (Strs a)), some (.lst (Strs b))]) rfl rfl rfl
  rw [fit_iff.mpr f1, fit_iff.mpr f2] at t2
  refine seq_f t2 (seq_nil (seq_fg (seq_ret (eL_val (ds := [.str K, .tup (Strs (ordW a)), .tup (Strs (ordW b))]) (aCons_val rfl (aCons_val (eL_val (ds := [.lst (Strs a)]) rfl (mL_val rfl (order_g a))) (aCons_val (eL_val (ds := [.lst (Strs b)]) rfl (mL_val rfl (order_g b))) rfl))) ?_))))
  show (if 3 ≤ sizeLine then some (D.tup [.str K, .tup (Strs (ordW a)), .tup (Strs (ordW b))]) else none) = _
  rw [if_pos (by rw [PySem.sizeLine_eq]; omega)]
theorem sset_nx {i : Nat} {F : FL.Env → Option D} {ρ : FL.Env} {d : D} (h : F ρ = some d) : sSet i F ρ = some (.nx (ρ.set i (some d))) := by
  unfold sSet
  rw [h]
theorem xseq_nx {A : FL.Env → Option Out} {GA G : FL.Env → Option (XC × FL.Env)} {ρ ρ' : FL.Env} {o : Option (XC × FL.Env)} (h : A ρ = some (.nx ρ')) (k : G ρ' = o) : xSeq A GA G ρ = o := by
  unfold xSeq
  rw [h]
  exact k
theorem xseq_no {A : FL.Env → Option Out} {GA G : FL.Env → Option (XC × FL.Env)} {ρ : FL.Env} {o : Option (XC × FL.Env)} (h : A ρ = none) (k : GA ρ = o) : xSeq A GA G ρ = o := by
  unfold xSeq
  rw [h]
  exact k
theorem xif_t {C : FL.Env → Option Bool} {F G : FL.Env → Option (XC × FL.Env)} {ρ : FL.Env} {o : Option (XC × FL.Env)} (h : C ρ = some true) (k : F ρ = o) : xIf C F G ρ = o := by
  unfold xIf
  rw [h]
  exact k
theorem xhere_r {c f : Str} {F : FL.Env → Option D} {ρ : FL.Env} {d : D} (h : F ρ = some d) (ro : rOk d = true) : xHere (xRaise c f F) ρ = some (⟨c, f, d⟩, ρ) := by
  unfold xHere xRaise
  rw [h]
  dsimp only
  rw [if_pos ro]
theorem seq_dead {C : FL.Env → Option Bool} {B G : FL.Env → Option Out} {ρ : FL.Env} (h : C ρ = some true) : sSeq (sIf C (sSeq (fun _ => none) sNil) B) G ρ = none := seq_t h (seq_as rfl)
theorem sif_dead {C : FL.Env → Option Bool} {B : FL.Env → Option Out} {ρ : FL.Env} (h : C ρ = some true) : sIf C (sSeq (fun _ => none) sNil) B ρ = none := by
  unfold sIf
  rw [h]
  rfl
theorem parse_x (sp : SpT t K rest) (ro : rOk (.str t) = true) (hg : ¬ Good K rest) : m_parse_check [.str t] = none ∧ mx_parse_check [.str t] = some ⟨"BadCheck", "line", .str t⟩ := by
  have t1 := test1 (t := t) (K := K) (rest := rest)
  by_cases hb : (!(tbGet tb_CLAIM_WORDS K).isSome || !(((rest.count ("if" : Str) : Nat) : Int) == 1)) = true
  · rw [hb] at t1
    constructor
    · have g : G_parse_check (envOf 6 1 [.str t]) = none := by
        unfold G_parse_check
        exact seq_nx (star_g sp) (seq_dead t1)
      unfold m_parse_check runD
      rw [g]
    · have g : GX_parse_check (envOf 6 1 [.str t]) = some (⟨"BadCheck", "line", .str t⟩, pcE t K rest) := by
        unfold GX_parse_check
        exact xseq_nx (star_g sp) (xseq_no (sif_dead t1) (xif_t t1 (xhere_r rfl ro)))
      unfold mx_parse_check runX
      rw [g]
  · have hb' : (!(tbGet tb_CLAIM_WORDS K).isSome || !(((rest.count ("if" : Str) : Nat) : Int) == 1)) = false := eq_false_of_ne_true hb
    rw [hb'] at t1
    rw [Bool.or_eq_false_iff] at hb'
    have hk : K ∈ kinds := by
      by_cases h : K ∈ kinds
      · exact h
      · rw [tb_no h] at hb'
        cases hb'.1
    have hc : rest.count ("if" : Str) = 1 := by
      have := hb'.2
      rw [Bool.not_eq_false', beq_iff_eq] at this
      omega
    have hm : ("if" : Str) ∈ rest := List.count_pos_iff.mp (by omega)
    obtain ⟨a, b, pt⟩ := parted_of hm
    have h : Past t K rest a b := ⟨sp, hk, pt, hc⟩
    have nf : (!fitB a (claimW K) || !fitB b (behW K)) = true := by
      by_cases f1 : fitB a (claimW K) = true
      · by_cases f2 : fitB b (behW K) = true
        · exact absurd ⟨hk, a, b, pt, fit_iff.mp f1, fit_iff.mp f2⟩ hg
        · rw [show fitB b (behW K) = false by simpa using f2]; simp
      · rw [show fitB a (claimW K) = false by simpa using f1]; rfl
    constructor
    · have g : G_parse_check (envOf 6 1 [.str t]) = none := by
        unfold G_parse_check
        refine seq_nx (star_g sp) (seq_f t1 (seq_nil (seq_set (set3 h) (seq_set (set4 h) (seq_set (set5 h) (seq_fg ?_))))))
        have t2 := test2 h (ρ := [some (.str t), some (.str K), none, none, some (.lst (Strs a)), some (.lst (Strs b))]) rfl rfl rfl
        rw [nf] at t2
        exact seq_dead t2
      unfold m_parse_check runD
      rw [g]
    · have t2 := test2 h (ρ := pcE5 t K rest a b) rfl rfl rfl
      rw [nf] at t2
      have n1 : sIf (tOr (tB blD (e1 (tbHasF tb_CLAIM_WORDS true) (eVar 1))) (tB blD (e2 neD (eM countD (eVar 2) (aCons (eC (.str "if")) aNil)) (eC (.int 1))))) (sSeq (fun _ => none) sNil) sNil (pcE t K rest) = some (.nx (pcE t K rest)) := by
        unfold sIf
        rw [t1]
        rfl
      have g : GX_parse_check (envOf 6 1 [.str t]) = some (⟨"BadCheck", "line", .str t⟩, pcE5 t K rest a b) := by
        unfold GX_parse_check
        exact xseq_nx (star_g sp) (xseq_nx n1 (xseq_nx (sset_nx (set3 h)) (xseq_nx (sset_nx (set4 h)) (xseq_nx (sset_nx (set5 h)) (xif_t t2 (xhere_r rfl ro))))))
      unfold mx_parse_check runX
      rw [g]
end
/-! ### the drawn text -/
theorem join_v {zs : List Str} (h : ∀ z ∈ zs, z.length ≤ 10) (hl : zs.length < 1000) : joinD (.str " ") [.lst (Strs zs)] = some (.str (Txt.join " " zs)) := by
  have hs := sum_le h
  show (match strsD (Strs zs) with | some zs => if (zs.map fun z : Str => z.length).sum + zs.length * (" " : Str).length ≤ 16777216 then some (D.str (Txt.join " " zs)) else none | none => none) = _
  rw [strsD_v]
  show (if (zs.map fun z : Str => z.length).sum + zs.length * (" " : Str).length ≤ 16777216 then some (D.str (Txt.join " " zs)) else none) = _
  have e1 : (" " : Str).length = 1 := by kernel_rfl
  rw [if_pos (by rw [e1]; omega)]
def asc (t : Str) : Bool := (TL.tl t).all fun c => decide (c < 128)
def okw (w : Str) : Bool := decide (w.length ≤ 10) && asc w
theorem asc_joinL {S : List Nat} (hS : (S.all fun c => decide (c < 128)) = true) : ∀ ps : List (List Nat), (∀ p ∈ ps, (p.all fun c => decide (c < 128)) = true) → ((TL.joinL S ps).all fun c => decide (c < 128)) = true
  | [], _ => rfl
  | [p], h => h p (.head _)
  | p :: q :: r, h => by
    show ((p ++ (S ++ TL.joinL S (q :: r))).all fun c => decide (c < 128)) = true
    rw [List.all_append, List.all_append, h p (.head _), hS, asc_joinL hS (q :: r) fun z hz => h z (.tail _ hz)]
    rfl
theorem asc_join {zs : List Str} (h : ∀ z ∈ zs, okw z = true) : asc (Txt.join " " zs) = true := by
  unfold asc
  rw [TL.join_eq, TL.tl_join]
  refine asc_joinL (by kernel_rfl) _ fun p hp => ?_
  obtain ⟨z, hz, rfl⟩ := List.mem_map.mp hp
  have := h z hz
  unfold okw at this
  rw [Bool.and_eq_true] at this
  exact this.2
theorem okw_len {z : Str} (h : okw z = true) : z.length ≤ 10 := by
  unfold okw at h
  rw [Bool.and_eq_true] at h
  exact of_decide_eq_true h.1
theorem len_join {zs : List Str} (h : ∀ z ∈ zs, okw z = true) : (Txt.join " " zs).length ≤ 11 * zs.length := by
  have hs := sum_le fun z hz => okw_len (h z hz)
  have e1 : (" " : Str).length = 1 := by kernel_rfl
  show (PySem.Txt.join " " zs).length ≤ _
  unfold PySem.Txt.join
  rw [PySem.size_glued, e1]
  omega
theorem asc_all {t : Str} (h : asc t = true) : ∀ c ∈ t.cps.toList, c < 128 := fun c hc => of_decide_eq_true (List.all_eq_true.mp h c hc)
theorem rok_t {t : Str} (h : asc t = true) (hl : t.length ≤ 1000) : rOk (.str t) = true := by
  have hc := asc_all h
  have rl : (reprText t).length ≤ 10 * t.length + 2 := StrLaws.reprText_len t fun c hcc => Nat.lt_of_lt_of_le (hc c hcc) (by decide)
  have so : PyData.strOk t = true := by
    unfold PyData.strOk
    rw [Array.all_eq_true]
    intro i hi
    have := hc _ (Array.getElem_mem_toList hi)
    exact decide_eq_true (by omega)
  show (match rLen (.str t) with | some (l, k) => decide (l ≤ 1000000) && decide (k ≤ 60) && PyData.strOk t | none => false) = true
  have e : rLen (.str t) = some (20000, 0) := by
    show (if (reprText t).length ≤ 20000 then some (20000, 0) else none) = _
    rw [if_pos (by omega)]
  rw [e]
  show (decide (20000 ≤ 1000000) && decide (0 ≤ 60) && PyData.strOk t) = true
  rw [so]
  rfl
end LW
namespace LW
open PySem FL
def wOk (zs : List Str) : Bool := zs.all fun z => PyData.strOk z
abbrev Rk (r : Rl) : Prop := r.a.length < 1000 ∧ r.b.length < 1000 ∧ PyData.strOk r.k = true ∧ wOk r.a = true ∧ wOk r.b = true
/-! ### rules are equal or not -/
theorem deqA_strs : ∀ {xs ys : List Str}, deqAll (Strs xs) (Strs ys) = true ↔ xs = ys
  | [], [] => ⟨fun _ => rfl, fun _ => rfl⟩
  | [], _ :: _ => ⟨fun h => (by cases h), fun h => (by cases h)⟩
  | _ :: _, [] => ⟨fun h => (by cases h), fun h => (by cases h)⟩
  | x :: xs, y :: ys => by
    show ((x == y) && deqAll (Strs xs) (Strs ys)) = true ↔ _
    rw [Bool.and_eq_true, deqA_strs, beq_iff_eq, List.cons.injEq]
theorem deq_rl (r s : Rl) : deq (encRl r) (encRl s) = true ↔ r = s := by
  obtain ⟨k, a, b⟩ := r
  obtain ⟨k', a', b'⟩ := s
  show ((k == k') && (deqAll (Strs a) (Strs a') && (deqAll (Strs b) (Strs b') && true))) = true ↔ _
  rw [Bool.and_eq_true, Bool.and_eq_true, Bool.and_true, deqA_strs, deqA_strs, beq_iff_eq, Rl.mk.injEq]
def mem (r : Rl) (rs : List Rl) : Bool := rs.any fun x => deq (encRl x) (encRl r)
def ndB : List D → Bool
  | [] => true
  | y :: ys => (!ys.any fun z => deq y z) && ndB ys
theorem lay_strs : ∀ zs : List Str, PyData.canLayAll0 (toPyAll (Strs zs)) = wOk zs
  | [] => rfl
  | z :: zs => by
    show (PyData.strOk z && PyData.canLayAll0 (toPyAll (Strs zs))) = _
    rw [lay_strs zs]; rfl
theorem dep_strs : ∀ zs : List Str, PyData.depthAll (toPyAll (Strs zs)) = 0
  | [] => rfl
  | z :: zs => by
    show max 0 (PyData.depthAll (toPyAll (Strs zs))) = 0
    rw [dep_strs zs]; rfl
theorem lay_rl {r : Rl} (h : Rk r) : (toPy (encRl r)).canLay0 = true ∧ (toPy (encRl r)).depth = 2 := by
  constructor
  · show (PyData.strOk r.k && (PyData.canLayAll0 (toPyAll (Strs r.a)) && (PyData.canLayAll0 (toPyAll (Strs r.b)) && true))) = true
    rw [lay_strs, lay_strs, h.2.2.1, h.2.2.2.1, h.2.2.2.2]; rfl
  · show max 0 (max (PyData.depthAll (toPyAll (Strs r.a)) + 1) (max (PyData.depthAll (toPyAll (Strs r.b)) + 1) 0)) + 1 = 2
    rw [dep_strs, dep_strs]; rfl
theorem okD_rl {r : Rl} (h : Rk r) : okD (encRl r) = true := by
  show ((toPy (encRl r)).canLay0 && decide ((toPy (encRl r)).depth ≤ 64)) = true
  rw [(lay_rl h).1, (lay_rl h).2]; rfl
theorem lay_rls : ∀ {rs : List Rl}, (∀ r ∈ rs, Rk r) → PyData.canLayAll0 (toPyAll (rs.map encRl)) = true ∧ PyData.depthAll (toPyAll (rs.map encRl)) ≤ 2
  | [], _ => ⟨rfl, Nat.zero_le _⟩
  | r :: rs, h => by
    have h1 := lay_rl (h r (.head _))
    have h2 := lay_rls (rs := rs) fun x hx => h x (.tail _ hx)
    constructor
    · show ((toPy (encRl r)).canLay0 && PyData.canLayAll0 (toPyAll (rs.map encRl))) = true
      rw [h1.1, h2.1]; rfl
    · show max (toPy (encRl r)).depth (PyData.depthAll (toPyAll (rs.map encRl))) ≤ 2
      rw [h1.2]; exact Nat.max_le.mpr ⟨Nat.le_refl _, h2.2⟩
theorem okD_rls {rs : List Rl} (h : ∀ r ∈ rs, Rk r) : okD (.lst (rs.map encRl)) = true := by
  have h1 := lay_rls h
  show (PyData.canLayAll0 (toPyAll (rs.map encRl)) && decide (PyData.depthAll (toPyAll (rs.map encRl)) + 1 ≤ 64)) = true
  rw [h1.1, Bool.true_and]
  exact decide_eq_true (by omega)
theorem at_v {ds : List Int} {i : Nat} (hi : i < ds.length) : ixD (.lst (ds.map D.int)) (.int (i : Int)) = some (.int (ds.getD i 0)) := by
  show L2.atI (ds.map D.int) (i : Int) = _
  exact atI_nat (by simp [hi])
theorem nx_for {I : FL.Env → Prop} {Fi : FL.Env → Option (List D)} {g : D → FL.Env → Option FL.Env} {B : FL.Env → Option Out} {J : Nat → FL.Env → Prop} {ρ : FL.Env} {ds : List D} (h : Fi ρ = some ds) (h0 : J 0 ρ)
    (step : ∀ (i : Nat) (ρ : FL.Env) (d : D), J i ρ → ds[i]? = some d → ∃ ρ1 ρ2, g d ρ = some ρ1 ∧ B ρ1 = some (.nx ρ2) ∧ J (i + 1) ρ2) (k : ∀ ρ', J ds.length ρ' → I ρ') : ∃ ρ', sFor Fi g B ρ = some (.nx ρ') ∧ I ρ' := by
  obtain ⟨ρ', h1, h2⟩ := loop_nx (g := g) (B := B) (I := J) ds 0 ρ (fun i ρ d hI hd => by
    rw [Nat.zero_add] at hI ⊢
    exact step i ρ d hI hd) h0
  rw [Nat.zero_add] at h2
  refine ⟨ρ', ?_, k ρ' h2⟩
  unfold sFor
  rw [h]
  exact h1
theorem rng_v {F : FL.Env → Option D} {ρ : FL.Env} {j : Int} (h : F ρ = some (.int j)) (hj : 0 ≤ j ∧ j < 100) : iRng1 (aCons F aNil) ρ = some (rngD 0 j.toNat) := by
  unfold iRng1
  rw [show aCons F aNil ρ = some [.int j] from aCons_val h rfl]
  show (if -(2 ^ 62) ≤ j ∧ j < 2 ^ 62 then some (rngD 0 j.toNat) else none) = _
  rw [if_pos (by omega)]
theorem inB_lrl {r : Rl} {rs : List Rl} (h : Rk r) (hs : ∀ r ∈ rs, Rk r) : inB (encRl r) (.lst (rs.map encRl)) = some (mem r rs) := by
  show (if (flatD (encRl r) && (rs.map encRl).all flatD) = true then some ((rs.map encRl).any fun z => deq z (encRl r)) else if (isLst (.lst (rs.map encRl)) && okD (encRl r) && okD (.lst (rs.map encRl))) = true then some ((rs.map encRl).any fun z => deq z (encRl r)) else none) = _
  rw [okD_rl h, okD_rls hs, List.any_map]
  rfl
theorem nin_lrl {r : Rl} {rs : List Rl} (h : Rk r) (hs : ∀ r ∈ rs, Rk r) : ninD (encRl r) (.lst (rs.map encRl)) = some (.bl (!mem r rs)) := by unfold ninD; rw [inB_lrl h hs]
/-! ### each at its first place -/
def once : List Rl → List Rl → List Rl
  | [], acc => acc
  | r :: rs, acc => if mem r acc = true then once rs acc else once rs (acc ++ [r])
theorem once_len : ∀ (rs acc : List Rl), (once rs acc).length ≤ acc.length + rs.length
  | [], acc => Nat.le_refl _
  | r :: rs, acc => by
    unfold once
    split
    · have := once_len rs acc; rw [List.length_cons]; omega
    · have := once_len rs (acc ++ [r]); rw [List.length_append, List.length_singleton] at this; rw [List.length_cons]; omega
theorem once_sub : ∀ (rs acc : List Rl) (x : Rl), x ∈ once rs acc → x ∈ acc ∨ x ∈ rs
  | [], acc, x, h => .inl h
  | r :: rs, acc, x, h => by
    unfold once at h
    split at h
    · rcases once_sub rs acc x h with z | z
      · exact .inl z
      · exact .inr (.tail _ z)
    · rcases once_sub rs (acc ++ [r]) x h with z | z
      · rcases List.mem_append.mp z with z | z
        · exact .inl z
        · rw [List.mem_singleton.mp z]; exact .inr (.head _)
      · exact .inr (.tail _ z)
theorem any_prR (r : Rl) : ∀ acc : List Rl, ((acc.map prR).any fun q => NestedKey.beq q.1 (nkR r)) = mem r acc
  | [] => rfl
  | x :: acc => by
    show (NestedKey.beq (nkR x) (nkR r) || (acc.map prR).any fun q => NestedKey.beq q.1 (nkR r)) = (deq (encRl x) (encRl r) || mem r acc)
    rw [any_prR r acc]
    congr 1
    by_cases h : x = r
    · subst h
      rw [NestedKey.beq_self, (deq_rl x x).mpr rfl]
    · have h1 : NestedKey.beq (nkR x) (nkR r) = false := by
        rw [Bool.eq_false_iff]
        exact fun z => h (nkR_inj (NestedKey.eq_of_beq _ _ z))
      have h2 : deq (encRl x) (encRl r) = false := by
        rw [Bool.eq_false_iff]
        exact fun z => h ((deq_rl x r).mp z)
      rw [h1, h2]
theorem ded_once : ∀ (rs acc : List Rl), acc.length + rs.length < 100000 → dedG (rs.map encRl) (acc.map prR) = some ((once rs acc).map prR)
  | [], acc, _ => rfl
  | r :: rs, acc, h => by
    have hl : acc.length + (rs.length + 1) < 100000 := by simpa using h
    have hok : (isTup (encRl r) && (decide ((nkR r).depth ≤ 8) && decide ((acc.map prR).length < 100000))) = true := by
      rw [Bool.and_eq_true, Bool.and_eq_true]
      exact ⟨rfl, decide_eq_true (depth_rl r), decide_eq_true (by rw [List.length_map]; omega)⟩
    have e : dedG ((r :: rs).map encRl) (acc.map prR) = dedG (rs.map encRl) (if ((acc.map prR).any fun q => NestedKey.beq q.1 (nkR r)) = true then acc.map prR else acc.map prR ++ [(nkR r, encRl r)]) := by
      show (match nkD (encRl r) with | some k => _ | none => none) = _
      rw [nkD_rl]
      show (if (isTup (encRl r) && (decide ((nkR r).depth ≤ 8) && decide ((acc.map prR).length < 100000))) = true then _ else _) = _
      rw [if_pos hok]
    rw [e, any_prR]
    unfold once
    by_cases hm : mem r acc = true
    · rw [if_pos hm, if_pos hm]
      exact ded_once rs acc (by omega)
    · rw [if_neg hm, if_neg hm]
      have := ded_once rs (acc ++ [r]) (by rw [List.length_append, List.length_singleton]; omega)
      rw [List.map_append] at this
      exact this
theorem different_v (rs : List Rl) (hl : rs.length < 100000) : m__different [.lst (rs.map encRl)] = some (.tup ((once rs []).map encRl)) := by
  refine runD_rt ?_
  unfold G__different
  refine seq_ret ?_
  rw [eDed_val (ds := rs.map encRl) (acc := (once rs []).map prR) rfl (by simp [envOf]) (ded_once rs [] (by simpa using hl)), snd_prR]
theorem book_v (rs : List Rl) (hl : rs.length < 100000) : m_Book___init__ [.lst (rs.map encRl)] = some [.tup ((once rs []).map encRl)] := by
  have h1 := different_v rs hl
  generalize once rs [] = rs' at h1 ⊢
  show iniF "Book" st_Book___init__ [] [] [some (.lst (rs.map encRl))] = _
  unfold st_Book___init__ iniF
  have q : eL (mL 1 m__different) (aCons (eVar 1) aNil) [some (.ins "Book" [] []), some (.lst (rs.map encRl))] = some (.tup (rs'.map encRl)) := eL_val (ds := [.lst (rs.map encRl)]) rfl (mL_val rfl h1)
  rw [q]
  have cs : ∀ zs : List Str, cleanAll (Strs zs) = true := fun zs => by
    induction zs with
    | nil => rfl
    | cons z zs ih => exact ih
  have cl : clean (.tup (rs'.map encRl)) = true := by
    show cleanAll (rs'.map encRl) = true
    clear q h1
    induction rs' with
    | nil => rfl
    | cons r rs' ih =>
      show (clean (encRl r) && cleanAll (rs'.map encRl)) = true
      rw [ih]
      show ((true && (cleanAll (Strs r.a) && (cleanAll (Strs r.b) && true))) && true) = true
      rw [cs, cs]; rfl
  show (if (clean (.tup (rs'.map encRl)) && (!([] : List Str).contains "_checks" && decide (([] : List Str).length < 500))) = true then _ else _) = _
  rw [cl]
  rfl
def bookD (rs : List Rl) : D := .ins "Book" ["_checks"] [.tup (rs.map encRl)]
theorem eMk_val {c : Str} {fs : List Str} {n : Nat} {mi : List D → Option (List D)} {Fs : FL.Env → Option (List D)} {ρ : FL.Env} {xs ds : List D}
    (ha : Fs ρ = some ds) (hn : ds.length = n) (h : mi ds = some xs) : eMk c fs n mi Fs ρ = some (.ins c fs xs) := by
  unfold eMk
  rw [ha]
  dsimp only
  rw [if_pos hn, h]
theorem mk_v {F : FL.Env → Option D} {ρ : FL.Env} {rs : List Rl} (h : F ρ = some (.lst (rs.map encRl))) (hl : rs.length < 100000) : eMk "Book" fs_Book___init__ 1 m_Book___init__ (aCons F aNil) ρ = some (bookD (once rs [])) :=
  eMk_val (ds := [.lst (rs.map encRl)]) (aCons_val h rfl) rfl (book_v rs hl)

end LW
namespace LW
open PySem FL
/-! ### the lines of checks, and what is made of them -/
theorem tl_ext {x y : Str} (h : TL.tl x = TL.tl y) : x = y := by
  have := TL.map_tl_inj (show [x].map TL.tl = [y].map TL.tl by rw [List.map_cons, List.map_cons, h])
  exact (List.cons.inj this).1
def tlS (ws : List Str) : List Nat := ws.flatMap fun w => 32 :: TL.tl w
theorem tlS_app (a b : List Str) : tlS (a ++ b) = tlS a ++ tlS b := List.flatMap_append
theorem joinL_tail : ∀ (w : Str) (ws : List Str), TL.joinL [32] ((w :: ws).map TL.tl) = TL.tl w ++ tlS ws
  | w, [] => (List.append_nil _).symm
  | w, x :: ws => by
    show TL.tl w ++ ([32] ++ TL.joinL [32] ((x :: ws).map TL.tl)) = TL.tl w ++ ((32 :: TL.tl x) ++ tlS ws)
    rw [joinL_tail x ws]
    rfl
theorem tl_line (w : Str) (ws : List Str) : TL.tl (Txt.join " " (w :: ws)) = TL.tl w ++ tlS ws := by
  rw [TL.join_eq, TL.tl_join, show TL.tl (" " : Str) = [32] by kernel_rfl]
  exact joinL_tail w ws
def knW : List Str := ("" : Str) :: ("if" : Str) :: (kinds ++ W)
def kw (w : Str) : Bool := okw w && !(TL.tl w).contains 32
theorem kw_t : knW.all kw = true := by kernel_rfl
theorem kw_of {w : Str} (h : w ∈ knW) : okw w = true ∧ 32 ∉ TL.tl w := by
  have := List.all_eq_true.mp kw_t w h
  unfold kw at this
  rw [Bool.and_eq_true] at this
  exact ⟨this.1, by simpa using this.2⟩
theorem spT_join {K : Str} {rest : List Str} (h : ∀ z ∈ K :: rest, z ∈ knW) (hl : rest.length ≤ 60) : SpT (Txt.join " " (K :: rest)) K rest ∧ asc (Txt.join " " (K :: rest)) = true ∧ (Txt.join " " (K :: rest)).length ≤ 1000 := by
  have hj := len_join (zs := K :: rest) fun z hz => (kw_of (h z hz)).1
  rw [List.length_cons] at hj
  exact ⟨⟨TL.split_join (s := 32) (S := []) (by kernel_rfl) (by kernel_rfl) (by simp) fun p hp => (kw_of (h p hp)).2, by omega, by omega⟩, asc_join fun z hz => (kw_of (h z hz)).1, by omega⟩
/-! replace -/
open PySem.StrLaws in theorem rp_word : ∀ {u : List Nat} (r : List Nat), 32 ∉ u → replL [32, 105, 102] [] (u ++ r) = u ++ replL [32, 105, 102] [] r
  | [], r, _ => rfl
  | c :: u, r, h => by
    have hc : c ≠ 32 := fun e => h (by rw [e]; exact .head _)
    rw [List.cons_append, replL_miss (fun e => hc (by
      have := congrArg List.head? e
      simpa using this)), rp_word r fun m => h (.tail _ m)]
    rfl
open PySem.StrLaws in theorem rp_sep {u : List Nat} (r : List Nat) (h : 32 ∉ u) (h2 : 2 ≤ u.length) (h3 : u.take 2 ≠ [105, 102]) : replL [32, 105, 102] [] ((32 :: u) ++ r) = (32 :: u) ++ replL [32, 105, 102] [] r := by
  rw [List.cons_append, replL_miss (fun e => h3 (by
    have e2 : 32 :: (u ++ r).take 2 = [32, 105, 102] := e
    have e3 := (List.cons.inj e2).2
    rwa [List.take_append_of_le_length h2] at e3)), rp_word r h]
  rfl
theorem sep_t : (kinds ++ W).all (fun w => !(TL.tl w).contains 32 && (decide (2 ≤ (TL.tl w).length) && !decide ((TL.tl w).take 2 = [105, 102]))) = true := by kernel_rfl
theorem sep_of {w : Str} (h : w ∈ kinds ++ W) : 32 ∉ TL.tl w ∧ 2 ≤ (TL.tl w).length ∧ (TL.tl w).take 2 ≠ [105, 102] := by
  have := List.all_eq_true.mp sep_t w h
  simp only [Bool.and_eq_true, Bool.not_eq_true', decide_eq_true_eq, decide_eq_false_iff_not] at this
  exact ⟨by simpa using this.1, this.2.1, this.2.2⟩
open PySem.StrLaws in theorem rp_tail : ∀ (ws : List Str) (r : List Nat), (∀ w ∈ ws, w ∈ kinds ++ W) → replL [32, 105, 102] [] (tlS ws ++ r) = tlS ws ++ replL [32, 105, 102] [] r
  | [], r, _ => rfl
  | w :: ws, r, h => by
    obtain ⟨h1, h2, h3⟩ := sep_of (h w (.head _))
    show replL _ _ (((32 :: TL.tl w) ++ tlS ws) ++ r) = ((32 :: TL.tl w) ++ tlS ws) ++ _
    rw [List.append_assoc, rp_sep _ h1 h2 h3, rp_tail ws r fun x hx => h x (.tail _ hx), List.append_assoc]
open PySem.StrLaws in theorem rp_line {K : Str} {a b : List Str} (hK : K ∈ kinds ++ W) (ha : ∀ w ∈ a, w ∈ kinds ++ W) (hb : ∀ w ∈ b, w ∈ kinds ++ W) : Txt.replace (Txt.join " " (K :: (a ++ ("if" : Str) :: b))) " if" "" = Txt.join " " (K :: (a ++ b)) := by
  refine tl_ext ?_
  rw [tl_line]
  refine (replace_list (x := Txt.join " " (K :: (a ++ ("if" : Str) :: b))) (y := " if") (z := "") (by show 1 ≤ (" if" : Str).length; decide +kernel)).trans ?_
  show replL (TL.tl " if") (TL.tl "") (TL.tl (Txt.join " " (K :: (a ++ ("if" : Str) :: b)))) = _
  rw [tl_line, show TL.tl (" if" : Str) = [32, 105, 102] by kernel_rfl, show TL.tl ("" : Str) = [] by kernel_rfl, rp_word _ (sep_of hK).1, tlS_app, rp_tail _ _ ha, tlS_app]
  congr 2
  show replL _ _ ((32 :: TL.tl "if") ++ tlS b) = _
  rw [show TL.tl ("if" : Str) = [105, 102] by kernel_rfl]
  show replL [32, 105, 102] [] (32 :: 105 :: 102 :: tlS b) = _
  rw [replL_hit (by simp) rfl]
  show [] ++ replL [32, 105, 102] [] (tlS b) = _
  have e := rp_tail b [] hb
  rw [List.append_nil, replL_nil, List.append_nil] at e
  rw [e]
  rfl
/-! a written check -/
structure Ln (t : Str) (r : Rl) : Prop where
  is : IsR r
  eq : ∃ a : List Str, (a = r.a ∨ a = r.a.reverse) ∧ t = Txt.join " " (r.k :: (a ++ ("if" : Str) :: r.b))
theorem ord_of {a V : List Str} (h : a.Sublist W) (l : List Str) (hm : ∀ w, w ∈ l ↔ w ∈ a) : ordW l = a := filter_sub h W_nd fun w _ => inS_iff.trans (hm w)
structure LnP (t K : Str) (r : Rl) (a : List Str) : Prop where
  ka : K ∈ kinds
  wa : ∀ w ∈ a, w ∈ W
  wb : ∀ w ∈ r.b, w ∈ W
  mem : ∀ w, w ∈ a ↔ w ∈ r.a
  nd : a.Nodup
  la : a.length ≤ 6
  lb : r.b.length ≤ 9
theorem ln_parts {t : Str} {r : Rl} (h : Ln t r) : ∃ a, LnP t r.k r a ∧ t = Txt.join " " (r.k :: (a ++ ("if" : Str) :: r.b)) := by
  obtain ⟨⟨hk, hA, hB⟩, a, ha, e⟩ := h
  obtain ⟨s1, s2⟩ := kind_sub hk
  have c := cw_len r.k
  have mm : ∀ w, w ∈ a ↔ w ∈ r.a := fun w => by rcases ha with rfl | rfl <;> simp
  have nA : r.a.Nodup := (hA.trans s1).nodup W_nd
  refine ⟨a, ⟨hk, fun w hw => (hA.trans s1).subset ((mm w).mp hw), fun w hw => (hB.trans s2).subset hw, mm, ?_, ?_, Nat.le_trans hB.length_le c.2.2.2.2.2⟩, e⟩
  · rcases ha with rfl | rfl
    · exact nA
    · exact List.pairwise_reverse.mpr (nA.imp fun h e => h e.symm)
  · have : a.length = r.a.length := by rcases ha with rfl | rfl <;> simp
    rw [this]
    exact Nat.le_trans hA.length_le c.1
theorem kn_k {w : Str} (h : w ∈ kinds) : w ∈ knW := .tail _ (.tail _ (List.mem_append_left _ h))
theorem kn_w {w : Str} (h : w ∈ W) : w ∈ knW := .tail _ (.tail _ (List.mem_append_right _ h))
theorem kn_line {t : Str} {r : Rl} {a : List Str} (p : LnP t r.k r a) {c : List Str} (hc : ∀ w ∈ c, w ∈ knW) : ∀ z ∈ r.k :: (a ++ c), z ∈ knW := fun z hz => by
  rcases List.mem_cons.mp hz with rfl | hz
  · exact kn_k p.ka
  · rcases List.mem_append.mp hz with h | h
    · exact kn_w (p.wa z h)
    · exact hc z h
theorem ln_parse {t : Str} {r : Rl} (h : Ln t r) : m_parse_check [.str t] = some (encRl r) ∧ t.length ≤ 1000 := by
  obtain ⟨a, p, rfl⟩ := ln_parts h
  obtain ⟨⟨hk, hA, hB⟩, _⟩ := h
  obtain ⟨s1, s2⟩ := kind_sub hk
  have kn := kn_line p (c := ("if" : Str) :: r.b) fun w hw => by
    rcases List.mem_cons.mp hw with rfl | hw
    · exact .tail _ (.head _)
    · exact kn_w (p.wb w hw)
  obtain ⟨sp, _, hl⟩ := spT_join kn (by have := p.la; have := p.lb; simp; omega)
  have ca : ("if" : Str) ∉ a := fun m => if_no (p.wa _ m)
  have cb : ("if" : Str) ∉ r.b := fun m => if_no (p.wb _ m)
  refine ⟨?_, hl⟩
  have := parse_ok (t := Txt.join " " (r.k :: (a ++ ("if" : Str) :: r.b))) (K := r.k) (rest := a ++ ("if" : Str) :: r.b) (a := a) (b := r.b) ⟨sp, p.ka, ⟨rfl, ca⟩, by rw [List.count_append, List.count_cons_self, List.count_eq_zero.mpr ca, List.count_eq_zero.mpr cb]⟩
    ⟨p.nd, fun w hw => hA.subset ((p.mem w).mp hw)⟩ ⟨(hB.trans s2).nodup W_nd, fun w hw => hB.subset hw⟩
  rw [this, ord_of (V := W) (hA.trans s1) a p.mem, ord_of (V := W) (hB.trans s2) r.b fun _ => Iff.rfl]
  rfl
/-! what is no check -/
def BadT (t : Str) : Prop := m_parse_check [.str t] = none ∧ mx_parse_check [.str t] = some ⟨"BadCheck", "line", .str t⟩
theorem no_t : ((kinds ++ W).all fun w => !sEq w "") = true := by kernel_rfl
theorem no_e : ("" : Str) ∉ kinds ++ W := fun m => by
  have := List.all_eq_true.mp no_t _ m
  rw [sEq_self] at this
  cases this
theorem bad_sp {t : Str} {r : Rl} (h : Ln t r) : BadT (t ++ " ") := by
  obtain ⟨a, p, rfl⟩ := ln_parts h
  have e : Txt.join " " (r.k :: (a ++ ("if" : Str) :: r.b)) ++ " " = Txt.join " " (r.k :: (a ++ ("if" : Str) :: (r.b ++ [("" : Str)]))) := tl_ext (by
    rw [TL.tl_append, tl_line, tl_line, tlS_app, tlS_app]
    show _ ++ (tlS a ++ ((32 :: TL.tl "if") ++ tlS r.b)) ++ TL.tl " " = _ ++ (tlS a ++ ((32 :: TL.tl "if") ++ tlS (r.b ++ [("" : Str)])))
    rw [tlS_app, show TL.tl (" " : Str) = [32] by kernel_rfl, show tlS [("" : Str)] = [32] by kernel_rfl]
    simp only [List.append_assoc])
  have kn := kn_line p (c := ("if" : Str) :: (r.b ++ [("" : Str)])) fun w hw => by
    rcases List.mem_cons.mp hw with rfl | hw
    · exact .tail _ (.head _)
    · rcases List.mem_append.mp hw with hw | hw
      · exact kn_w (p.wb w hw)
      · rw [List.mem_singleton.mp hw]; exact .head _
  obtain ⟨sp, as_, hl⟩ := spT_join kn (by have := p.la; have := p.lb; simp; omega)
  rw [e]
  refine parse_x sp (rok_t as_ hl) fun ⟨_, a', b', pt, _, f2⟩ => ?_
  obtain ⟨_, rfl⟩ := parted_uniq pt ⟨rfl, fun m => if_no (p.wa _ m)⟩
  exact no_e (List.mem_append_right _ ((kind_sub p.ka).2.subset (f2.2 "" (by simp))))
theorem bad_if {t : Str} {r : Rl} (h : Ln t r) : BadT (Txt.replace t " if" "") ∧ t.length + (t.length + 1) * ("" : Str).length ≤ 16777216 := by
  have lt := (ln_parse h).2
  obtain ⟨a, p, rfl⟩ := ln_parts h
  refine ⟨?_, by rw [show ("" : Str).length = 0 from rfl]; omega⟩
  rw [rp_line (List.mem_append_left _ p.ka) (fun w hw => List.mem_append_right _ (p.wa w hw)) fun w hw => List.mem_append_right _ (p.wb w hw)]
  obtain ⟨sp, as_, hl⟩ := spT_join (kn_line p (c := r.b) fun w hw => kn_w (p.wb w hw)) (by have := p.la; have := p.lb; simp; omega)
  refine parse_x sp (rok_t as_ hl) fun ⟨_, a', b', pt, _, _⟩ => ?_
  have m : ("if" : Str) ∈ a ++ r.b := by rw [pt.e]; simp
  rcases List.mem_append.mp m with m | m
  · exact if_no (p.wa _ m)
  · exact if_no (p.wb _ m)
theorem bad_no : BadT "" := by
  refine parse_x (K := "") (rest := []) ⟨by kernel_rfl, by decide +kernel, by decide⟩ (rok_t (by kernel_rfl) (by decide +kernel)) fun ⟨hk, _⟩ => no_e (List.mem_append_left _ hk)
end LW
namespace LW
open PySem FL
/-! ### reading the lines, as the law does -/
theorem sok_t : (kinds ++ W).all PyData.strOk = true := by kernel_rfl
theorem isr_rk {r : Rl} (h : IsR r) : Rk r := by
  obtain ⟨hk, hA, hB⟩ := h
  obtain ⟨s1, s2⟩ := kind_sub hk
  have c := cw_len r.k
  have la := hA.length_le
  have lb := hB.length_le
  have ok : ∀ w ∈ kinds ++ W, PyData.strOk w = true := fun w hw => List.all_eq_true.mp sok_t w hw
  exact ⟨by omega, by omega, ok _ (List.mem_append_left _ hk), List.all_eq_true.mpr fun w hw => ok w (List.mem_append_right _ ((hA.trans s1).subset hw)), List.all_eq_true.mpr fun w hw => ok w (List.mem_append_right _ ((hB.trans s2).subset hw))⟩
inductive Lns : List Str → List Rl → Prop
  | nil : Lns [] []
  | cons {t : Str} {r : Rl} {ts : List Str} {rs : List Rl} : Ln t r → Lns ts rs → Lns (t :: ts) (r :: rs)
theorem Lns.length {ts : List Str} {rs : List Rl} (h : Lns ts rs) : ts.length = rs.length := by
  induction h with
  | nil => rfl
  | cons _ _ ih => rw [List.length_cons, List.length_cons, ih]
theorem Lns.snoc {t : Str} {r : Rl} {ts : List Str} {rs : List Rl} (h : Lns ts rs) (l : Ln t r) : Lns (ts ++ [t]) (rs ++ [r]) := by
  induction h with
  | nil => exact .cons l .nil
  | cons a _ ih => exact .cons a ih
theorem Lns.isr {ts : List Str} {rs : List Rl} (h : Lns ts rs) : ∀ r ∈ rs, IsR r := by
  induction h with
  | nil => exact fun _ m => nomatch m
  | cons a _ ih => exact fun r m => (List.mem_cons.mp m).elim (fun e => by rw [e]; exact a.is) (ih r)
theorem Lns.get {ts : List Str} {rs : List Rl} (h : Lns ts rs) : ∀ {i : Nat} {t : Str}, ts[i]? = some t → ∃ r, Ln t r := by
  induction h with
  | nil => intro i t e; simp at e
  | cons a _ ih =>
    intro i t e
    cases i with
    | zero => cases e; exact ⟨_, a⟩
    | succ i => exact ih (by simpa using e)
theorem Lns.take {ts : List Str} {rs : List Rl} (h : Lns ts rs) : ∀ i : Nat, Lns (ts.take i) (rs.take i) := by
  induction h with
  | nil => intro i; cases i <;> exact .nil
  | cons a _ ih =>
    intro i
    cases i with
    | zero => exact .nil
    | succ i => exact .cons a (ih i)
theorem ln_asc {t : Str} {r : Rl} (h : Ln t r) : PyData.strOk t = true := by
  obtain ⟨a, p, rfl⟩ := ln_parts h
  have kn := kn_line p (c := ("if" : Str) :: r.b) fun w hw => by
    rcases List.mem_cons.mp hw with rfl | hw
    · exact .tail _ (.head _)
    · exact kn_w (p.wb w hw)
  obtain ⟨_, as_, _⟩ := spT_join kn (by have := p.la; have := p.lb; simp; omega)
  have hc := asc_all as_
  unfold PyData.strOk
  rw [Array.all_eq_true]
  intro i hi
  have := hc _ (Array.getElem_mem_toList hi)
  exact decide_eq_true (by omega)
theorem Lns.wok {ts : List Str} {rs : List Rl} (h : Lns ts rs) : wOk ts = true := by
  induction h with
  | nil => rfl
  | cons a _ ih =>
    show (PyData.strOk _ && wOk _) = true
    rw [ln_asc a, ih]
    rfl
abbrev pcF : FL.Env → Option D := eL (mL 1 m_parse_check) (aCons (eVar 2) aNil)
theorem pc_at {ρ : FL.Env} (hl : 2 < ρ.length) {t : Str} {o : Option D} (h : m_parse_check [.str t] = o) : pcF (ρ.set 2 (some (.str t))) = o := by
  unfold pcF eL
  rw [aCons_val (ds := []) (var_v (List.getElem?_set_self hl)) rfl]
  exact h
theorem compL_c {j : Nat} {E : FL.Env → Option D} {ρ : FL.Env} {d y : D} {ds ys : List D} (h : E (ρ.set j (some d)) = some y) (k : compL (gSet j) tYesE E ρ ds = some ys) : compL (gSet j) tYesE E ρ (d :: ds) = some (y :: ys) := by
  show (match E (ρ.set j (some d)) with
    | none => none
    | some y => match compL (gSet j) tYesE E ρ ds with | none => none | some ys => some (y :: ys)) = _
  rw [h, k]
theorem comp_lines {ts : List Str} {rs : List Rl} (h : Lns ts rs) {ρ : FL.Env} (hl : 2 < ρ.length) : compL (gSet 2) tYesE pcF ρ (Strs ts) = some (rs.map encRl) := by
  induction h with
  | nil => rfl
  | cons a _ ih => exact compL_c (pc_at hl (ln_parse a).1) ih
theorem comp_bad {ts : List Str} {rs : List Rl} (h : Lns ts rs) {t : Str} (hb : BadT t) (post : List Str) {ρ : FL.Env} (hl : 2 < ρ.length) : compL (gSet 2) tYesE pcF ρ (Strs (ts ++ t :: post)) = none := by
  induction h with
  | nil =>
    show (match pcF (ρ.set 2 (some (.str t))) with
      | none => none
      | some y => match compL (gSet 2) tYesE pcF ρ (Strs post) with | none => none | some ys => some (y :: ys)) = _
    rw [pc_at hl hb.1]
  | @cons t0 r0 ts0 rs0 a _ ih =>
    show (match pcF (ρ.set 2 (some (.str t0))) with
      | none => none
      | some y => match compL (gSet 2) tYesE pcF ρ (Strs (ts0 ++ t :: post)) with | none => none | some ys => some (y :: ys)) = _
    rw [pc_at hl (ln_parse a).1, ih]
theorem xcomp_bad {ts : List Str} {rs : List Rl} (h : Lns ts rs) {t : Str} (hb : BadT t) (post : List Str) {ρ : FL.Env} (hl : 2 < ρ.length) : xCompL (gSet 2) pcF (xCall 1 mx_parse_check (aCons (eVar 2) aNil)) ρ (Strs (ts ++ t :: post)) = some ⟨"BadCheck", "line", .str t⟩ := by
  induction h with
  | nil =>
    show (match pcF (ρ.set 2 (some (.str t))) with
      | some _ => xCompL (gSet 2) pcF (xCall 1 mx_parse_check (aCons (eVar 2) aNil)) ρ (Strs post)
      | none => xCall 1 mx_parse_check (aCons (eVar 2) aNil) (ρ.set 2 (some (.str t)))) = _
    rw [pc_at hl hb.1]
    dsimp only
    unfold xCall
    rw [aCons_val (ds := []) (var_v (List.getElem?_set_self hl)) rfl]
    exact hb.2
  | @cons t0 r0 ts0 rs0 a _ ih =>
    show (match pcF (ρ.set 2 (some (.str t0))) with
      | some _ => xCompL (gSet 2) pcF (xCall 1 mx_parse_check (aCons (eVar 2) aNil)) ρ (Strs (ts0 ++ t :: post))
      | none => xCall 1 mx_parse_check (aCons (eVar 2) aNil) (ρ.set 2 (some (.str t0)))) = _
    rw [pc_at hl (ln_parse a).1]
    exact ih
theorem iLs {i : Nat} {ρ : FL.Env} {xs : List D} (h : ρ[i]? = some (some (.lst xs))) : iSeq isLst (eVar i) ρ = some xs := iLst_v (var_v h)
theorem parsed_ok {ts : List Str} {rs : List Rl} (h : Lns ts rs) (hl : ts.length ≤ 50) : m_Book_parsed [.lst (Strs ts)] = some (bookD (once rs [])) := by
  show G_Book_parsed [none, some (.lst (Strs ts)), none] = _
  unfold G_Book_parsed
  refine mk_v (rs := rs) (comp_v (ds := Strs ts) (iLs rfl) (by rw [strs_len, PySem.sizeLine_eq]; omega) (comp_lines h (by rw [wipeE_len]; show 2 < 3; omega))) (by rw [← h.length]; omega)
theorem parsed_bad {ts : List Str} {rs : List Rl} (h : Lns ts rs) {t : Str} (hb : BadT t) (post : List Str) (hl : (ts ++ t :: post).length ≤ 50) : m_Book_parsed [.lst (Strs (ts ++ t :: post))] = none ∧ mx_Book_parsed [.lst (Strs (ts ++ t :: post))] = some ⟨"BadCheck", "line", .str t⟩ := by
  have hs : (Strs (ts ++ t :: post)).length ≤ sizeLine := by rw [strs_len, PySem.sizeLine_eq]; omega
  constructor
  · show G_Book_parsed [none, some (.lst (Strs (ts ++ t :: post))), none] = _
    unfold G_Book_parsed eMk
    rw [aCons_no]
    unfold eComp
    rw [iLs rfl]
    dsimp only
    rw [if_pos hs]
    have := comp_bad h hb post (ρ := wipeE [none, some (.lst (Strs (ts ++ t :: post))), none] [2]) (by rw [wipeE_len]; show 2 < 3; omega)
    rw [this]
  · show GX_Book_parsed [none, some (.lst (Strs (ts ++ t :: post))), none] = _
    unfold GX_Book_parsed xComp
    rw [iLs rfl]
    dsimp only
    rw [if_pos hs]
    exact xcomp_bad h hb post (by rw [wipeE_len]; show 2 < 3; omega)
theorem comp_id {j : Nat} : ∀ (ds : List D) (ρ : FL.Env), j < ρ.length → compL (gSet j) tYesE (eVar j) ρ ds = some ds
  | [], _, _ => rfl
  | d :: ds, ρ, hl => compL_c (var_v (List.getElem?_set_self hl)) (comp_id ds ρ hl)
theorem own_v {i : Nat} {ρ : FL.Env} {xs : List D} (h : ρ[i]? = some (some (.ins "Book" ["_checks"] [.tup xs]))) : iOwn "Book" "_checks" (eVar i) ρ = some xs := by
  unfold iOwn
  rw [var_v h]
  rfl
theorem parsing_ok {ts : List Str} {rs : List Rl} (h : Lns ts rs) (hl : ts.length ≤ 50) : m__law_parsing [.lst (Strs ts)] = some (.lst ((once rs []).map encRl)) := by
  refine runD_rt ?_
  show G__law_parsing [some (.lst (Strs ts)), none, none, none] = _
  unfold G__law_parsing
  refine try_nx (ρ' := [some (.lst (Strs ts)), some (bookD (once rs [])), none, none]) (seq_set (d := bookD (once rs [])) (eL_val (ds := [.lst (Strs ts)]) rfl (mL_val rfl (parsed_ok h hl))) rfl) (seq_fg (seq_ret ?_))
  have ol := once_len rs []
  rw [← h.length] at ol
  refine comp_v (ds := (once rs []).map encRl) (own_v rfl) (by rw [List.length_map, PySem.sizeLine_eq]; simp at ol; omega) (comp_id _ _ (by rw [wipeE_len]; show 3 < 4; omega))
theorem parsing_bad {ts : List Str} {rs : List Rl} (h : Lns ts rs) {t : Str} (hb : BadT t) (post : List Str) (hl : (ts ++ t :: post).length ≤ 50) : m__law_parsing [.lst (Strs (ts ++ t :: post))] = some (.lst [.bl true, .str t]) := by
  obtain ⟨h1, h2⟩ := parsed_bad h hb post hl
  refine runD_rt ?_
  show G__law_parsing [some (.lst (Strs (ts ++ t :: post))), none, none, none] = _
  unfold G__law_parsing
  generalize hX : Strs (ts ++ t :: post) = X at h1 h2
  refine try_x (ρ' := [some (.lst X), none, none, none]) (e := .str t) ?_ ?_ (by show 2 < 4; omega) rfl
  · unfold sSeq sSet
    have e : eL (mL 1 m_Book_parsed) (aCons (eVar 0) aNil) [some (.lst X), none, none, none] = none := eL_val (ds := [.lst X]) rfl (mL_val rfl h1)
    rw [e]
  · unfold xHere xCall
    rw [show aCons (eVar 0) aNil [some (.lst X), none, none, none] = some [.lst X] from rfl]
    dsimp only
    rw [if_pos (show [D.lst X].length = 1 from rfl), h2]
end LW
namespace LW
open PySem FL
/-! ### the freest books, by tables -/
def PRo : List Str := ["shut", "stays", "fixed", "never"]
def chW (m : Nat) : List Str := (if m.testBit 0 then ([("shut" : Str)] : List Str) else []) ++ ((if m.testBit 1 then ([("stays" : Str)] : List Str) else []) ++ ((if m.testBit 2 then ([("fixed" : Str)] : List Str) else []) ++ (if m.testBit 3 then ([("never" : Str)] : List Str) else [])))
def frR : FL.Env → Option Out := (sForget [0] (sSeq (sRet (eMk "Book" fs_Book___init__ 1 m_Book___init__ (aCons (eCompN [] [2, 3] (iSeq isLst (eVar 1)) (gSet 2) (cF [3] (iSeq isTup (e1 (tbItem tb_FREEST) (eVar 2))) (gSet 3) (cE (eL (mL 1 m_parse_check) (aCons (eVar 3) aNil))))) aNil)))
    sNil))
def rtB (r : D) : Bool := match m_format_check [r] with
  | some t => (match m_parse_check [t] with | some q => (match m__law_is_same 6 [q, r] with | some (.bl b) => b | _ => false) | none => false)
  | none => false
def chk (o : Option Out) : Bool := match o with
  | some (.rt (.ins c fs [.tup xs])) => decide (c = ("Book" : Str)) && (decide (fs = ([("_checks" : Str)] : List Str)) && (decide (xs.length ≤ 40) && xs.all rtB))
  | _ => false
def frE (m : Nat) : FL.Env := [some (.non), some (.lst (Strs (chW m))), none, none]
theorem fr_0 : chk (frR (frE 0)) = true := by kernel_rfl
theorem fr_1 : chk (frR (frE 1)) = true := by kernel_rfl
theorem fr_2 : chk (frR (frE 2)) = true := by kernel_rfl
theorem fr_3 : chk (frR (frE 3)) = true := by kernel_rfl
theorem fr_4 : chk (frR (frE 4)) = true := by kernel_rfl
theorem fr_5 : chk (frR (frE 5)) = true := by kernel_rfl
theorem fr_6 : chk (frR (frE 6)) = true := by kernel_rfl
theorem fr_7 : chk (frR (frE 7)) = true := by kernel_rfl
theorem fr_8 : chk (frR (frE 8)) = true := by kernel_rfl
theorem fr_9 : chk (frR (frE 9)) = true := by kernel_rfl
theorem fr_10 : chk (frR (frE 10)) = true := by kernel_rfl
theorem fr_11 : chk (frR (frE 11)) = true := by kernel_rfl
theorem fr_12 : chk (frR (frE 12)) = true := by kernel_rfl
theorem fr_13 : chk (frR (frE 13)) = true := by kernel_rfl
theorem fr_14 : chk (frR (frE 14)) = true := by kernel_rfl
theorem fr_15 : chk (frR (frE 15)) = true := by kernel_rfl
theorem fr_all {m : Nat} (h : m < 16) : chk (frR (frE m)) = true := by
  rcases (show m = 0 ∨ m = 1 ∨ m = 2 ∨ m = 3 ∨ m = 4 ∨ m = 5 ∨ m = 6 ∨ m = 7 ∨ m = 8 ∨ m = 9 ∨ m = 10 ∨ m = 11 ∨ m = 12 ∨ m = 13 ∨ m = 14 ∨ m = 15 by omega) with rfl | rfl | rfl | rfl | rfl | rfl | rfl | rfl | rfl | rfl | rfl | rfl | rfl | rfl | rfl | rfl
  · exact fr_0
  · exact fr_1
  · exact fr_2
  · exact fr_3
  · exact fr_4
  · exact fr_5
  · exact fr_6
  · exact fr_7
  · exact fr_8
  · exact fr_9
  · exact fr_10
  · exact fr_11
  · exact fr_12
  · exact fr_13
  · exact fr_14
  · exact fr_15
theorem rtB_v {r : D} (h : rtB r = true) : ∃ t q, m_format_check [r] = some t ∧ m_parse_check [t] = some q ∧ m__law_is_same 6 [q, r] = some (.bl true) := by
  unfold rtB at h
  split at h
  case h_2 => cases h
  rename_i t e1
  split at h
  case h_2 => cases h
  rename_i q e2
  split at h
  case h_2 => cases h
  rename_i b e3
  subst h
  exact ⟨t, q, e1, e2, e3⟩
theorem chk_v {o : Option Out} (h : chk o = true) : ∃ xs : List D, o = some (.rt (.ins "Book" ["_checks"] [.tup xs])) ∧ xs.length ≤ 40 ∧ ∀ r ∈ xs, ∃ t q, m_format_check [r] = some t ∧ m_parse_check [t] = some q ∧ m__law_is_same 6 [q, r] = some (.bl true) := by
  unfold chk at h
  split at h
  case h_2 => cases h
  rename_i c fs xs
  simp only [Bool.and_eq_true, decide_eq_true_eq] at h
  obtain ⟨rfl, rfl, h3, h4⟩ := h
  exact ⟨xs, rfl, h3, fun r hr => rtB_v (List.all_eq_true.mp h4 r hr)⟩
theorem ch_v (P : Str → Bool) : ∃ m, m < 16 ∧ PRo.filter P = chW m := by
  unfold PRo
  cases h0 : P ("shut" : Str) <;> cases h1 : P ("stays" : Str) <;> cases h2 : P ("fixed" : Str) <;> cases h3 : P ("never" : Str) <;> simp only [List.filter_cons, List.filter_nil, h0, h1, h2, h3, if_true, if_false, Bool.false_eq_true]
  · exact ⟨0, by decide, rfl⟩
  · exact ⟨8, by decide, rfl⟩
  · exact ⟨4, by decide, rfl⟩
  · exact ⟨12, by decide, rfl⟩
  · exact ⟨2, by decide, rfl⟩
  · exact ⟨10, by decide, rfl⟩
  · exact ⟨6, by decide, rfl⟩
  · exact ⟨14, by decide, rfl⟩
  · exact ⟨1, by decide, rfl⟩
  · exact ⟨9, by decide, rfl⟩
  · exact ⟨5, by decide, rfl⟩
  · exact ⟨13, by decide, rfl⟩
  · exact ⟨3, by decide, rfl⟩
  · exact ⟨11, by decide, rfl⟩
  · exact ⟨7, by decide, rfl⟩
  · exact ⟨15, by decide, rfl⟩
theorem freest_v (Wl : List Str) : ∃ xs : List D, m_Book_freest [.lst (Strs Wl)] = some (.ins "Book" ["_checks"] [.tup xs]) ∧ xs.length ≤ 40 ∧ ∀ r ∈ xs, ∃ t q, m_format_check [r] = some t ∧ m_parse_check [t] = some q ∧ m__law_is_same 6 [q, r] = some (.bl true) := by
  obtain ⟨m, hm, e⟩ := ch_v fun x => inS x Wl
  obtain ⟨xs, h1, h2, h3⟩ := chk_v (fr_all hm)
  refine ⟨xs, runD_rt ?_, h2, h3⟩
  show G_Book_freest [some (.lst (Strs Wl)), none, none, none] = _
  unfold G_Book_freest
  refine seq_set (d := .lst (Strs (chW m))) (comp_v (ds := Strs PRo) rfl (by decide +kernel) ?_) ?_
  · rw [← e]
    have h := compL_if (i := 2) (T := tB blD (e2 inD (eVar 2) (eVar 0))) (E := eVar 2) (ρ := wipeE [some (.lst (Strs Wl)), none, none, none] [2]) (fun d => match d with | .str x => inS x Wl | _ => false) id (Strs PRo) (fun d hd => by
      obtain ⟨x, _, rfl⟩ := List.mem_map.mp hd
      exact ⟨tB_val (e2_val (x := .str x) (y := .lst (Strs Wl)) rfl rfl (in_lst x Wl)) rfl, rfl⟩)
    refine h.trans ?_
    rw [List.map_id]
    unfold Strs
    rw [List.filter_map]
    rfl
  · exact h1
end LW
namespace LW
open PySem FL
/-! ### the law's wish, what it hears, what is broken -/
def prW : List Str := ["shut", "stays", "fixed", "never"]
theorem wish_v (z : Int) : ∃ W : List Str, W.length ≤ 4 ∧ m__law_wish [.int z] = some (.lst (Strs W)) := by
  have hc : ∃ W : List Str, W.length ≤ 4 ∧ eComp [3] (iRng1 (aCons (eC (.int 4)) aNil)) (gSet 3) (tB blD (e2 eqD (e2 modD (eL intD (aCons (e2 fdivD (eVar 0) (e2 ixD (eL lstD (aK [(.int 1), (.int 2), (.int 4), (.int 8)])) (eVar 3))) aNil)) (eC (.int 2))) (eC (.int 1)))) (e2 ixD (eVar 1) (eVar 3)) [some (.int z), some (.lst (Strs prW)), none, none] = some (.lst (Strs W)) := by
    have h := compL_if (i := 3) (T := tB blD (e2 eqD (e2 modD (eL intD (aCons (e2 fdivD (eVar 0) (e2 ixD (eL lstD (aK [(.int 1), (.int 2), (.int 4), (.int 8)])) (eVar 3))) aNil)) (eC (.int 2))) (eC (.int 1)))) (E := e2 ixD (eVar 1) (eVar 3)) (ρ := [some (.int z), some (.lst (Strs prW)), none, none]) (fun d => match d with | .int k => z / [1, 2, 4, 8].getD k.toNat 1 % 2 == 1 | _ => false) (fun d => match d with | .int k => .str (prW.getD k.toNat "") | _ => .non) (rngD 0 4) (fun d hd => by
      have fd : ∀ (c k : Int), 0 < c → c < 1073741824 → e2 ixD (eL lstD (aK [(.int 1), (.int 2), (.int 4), (.int 8)])) (eVar 3) [some (.int z), some (.lst (Strs prW)), none, some (.int k)] = some (.int c) → tB blD (e2 eqD (e2 modD (eL intD (aCons (e2 fdivD (eVar 0) (e2 ixD (eL lstD (aK [(.int 1), (.int 2), (.int 4), (.int 8)])) (eVar 3))) aNil)) (eC (.int 2))) (eC (.int 1))) [some (.int z), some (.lst (Strs prW)), none, some (.int k)] = some (z / c % 2 == 1) := fun c k h1 h2 h3 =>
        teq_v (mod_v 2 (by decide) (int_v (e2_val (x := .int z) (y := .int c) rfl h3 (by unfold fdivD; simp [h1, h2])))) rfl
      have hd' : d ∈ [D.int 0, .int 1, .int 2, .int 3] := hd
      simp only [List.mem_cons, List.not_mem_nil, or_false] at hd'
      rcases hd' with rfl | rfl | rfl | rfl
      · exact ⟨fd 1 0 (by decide) (by decide) (by kernel_rfl), by kernel_rfl⟩
      · exact ⟨fd 2 1 (by decide) (by decide) (by kernel_rfl), by kernel_rfl⟩
      · exact ⟨fd 4 2 (by decide) (by decide) (by kernel_rfl), by kernel_rfl⟩
      · exact ⟨fd 8 3 (by decide) (by decide) (by kernel_rfl), by kernel_rfl⟩)
    refine ⟨((rngD 0 4).filter fun d => match d with | .int k => z / [1, 2, 4, 8].getD k.toNat 1 % 2 == 1 | _ => false).map fun d => match d with | .int k => prW.getD k.toNat "" | _ => "", ?_, comp_v (ds := rngD 0 4) rfl (by rw [rngD_len, PySem.sizeLine_eq]; decide) (h.trans ?_)⟩
    · rw [List.length_map]
      have := List.length_filter_le (fun d => match d with | .int k => z / [1, 2, 4, 8].getD k.toNat 1 % 2 == 1 | _ => false) (rngD 0 4)
      rw [rngD_len] at this
      exact this
    · refine congrArg some ?_
      show _ = List.map D.str (List.map _ _)
      rw [List.map_map]
      refine List.map_congr_left fun d hd => ?_
      have hd' : d ∈ rngD 0 4 := (List.mem_filter.mp hd).1
      unfold rngD at hd'
      obtain ⟨k, _, rfl⟩ := List.mem_map.mp hd'
      rfl
  obtain ⟨W, hW, e⟩ := hc
  have e3 : ∀ ρ : FL.Env, ρ[0]? = some (some (.int z)) → tB blD (e2 eqD (e2 modD (eL intD (aCons (e2 fdivD (eVar 0) (eC (.int 16))) aNil)) (eC (.int 2))) (eC (.int 1))) ρ = some (z / 16 % 2 == 1) := fun ρ h => teq_v (mod_v 2 (by decide) (int_v (fdiv_v 16 (by decide) (var_v h)))) rfl
  cases hb : (z / 16 % 2 == 1) with
  | true =>
    refine ⟨W.reverse, by rw [List.length_reverse]; exact hW, runD_rt ?_⟩
    unfold G__law_wish
    refine seq_set (d := .lst (Strs prW)) rfl (seq_set e (seq_fg (seq_t ((e3 _ rfl).trans (by rw [hb])) (seq_as (seq_ret ?_)))))
    show some (D.lst (List.map D.str W).reverse) = some (D.lst (List.map D.str W.reverse))
    rw [List.map_reverse]
  | false =>
    refine ⟨W, hW, runD_rt ?_⟩
    unfold G__law_wish
    exact seq_set (d := .lst (Strs prW)) rfl (seq_set e (seq_fg (seq_f ((e3 _ rfl).trans (by rw [hb])) (seq_nil (seq_fg (seq_ret rfl))))))
/-! ### the law -/
theorem once_snoc (r : Rl) : ∀ (rs acc : List Rl), once (rs ++ [r]) acc = if mem r (once rs acc) = true then once rs acc else once rs acc ++ [r]
  | [], acc => rfl
  | x :: rs, acc => by
    have e1 : once ((x :: rs) ++ [r]) acc = if mem x acc = true then once (rs ++ [r]) acc else once (rs ++ [r]) (acc ++ [x]) := rfl
    have e2 : once (x :: rs) acc = if mem x acc = true then once rs acc else once rs (acc ++ [x]) := rfl
    rw [e1, e2]
    split
    · exact once_snoc r rs acc
    · exact once_snoc r rs (acc ++ [x])
def lwE (S : D) (mn : Nat) (ds : List Int) (rs : List Rl) (ts : List Str) (x5 x6 x7 : Option D) : FL.Env :=
  [some S, some (.int (mn : Int)), some (.lst (ds.map D.int)), some (.lst (rs.map encRl)), some (.lst (Strs ts)), x5, x6, x7, none, none, none, none]
theorem dr_v {ds : List Int} {ρ : FL.Env} {F : FL.Env → Option D} {z : Int} (k : Nat) (h : ρ[2]? = some (some (.lst (ds.map D.int)))) (hF : F ρ = some (.int z)) (hz : z = (k : Int)) (hk : k < ds.length) : e2 ixD (eVar 2) F ρ = some (.int (ds.getD k 0)) := by
  subst hz
  exact e2_val (var_v h) hF (at_v hk)
theorem two_v {F : FL.Env → Option D} {ρ : FL.Env} {z : Int} (h : F ρ = some (.int z)) : e2 mulD (eC (.int 2)) F ρ = some (.int (2 * z)) := mul_v rfl h (.inl ⟨by decide, by decide⟩)
theorem body_v {S : D} {mn : Nat} {ds : List Int} {rs : List Rl} {ts : List Str} (hL : Lns ts rs) {i : Nat} (hi : 2 * i + 1 < ds.length) (hs : ts.length ≤ 20) {x6 x7 : Option D} :
    ∃ r t y6 y7, Ln t r ∧ L_law_0 (lwE S mn ds (once rs []) ts (some (.int (0 + (i : Int)))) x6 x7) = some (.nx (lwE S mn ds (once (rs ++ [r]) []) (ts ++ [t]) (some (.int (0 + (i : Int)))) y6 y7)) := by
  obtain ⟨_, hr, r, rfl, isr⟩ := rule_sub (ds.getD (2 * i) 0) (ds.getD (2 * i + 1) 0)
  have hrl := hL.length
  have ol := once_len rs []
  rw [List.length_nil, Nat.zero_add] at ol
  have rk := isr_rk isr
  have rks : ∀ x ∈ once rs [], Rk x := fun x hx => isr_rk (hL.isr x ((once_sub rs [] x hx).resolve_left (fun m => nomatch m)))
  have d0 : ∀ {x6 x7 : Option D}, e2 ixD (eVar 2) (e2 mulD (eC (.int 2)) (eVar 5)) (lwE S mn ds (once rs []) ts (some (.int (0 + (i : Int)))) x6 x7) = some (.int (ds.getD (2 * i) 0)) := fun {x6 x7} => dr_v (2 * i) rfl (two_v rfl) (by omega) (by omega)
  have d1 : ∀ {x6 x7 : Option D}, e2 ixD (eVar 2) (e2 addD (e2 mulD (eC (.int 2)) (eVar 5)) (eC (.int 1))) (lwE S mn ds (once rs []) ts (some (.int (0 + (i : Int)))) x6 x7) = some (.int (ds.getD (2 * i + 1) 0)) := fun {x6 x7} => dr_v (2 * i + 1) rfl (add_v (two_v rfl) rfl) (by omega) hi
  -- behind the claim
  have rest : ∀ a : List Str, (a = r.a ∨ a = r.a.reverse) → ∃ t, Ln t r ∧ sSeq (sMut 4 appendF (aCons (eM joinD (eC (.str " ")) (aCons (e2 addD (e2 addD (e2 addD (eL lstD (aCons (e2 ixD (eVar 6) (eC (.int 0))) aNil)) (eVar 7)) (eL lstD (aCons (eC (.str "if")) aNil))) (eL listOf (aCons (e2 ixD (eVar 6) (eC (.int 2))) aNil))) aNil)) aNil))
    (sSeq (sIf (tB blD (e2 ninD (eVar 6) (eVar 3)))
      (sSeq (sMut 3 appendF (aCons (eVar 6) aNil))
    sNil)
      sNil)
    sNil) (lwE S mn ds (once rs []) ts (some (.int (0 + (i : Int)))) (some (encRl r)) (some (.lst (Strs a)))) = some (.nx (lwE S mn ds (once (rs ++ [r]) []) (ts ++ [t]) (some (.int (0 + (i : Int)))) (some (encRl r)) (some (.lst (Strs a))))) := fun a ha => by
    have ln : Ln (Txt.join " " (r.k :: (a ++ ("if" : Str) :: r.b))) r := ⟨isr, a, ha, rfl⟩
    refine ⟨_, ln, ?_⟩
    obtain ⟨a', p, ea⟩ := ln_parts ln
    have la : a.length ≤ 6 := by
      have : a.length = r.a.length := by rcases ha with rfl | rfl <;> simp
      have := isr.2.1.length_le
      have := (cw_len r.k).1
      omega
    have lb := p.lb
    have wa : ∀ w ∈ a, w ∈ W := fun w hw => ((isr.2.1).trans (kind_sub isr.1).1).subset (by rcases ha with rfl | rfl; exact hw; exact List.mem_reverse.mp hw)
    generalize hρ : lwE S mn ds (once rs []) ts (some (.int (0 + (i : Int)))) (some (encRl r)) (some (.lst (Strs a))) = ρ
    have ws : e2 addD (e2 addD (e2 addD (eL lstD (aCons (e2 ixD (eVar 6) (eC (.int 0))) aNil)) (eVar 7)) (eL lstD (aCons (eC (.str "if")) aNil))) (eL listOf (aCons (e2 ixD (eVar 6) (eC (.int 2))) aNil)) ρ = some (.lst (Strs (r.k :: (a ++ ("if" : Str) :: r.b)))) := by
      have := add_strs (ρ := ρ) (F := e2 addD (e2 addD (eL lstD (aCons (e2 ixD (eVar 6) (eC (.int 0))) aNil)) (eVar 7)) (eL lstD (aCons (eC (.str "if")) aNil))) (G := eL listOf (aCons (e2 ixD (eVar 6) (eC (.int 2))) aNil)) (xs := ([r.k] ++ a) ++ [("if" : Str)]) (ys := r.b)
        (add_strs (xs := [r.k] ++ a) (ys := [("if" : Str)]) (add_strs (xs := [r.k]) (ys := a) (by subst hρ; rfl) (by subst hρ; rfl) (by simp; omega)) (by subst hρ; rfl) (by simp; omega)) (by subst hρ; rfl) (by simp; omega)
      rw [this]
      simp
    have jn : aCons (eM joinD (eC (.str " ")) (aCons (e2 addD (e2 addD (e2 addD (eL lstD (aCons (e2 ixD (eVar 6) (eC (.int 0))) aNil)) (eVar 7)) (eL lstD (aCons (eC (.str "if")) aNil))) (eL listOf (aCons (e2 ixD (eVar 6) (eC (.int 2))) aNil))) aNil)) aNil ρ = some [.str (Txt.join " " (r.k :: (a ++ ("if" : Str) :: r.b)))] := by
      refine aCons_val ?_ rfl
      unfold eM
      rw [show eC (.str " ") ρ = some (.str " ") from rfl, aCons_val ws rfl]
      dsimp only
      refine join_v (fun z hz => okw_len (kw_of (?_ : z ∈ knW)).1) (by simp; omega)
      rcases List.mem_cons.mp hz with rfl | hz
      · exact kn_k isr.1
      · rcases List.mem_append.mp hz with h | h
        · exact kn_w (wa z h)
        · rcases List.mem_cons.mp h with rfl | h
          · exact .tail _ (.head _)
          · exact kn_w (p.wb z h)
    refine seq_mut (xs := Strs ts) (ys := Strs (ts ++ [Txt.join " " (r.k :: (a ++ ("if" : Str) :: r.b))])) jn (by subst hρ; rfl) ?_ ?_
    · show (if (Strs ts).length < sizeLine then some (Strs ts ++ [D.str _]) else none) = _
      rw [if_pos (by rw [strs_len, PySem.sizeLine_eq]; omega)]
      unfold Strs
      rw [List.map_append]
      rfl
    subst hρ
    show sSeq _ _ (lwE S mn ds (once rs []) (ts ++ [_]) (some (.int (0 + (i : Int)))) (some (encRl r)) (some (.lst (Strs a)))) = _
    refine seq_if (b := !mem r (once rs [])) (tB_val (e2_val (x := encRl r) (y := .lst ((once rs []).map encRl)) rfl rfl (nin_lrl rk rks)) rfl) (fun e => ?_) fun e => ?_
    · refine seq_as (seq_app (d := encRl r) rfl rfl (by rw [List.length_map]; omega) (seq_nil ?_))
      rw [once_snoc, if_neg (by rw [Bool.not_eq_true']  at e; rw [e]; exact Bool.false_ne_true)]
      show some (Out.nx [_, _, _, some (D.lst ((once rs []).map encRl ++ [encRl r])), _, _, _, _, _, _, _, _]) = _
      unfold lwE
      rw [List.map_append]
      rfl
    · refine seq_nil ?_
      rw [once_snoc, if_pos (by simpa using e)]
      rfl
  unfold L_law_0
  refine ⟨r, ?_⟩
  cases hb : (ds.getD (2 * i) 0 % 2 == 1) with
  | true =>
    obtain ⟨t, l, e⟩ := rest r.a.reverse (.inr rfl)
    refine ⟨t, some (encRl r), some (.lst (Strs r.a.reverse)), l, seq_set (d := encRl r) (eL_val (ds := [.int (ds.getD (2 * i) 0), .int (ds.getD (2 * i + 1) 0)]) (aCons_val d0 (aCons_val d1 rfl)) (mL_val rfl hr)) ?_⟩
    refine seq_set (d := .lst (Strs r.a)) rfl ?_
    show sSeq _ _ (lwE S mn ds (once rs []) ts (some (.int (0 + (i : Int)))) (some (encRl r)) (some (.lst (Strs r.a)))) = _
    refine seq_t ((teq_v (mod_v 2 (by decide) (int_v d0)) rfl).trans (by rw [hb])) (seq_as (seq_set (d := .lst (Strs r.a.reverse)) ?_ (seq_nil e)))
    show some (D.lst (Strs r.a).reverse) = _
    unfold Strs
    rw [List.map_reverse]
  | false =>
    obtain ⟨t, l, e⟩ := rest r.a (.inl rfl)
    refine ⟨t, some (encRl r), some (.lst (Strs r.a)), l, seq_set (d := encRl r) (eL_val (ds := [.int (ds.getD (2 * i) 0), .int (ds.getD (2 * i + 1) 0)]) (aCons_val d0 (aCons_val d1 rfl)) (mL_val rfl hr)) ?_⟩
    refine seq_set (d := .lst (Strs r.a)) rfl ?_
    show sSeq _ _ (lwE S mn ds (once rs []) ts (some (.int (0 + (i : Int)))) (some (encRl r)) (some (.lst (Strs r.a)))) = _
    exact seq_f ((teq_v (mod_v 2 (by decide) (int_v d0)) rfl).trans (by rw [hb])) (seq_nil e)
/-! ### the law, as a whole -/
theorem own_g {F : FL.Env → Option D} {ρ : FL.Env} {xs : List D} (h : F ρ = some (.ins "Book" ["_checks"] [.tup xs])) : iOwn "Book" "_checks" F ρ = some xs := by
  unfold iOwn
  rw [h]
  rfl
theorem lp_c {g : D → FL.Env → Option FL.Env} {B : FL.Env → Option Out} {d : D} {ds : List D} {ρ ρ1 ρ2 : FL.Env} {o : Option Out} (h1 : g d ρ = some ρ1) (h2 : B ρ1 = some (.nx ρ2)) (k : loopF g B ds ρ2 = o) : loopF g B (d :: ds) ρ = o := by
  unfold loopF
  rw [h1]
  simp only [h2]
  exact k
def frZ (x6 : Option D) (A : List D) : FL.Env := [none, none, none, none, none, none, x6, none, none, none, none, some (.lst A)]
theorem loop1 (A : List D) : ∀ (xs : List D) (x6 : Option D), (∀ r ∈ xs, ∃ t q, m_format_check [r] = some t ∧ m_parse_check [t] = some q ∧ m__law_is_same 6 [q, r] = some (.bl true)) → ∃ y6, loopF (gSet 6) L_law_1 xs (frZ x6 A) = some (.nx (frZ y6 A))
  | [], x6, _ => ⟨x6, by simp [loopF]⟩
  | r :: xs, x6, h => by
    obtain ⟨t, q, h1, h2, h3⟩ := h r (.head _)
    obtain ⟨y6, e⟩ := loop1 A xs (some r) fun x hx => h x (.tail _ hx)
    refine ⟨y6, lp_c (ρ1 := frZ (some r) A) (ρ2 := frZ (some r) A) rfl ?_ e⟩
    unfold L_law_1
    exact seq_f (not_val (b := true) (tB_val (x := .bl true) (eL_val (ds := [q, r]) (aCons_val (eL_val (ds := [t]) (aCons_val (eL_val (ds := [r]) rfl (mL_val rfl h1)) rfl) (mL_val rfl h2)) rfl) (mL_val rfl h3)) rfl)) (seq_nil rfl)
theorem same_rules (X : List Rl) (hX : X.length ≤ 50) (h : ∀ r ∈ X, IsR r) : m__law_is_same 6 [.lst (X.map encRl), .lst (X.map encRl)] = some (.bl true) := by
  show isSame 6 [.lst (X.map encRl), .lst (X.map encRl)] = _
  refine isSame_refl 6 _ ?_
  show (decide ((X.map encRl).length < 1000000) && (X.map encRl).all (okS 5)) = true
  rw [decide_eq_true (by rw [List.length_map]; omega), Bool.true_and, List.all_eq_true]
  intro d hd
  obtain ⟨r, hr, rfl⟩ := List.mem_map.mp hd
  have la := (h r hr).2.1.length_le
  have lb := (h r hr).2.2.length_le
  have c := cw_len r.k
  have st : ∀ (n : Nat) (l : List Str), (Strs l).all (okS (n + 1)) = true := fun n l => by
    rw [List.all_eq_true]
    intro d hd
    obtain ⟨x, _, rfl⟩ := List.mem_map.mp hd
    rfl
  show (decide ((3 : Nat) < 1000000) && (true && ((decide ((Strs r.a).length < 1000000) && (Strs r.a).all (okS 3)) && ((decide ((Strs r.b).length < 1000000) && (Strs r.b).all (okS 3)) && true)))) = true
  rw [st 2, st 2, strs_len, strs_len, decide_eq_true (show r.a.length < 1000000 by omega), decide_eq_true (show r.b.length < 1000000 by omega)]
  rfl
theorem ne_strs {ts : List Str} (h : wOk ts = true) : neD (.lst (Strs ts)) (.lst (Strs ts)) = some (.bl false) := by
  have ok : okD (.lst (Strs ts)) = true := by
    show (PyData.canLayAll0 (toPyAll (Strs ts)) && decide (PyData.depthAll (toPyAll (Strs ts)) + 1 ≤ 64)) = true
    rw [lay_strs, h, dep_strs]
    rfl
  unfold neD eqB
  show (match (if (okD (.lst (Strs ts)) && okD (.lst (Strs ts))) = true then some (deq (.lst (Strs ts)) (.lst (Strs ts))) else none) with | some b => some (D.bl (!b)) | none => none) = _
  rw [ok, if_pos (show (true && true) = true from rfl), show deq (.lst (Strs ts)) (.lst (Strs ts)) = true from deqA_strs.mpr rfl]
  rfl
theorem set_strs (ts : List Str) (k : Nat) (b : Str) (hk : k < ts.length) : (Strs ts).set k (.str b) = Strs (ts.take k ++ b :: ts.drop (k + 1)) := by
  unfold Strs
  rw [← List.map_set, List.set_eq_take_append_cons_drop, if_pos hk]
theorem three (z : Int) : ∃ j : Nat, j < 3 ∧ z % 3 = (j : Int) := ⟨(z % 3).toNat, by omega, by omega⟩
theorem law_true (ns : List Int) (_ : ns.length ≤ 63) : m_law [.klst (ns.map D.int)] = some (.bl true) := by
  have ac : ∀ k : Nat, m__law_cell [scr ns, .int (k : Int)] = some (.int (ns.getD k 0)) := fun k => cell_eq ns k
  show m_law [scr ns] = _
  generalize scr ns = S at ac ⊢
  have cl : ∀ (ρ : FL.Env) (k : Nat) (F : FL.Env → Option D), ρ[0]? = some (some S) → F ρ = some (.int (k : Int)) → eL (mL 2 m__law_cell) (aCons (eVar 0) (aCons F aNil)) ρ = some (.int (ns.getD k 0)) := fun ρ k F h hF => eL_val (ds := [S, .int (k : Int)]) (aCons_val (var_v h) (aCons_val hF rfl)) (mL_val rfl (ac k))
  obtain ⟨mn, hm9, hmn⟩ : ∃ mn : Nat, mn < 9 ∧ ns.getD 1 0 % 9 = (mn : Int) := ⟨(ns.getD 1 0 % 9).toNat, by omega, by omega⟩
  obtain ⟨ds, hd, hdl, _⟩ := draws_form (ns.getD 0 0) (2 * mn + 3) (by omega)
  have hd' : m__law_draws [.int (ns.getD 0 0), .int ((2 * mn + 3 : Nat) : Int)] = some (.lst (ds.map D.int)) := hd
  obtain ⟨Wl, _, hw⟩ := wish_v (ns.getD 2 0)
  obtain ⟨xs, hf, hxl, hxg⟩ := freest_v Wl
  -- the loop
  have loop : ∃ ρ', sFor (iRng1 (aCons (eVar 1) aNil)) (gSet 5) L_law_0 (lwE S mn ds [] [] none none none) = some (.nx ρ') ∧ ∃ (rs : List Rl) (ts : List Str) (x5 x6 x7 : Option D), Lns ts rs ∧ ts.length = mn ∧ ρ' = lwE S mn ds (once rs []) ts x5 x6 x7 := by
    refine nx_for (J := fun i ρ => ∃ (rs : List Rl) (ts : List Str) (x5 x6 x7 : Option D), Lns ts rs ∧ ts.length = i ∧ ρ = lwE S mn ds (once rs []) ts x5 x6 x7) (ds := rngD 0 mn) ?_ ⟨[], [], none, none, none, .nil, rfl, rfl⟩ (fun i ρ d hJ hd => ?_) (fun ρ' hJ => ?_)
    · have := rng_v (F := eVar 1) (ρ := lwE S mn ds [] [] none none none) (j := (mn : Int)) rfl ⟨by omega, by omega⟩
      rwa [Int.toNat_natCast] at this
    · obtain ⟨rs, ts, x5, x6, x7, hL, hl, rfl⟩ := hJ
      obtain ⟨hi, rfl⟩ := rngD_get hd
      obtain ⟨r, t, y6, y7, ln, e⟩ := body_v (S := S) (mn := mn) (ds := ds) hL (i := i) (by omega) (by omega) (x6 := x6) (x7 := x7)
      exact ⟨_, _, rfl, e, rs ++ [r], ts ++ [t], _, y6, y7, hL.snoc ln, by rw [List.length_append, hl]; rfl, rfl⟩
    · rw [rngD_len] at hJ
      exact hJ
  obtain ⟨_, hfor, rs, ts, x5, x6, x7, hL, hl, rfl⟩ := loop
  have hrl := hL.length
  have ol := once_len rs []
  rw [List.length_nil, Nat.zero_add] at ol
  have oi : ∀ r ∈ once rs [], IsR r := fun x hx => hL.isr x ((once_sub rs [] x hx).resolve_left (fun m => nomatch m))
  have nt : ∀ {ρ : FL.Env} {F : FL.Env → Option D}, F ρ = some (.bl true) → tNot (tB truD F) ρ = some false := fun {ρ F} h => not_val (b := true) (tB_val (x := .bl true) h rfl)
  refine runD_rt ?_
  show G_law [some S, none, none, none, none, none, none, none, none, none, none, none] = _
  unfold G_law
  refine seq_set (d := .int (mn : Int)) (by rw [← hmn]; exact mod_v 9 (by decide) (cl _ 1 _ rfl rfl)) ?_
  refine seq_set (d := .lst (ds.map D.int)) (eL_val (ds := [.int (ns.getD 0 0), .int ((2 * mn + 3 : Nat) : Int)]) (aCons_val (cl _ 0 _ rfl rfl) (aCons_val ?_ rfl)) (mL_val rfl hd')) ?_
  · have e := add_v (two_v (F := eVar 1) (ρ := [some S, some (.int (mn : Int)), none, none, none, none, none, none, none, none, none, none]) (z := (mn : Int)) rfl) (show eC (.int 3) _ = some (.int 3) from rfl)
    rw [show ((2 * mn + 3 : Nat) : Int) = 2 * (mn : Int) + 3 by omega]
    exact e
  refine seq_set (d := .lst []) rfl (seq_set (d := .lst []) rfl ?_)
  show sSeq _ _ (lwE S mn ds [] [] none none none) = _
  refine seq_nx hfor (seq_fg ?_)
  show sSeq _ _ [some S, some (.int (mn : Int)), some (.lst (ds.map D.int)), some (.lst ((once rs []).map encRl)), some (.lst (Strs ts)), none, x6, none, none, none, none, none] = _
  refine seq_set (d := .lst (Strs ts)) rfl ?_
  show sSeq _ _ [some S, some (.int (mn : Int)), some (.lst (ds.map D.int)), some (.lst ((once rs []).map encRl)), some (.lst (Strs ts)), none, x6, none, some (.lst (Strs ts)), none, none, none] = _
  refine seq_f (or_v (nt (eL_val (ds := [.lst ((once rs []).map encRl), .lst ((once rs []).map encRl)]) (aCons_val (eL_val (ds := [.lst (Strs ts)]) rfl (mL_val rfl (parsing_ok hL (by omega)))) rfl) (mL_val rfl (same_rules _ (by omega) oi)))) (tB_val (x := .bl false) (e2_val (x := .lst (Strs ts)) (y := .lst (Strs ts)) rfl rfl (ne_strs hL.wok)) rfl)) (seq_nil (seq_fg ?_))
  show sSeq _ _ [some S, some (.int (mn : Int)), some (.lst (ds.map D.int)), none, some (.lst (Strs ts)), none, x6, none, none, none, none, none] = _
  -- the end, whatever stands in what is forgotten
  have tail : ∀ (y1 y2 y4 y9 y10 : Option D), (sForget [1, 2, 4, 9, 10] (sSeq (sSet 11 (eComp [6] (iOwn "Book" "_checks" (eL (mL 1 m_Book_freest) (aCons (eL (mL 1 m__law_wish) (aCons (eL (mL 2 m__law_cell) (aCons (eVar 0) (aCons (eC (.int 2)) aNil))) aNil)) aNil))) (gSet 6) tYesE (eVar 6)))
    (sForget [0] (sSeq (sFor (iSeq isLst (eVar 11)) (gSet 6) L_law_1)
    (sForget [6] (sSeq (sRet (e2 leD (eL lenD (aCons (eVar 11) aNil)) (eC (.int 40))))
    sNil)))))) [some S, y1, y2, none, y4, none, x6, none, none, y9, y10, none] = some (.rt (.bl true)) := fun y1 y2 y4 y9 y10 => by
    refine seq_fg ?_
    show sSeq _ _ [some S, none, none, none, none, none, x6, none, none, none, none, none] = _
    refine seq_set (d := .lst xs) (comp_v (ds := xs) (own_g (eL_val (ds := [.lst (Strs Wl)]) (aCons_val (eL_val (ds := [.int (ns.getD 2 0)]) (aCons_val (cl _ 2 _ rfl rfl) rfl) (mL_val rfl hw)) rfl) (mL_val rfl hf))) (by rw [PySem.sizeLine_eq]; omega) (comp_id _ _ (by rw [wipeE_len]; show 6 < 12; omega))) (seq_fg ?_)
    show sSeq _ _ (frZ x6 xs) = _
    obtain ⟨y6, e⟩ := loop1 xs xs x6 hxg
    refine seq_for (ds := xs) (iLst_v rfl) e (seq_fg ?_)
    refine seq_ret ?_
    show some (D.bl (decide ((xs.length : Int) ≤ 40))) = _
    rw [decide_eq_true (by omega)]
  have dr : ∀ {ρ : FL.Env} (c : Nat) {F : FL.Env → Option D} {z : Int}, ρ[2]? = some (some (.lst (ds.map D.int))) → F ρ = some (.int z) → z = ((2 * mn + c : Nat) : Int) → c < 3 → e2 ixD (eVar 2) F ρ = some (.int (ds.getD (2 * mn + c) 0)) := fun {ρ} c {F z} h hF hz hc => dr_v (2 * mn + c) h hF hz (by omega)
  generalize hρ : ([some S, some (.int (mn : Int)), some (.lst (ds.map D.int)), none, some (.lst (Strs ts)), none, x6, none, none, none, none, none] : FL.Env) = ρ
  have q1 : ρ[1]? = some (some (.int (mn : Int))) := by subst hρ; rfl
  have q2 : ρ[2]? = some (some (.lst (ds.map D.int))) := by subst hρ; rfl
  refine seq_if (b := decide (0 < (mn : Int)) && (ds.getD (2 * mn + 0) 0 % 2 == 1)) (and_v (tB_val (x := .bl (decide (0 < (mn : Int)))) (e2_val (var_v q1) rfl rfl) rfl) (teq_v (mod_v 2 (by decide) (int_v (dr 0 q2 (two_v (var_v q1)) (by omega) (by decide)))) rfl)) (fun e => ?_) fun _ => ?_
  · have hm0 : 0 < mn := by
      have := (Bool.and_eq_true_iff.mp e).1
      have := of_decide_eq_true this
      omega
    obtain ⟨k, hk, hkz⟩ : ∃ k : Nat, k < mn ∧ ds.getD (2 * mn + 1) 0 % (mn : Int) = (k : Int) := ⟨(ds.getD (2 * mn + 1) 0 % (mn : Int)).toNat, by
      have := Int.emod_lt_of_pos (ds.getD (2 * mn + 1) 0) (show (0 : Int) < mn by omega)
      have := Int.emod_nonneg (ds.getD (2 * mn + 1) 0) (show (mn : Int) ≠ 0 by omega)
      omega, by
      have := Int.emod_nonneg (ds.getD (2 * mn + 1) 0) (show (mn : Int) ≠ 0 by omega)
      omega⟩
    obtain ⟨j, hj, hjz⟩ := three (ds.getD (2 * mn + 2) 0)
    have ht : ts[k]? = some ts[k] := List.getElem?_eq_getElem (by omega)
    generalize ts[k] = t at ht
    obtain ⟨r, ln⟩ := hL.get ht
    have tl := (ln_parse ln).2
    obtain ⟨b2, b2l⟩ := bad_if ln
    obtain ⟨bad, hbad, hx⟩ : ∃ bad : Str, BadT bad ∧ ixD (.lst [.str (t ++ " "), .str (Txt.replace t " if" ""), .str ""]) (.int (j : Int)) = some (.str bad) := by
      rcases (show j = 0 ∨ j = 1 ∨ j = 2 by omega) with rfl | rfl | rfl
      · exact ⟨_, bad_sp ln, rfl⟩
      · exact ⟨_, b2, rfl⟩
      · exact ⟨_, bad_no, rfl⟩
    have hpre := hL.take k
    subst hρ
    refine seq_as (seq_set (d := .int (k : Int)) ?_ ?_)
    · rw [← hkz]
      refine e2_val (x := .int (ds.getD (2 * mn + 1) 0)) (y := .int (mn : Int)) (int_v (dr 1 rfl (add_v (two_v rfl) rfl) (by omega) (by decide))) rfl ?_
      show (if (0 : Int) < (mn : Int) then _ else _) = _
      rw [if_pos (by omega)]
    show sSeq _ _ [some S, some (.int (mn : Int)), some (.lst (ds.map D.int)), none, some (.lst (Strs ts)), none, x6, none, none, some (.int (k : Int)), none, none] = _
    have tk : ∀ {x10 : Option D}, e2 ixD (eVar 4) (eVar 9) [some S, some (.int (mn : Int)), some (.lst (ds.map D.int)), none, some (.lst (Strs ts)), none, x6, none, none, some (.int (k : Int)), x10, none] = some (.str t) := fun {x10} => by
      refine e2_val (x := .lst (Strs ts)) (y := .int (k : Int)) rfl rfl ?_
      show L2.atI _ _ = _
      refine L2.atI_nat ?_
      unfold Strs
      rw [List.getElem?_map, ht]
      rfl
    refine seq_as (seq_set (d := .str bad) (e2_val (x := .lst [.str (t ++ " "), .str (Txt.replace t " if" ""), .str ""]) (y := .int (j : Int)) (eL_val (ds := [.str (t ++ " "), .str (Txt.replace t " if" ""), .str ""]) (aCons_val (e2_val (x := .str t) (y := .str " ") tk rfl ?_) (aCons_val ?_ rfl)) rfl) (by rw [← hjz]; exact mod_v 3 (by decide) (int_v (dr 2 rfl (add_v (two_v rfl) rfl) (by omega) (by decide)))) hx) ?_)
    · show (if t.length + (" " : Str).length ≤ sizeLine then some (D.str (t ++ " ")) else none) = _
      rw [if_pos (by rw [show (" " : Str).length = 1 by kernel_rfl, PySem.sizeLine_eq]; omega)]
    · unfold e1
      rw [tk]
      show (if t.length + (t.length + 1) * ("" : Str).length ≤ 16777216 then some (D.str (Txt.replace t " if" "")) else none) = _
      rw [if_pos b2l]
    refine seq_as (seq_put (d := .str bad) (k := (k : Int)) (xs := Strs ts) (j := k) rfl rfl rfl ?_ ?_)
    · unfold L2.ixN
      rw [if_pos (by omega), if_pos (by rw [strs_len]; omega), Int.toNat_natCast]
    rw [set_strs ts k bad (by omega)]
    have hlen : (ts.take k ++ bad :: ts.drop (k + 1)).length ≤ 50 := by simp; omega
    have hp := parsing_bad hpre hbad (ts.drop (k + 1)) hlen
    generalize Strs (ts.take k ++ bad :: ts.drop (k + 1)) = X at hp
    show sSeq _ _ [some S, some (.int (mn : Int)), some (.lst (ds.map D.int)), none, some (.lst X), none, x6, none, none, some (.int (k : Int)), some (.str bad), none] = _
    refine seq_as (seq_f (nt (eL_val (ds := [.lst [.bl true, .str bad], .lst [.bl true, .str bad]]) (aCons_val (eL_val (ds := [.lst X]) rfl (mL_val rfl hp)) rfl) (mL_val rfl (isSame_refl 6 _ rfl)))) (seq_nil (seq_nil ?_)))
    exact tail _ _ _ _ _
  · subst hρ
    exact seq_nil (tail _ _ _ _ _)
end LW
namespace LW
open PySem PySem.Spec PyProof.Rows L2 FL
variable [HW]
def fn : List He.DefD := [⟨("behind_words", none), "behind_words", "behind_words", defArgs s_behind_words, defBody s_behind_words, defScope s_behind_words, [], []⟩, ⟨("_in_order", none), "_in_order", "_in_order", defArgs s__in_order, defBody s__in_order, defScope s__in_order, [], []⟩, ⟨("_is_side", none), "_is_side", "_is_side", defArgs s__is_side, defBody s__is_side, defScope s__is_side, [], []⟩, ⟨("parse_check", none), "parse_check", "parse_check", defArgs s_parse_check, defBody s_parse_check, defScope s_parse_check, [], []⟩, ⟨("format_check", none), "format_check", "format_check", defArgs s_format_check, defBody s_format_check, defScope s_format_check, [], []⟩, ⟨("_different", none), "_different", "_different", defArgs s__different, defBody s__different, defScope s__different, [], []⟩, ⟨("Book", some "__init__"), "__init__", "Book.__init__", defArgs s_Book___init__, defBody s_Book___init__, defScope s_Book___init__, [], []⟩, ⟨("Book", some "__iter__"), "__iter__", "Book.__iter__", defArgs s_Book___iter__, defBody s_Book___iter__, defScope s_Book___iter__, [], []⟩, ⟨("_law_cell", none), "_law_cell", "_law_cell", defArgs s__law_cell, defBody s__law_cell, defScope s__law_cell, [], []⟩, ⟨("_law_draws", none), "_law_draws", "_law_draws", defArgs s__law_draws, defBody s__law_draws, defScope s__law_draws, [], []⟩, ⟨("_law_pick", none), "_law_pick", "_law_pick", defArgs s__law_pick, defBody s__law_pick, defScope s__law_pick, [], []⟩, ⟨("_law_rule", none), "_law_rule", "_law_rule", defArgs s__law_rule, defBody s__law_rule, defScope s__law_rule, [], []⟩, ⟨("_law_wish", none), "_law_wish", "_law_wish", defArgs s__law_wish, defBody s__law_wish, defScope s__law_wish, [], []⟩, ⟨("_law_is_same", none), "_law_is_same", "_law_is_same", defArgs s__law_is_same, defBody s__law_is_same, defScope s__law_is_same, [], []⟩, ⟨("_law_parsing", none), "_law_parsing", "_law_parsing", defArgs s__law_parsing, defBody s__law_parsing, defScope s__law_parsing, [], []⟩, ⟨("law", none), "law", "law", defArgs s_law, defBody s_law, defScope s_law, [], []⟩]
def prs : List PrD := [("Book", "parsed", ⟨("Book", some "parsed"), "parsed", "Book.parsed", defArgs s_Book_parsed, defBody s_Book_parsed, defScope s_Book_parsed, [], []⟩), ("Book", "freest", ⟨("Book", some "freest"), "freest", "Book.freest", defArgs s_Book_freest, defBody s_Book_freest, defScope s_Book_freest, [], []⟩)]
def tbs : List He.Tab := [(fun K => He.ga K "CLAIM_WORDS", ["look", "has", "get", "set", "define", "take", "names", "shut", "isshut"]), (fun K => He.ga K "FREEST", ["shut", "stays", "fixed", "never"])]
def xd_BadCheck : XiD := ⟨"BadCheck", "line", "line", "not a check: ", "BadCheck.__init__", defArgs (clsM (top 3) 0), defBody (clsM (top 3) 0), defScope (clsM (top 3) 0)⟩
theorem xok_BadCheck : xd_BadCheck.ok := ⟨_, _, _, _, _, _, _, _, _, _, _, _, _, _, _, _, rfl, rfl, rfl, fun _ _ _ _ _ _ _ _ _ => rfl, fun _ => ⟨_, rfl⟩, fun _ => rfl⟩
theorem xn_BadCheck : XiN xd_BadCheck := ⟨rfl, rfl, rfl, by decide +kernel, by decide +kernel, by decide +kernel⟩
def xs : List XiD := [xd_BadCheck]
def as_ : List Addr := [2, 3, 6, 4, 21, 31, 53, 56, 57, 62, 67, 72, 79, 84, 91, 92, 99, 106, 113, 120, 121, 122, 123, 124, 140, 147, 154, 161, 168, 175, 180, 185, 192, 199, 207, 212, 217, 222, 227, 232, 233, 242, 326, 337, 344, 351, 358, 363, 370, 375, 380, 0, 20, 30, 52, 61, 66, 71, 78, 83, 90, 98, 105, 112, 119, 125, 126, 127, 128, 129, 130, 131, 132, 133, 139, 146, 153, 160, 167, 174, 179, 184, 191, 198, 206, 200, 211, 216, 221, 226, 231, 234, 235, 236, 237, 241, 325, 336, 343, 350, 357, 362, 369, 374, 379, 15, 16, 17, 18, 19, 29, 32, 50, 51, 58, 59, 60, 63, 64, 65, 68, 69, 70, 73, 74, 75, 76, 77, 80, 81, 82, 85, 86, 87, 88, 89, 93, 94, 95, 96, 97, 100, 101, 102, 103, 104, 107, 108, 109, 110, 111, 114, 115, 116, 117, 118, 134, 135, 136, 137, 138, 141, 142, 143, 144, 145, 148, 149, 150, 151, 152, 155, 156, 157, 158, 159, 162, 163, 164, 165, 166, 169, 170, 171, 172, 173, 176, 177, 178, 181, 182, 183, 186, 187, 188, 189, 190, 193, 194, 195, 196, 197, 201, 202, 203, 204, 205, 208, 209, 210, 213, 214, 215, 218, 219, 220, 223, 224, 225, 228, 229, 230, 238, 239, 240, 256, 263, 270, 277, 282, 287, 294, 299, 307, 314, 322, 324, 327, 328, 331, 332, 333, 334, 335, 338, 339, 340, 341, 342, 345, 346, 347, 348, 349, 352, 353, 354, 355, 356, 359, 360, 361, 364, 365, 366, 367, 368, 371, 372, 373, 376, 377, 378, 49, 38, 255, 262, 269, 276, 281, 286, 293, 298, 306, 300, 312, 313, 320, 321, 44, 45, 46, 47, 48, 250, 251, 252, 253, 254, 257, 258, 259, 260, 261, 264, 265, 266, 267, 268, 271, 272, 273, 274, 275, 278, 279, 280, 283, 284, 285, 288, 289, 290, 291, 292, 295, 296, 297, 301, 302, 303, 304, 305, 311, 315, 319, 323, 308, 309, 310, 316, 317, 318]
def fa : List He.Fa := [.cls "Book", .glo "Book", .mkr "Book", .noat "Book" "_checks", .glo "behind_words", .glo "_in_order", .glo "_is_side", .glo "parse_check", .glo "format_check", .glo "_different", .meth "Book" "__iter__", .glo "_law_cell", .glo "_law_draws", .glo "_law_pick", .glo "_law_rule", .glo "_law_wish", .glo "_law_is_same", .glo "_law_parsing", .glo "law", .free "all", .free "bool", .free "int", .free "isinstance", .free "iter", .free "len", .free "list", .free "range", .free "str", .free "super", .free "tuple", .glo "BadCheck", .glo "StandInError", .exm "BadCheck" "StandInError" true]
def ex (K : PySem.W.Frag) : Bool := conB K "SHUT_WORDS" k_SHUT_WORDS && conB K "FIELD_WORDS" k_FIELD_WORDS && conB K "WORDS" k_WORDS && conB K "PROMISES" k_PROMISES && tabB K "CLAIM_WORDS" tb_CLAIM_WORDS && tabB K "FREEST" tb_FREEST && clmB K "Book" "parsed" && smB K "Book" "freest" && oneB K xd_BadCheck "/claim/cut.py" && excB K (He.ga K "BadCheck") && kitB K "BadCheck" "BadCheck" true
abbrev R : PySem.W.OpenRow := PySem.W.OpenLaw.row PySem.Challenge.rw_lyingstandins_k19_parsed_books
abbrev hk : PySem.W.Hook := hookX as_ fa fn ex tbs prs xs
def ob (s : PySem.W.SharedT) : AlX := obsX as_ fa fn ex tbs prs xs (HandSHeadRun.getT s)
theorem ob_eq (s : PySem.W.SharedT) : ob s = hk.obs s.abs := obsX_eq (HandSHeadRun.getT_eq s)
def loose : List PySem.Str := (["BadCheck", "Book", "CLAIM_WORDS", "FIELD_WORDS", "FLAGS", "FREEST", "PROMISES", "SHUT_WORDS", "StandInError", "VALUES", "WORDS", "_claimed", "_different", "_fields", "_fields_or_none", "_flag_words", "_in_order", "_is_met", "_is_side", "_law_cell", "_law_draws", "_law_is_same", "_law_parsing", "_law_pick", "_law_rule", "_law_wish", "_shut_word", "_wall", "_within", "behind_words"] : List PySem.Str) ++ (["deeds", "denies", "event_words", "events", "field_in", "format_check", "is_about", "mask_of", "name_of", "parse_check", "possible_answers", "refusals", "refused_at", "shown_words", "standings", "value_in"] : List PySem.Str)
section
open PySem.W HandSHeadRun
noncomputable abbrev ef (w : World) (os : OsState) := endF (stepQ (denQ tabQ) R.prog w) 6000 R.prog w os
theorem r0a (w : World) (os : OsState) : (ef (w.withFollow "special-get-raises" false) os).map (fun s => looksF R.prog (boot_heap (World.params (w.withFollow "special-get-raises" false))) s.abs) = some true := by kernel_rfl
theorem r0b (w : World) (os : OsState) : (ef (w.withFollow "special-get-raises" false) os).map (fun s => seenQ (PySem.W.view R.prog [54]) loose (importedModules R.prog.main.body) (fun s => xlAt (PySem.W.view R.prog [54]) [] s && recOk R.toRowW.records s) s.abs) = some (openGood (PySem.W.view R.prog [54]) loose) := by kernel_rfl
theorem r0c (w : World) (os : OsState) : (ef (w.withFollow "special-get-raises" false) os).map ob = some (hk.val (w.withFollow "special-get-raises" false)) := by kernel_rfl
theorem run0 (w : World) : HandSHeadRun.RunEq R (PySem.W.view R.prog [54]) hk ob 6000 loose (w.withFollow "special-get-raises" false) := fun os => map3 (r0a w os) (r0b w os) (r0c w os)
theorem r1a (w : World) (os : OsState) : (ef (w.withFollow "special-get-raises" true) os).map (fun s => looksF R.prog (boot_heap (World.params (w.withFollow "special-get-raises" true))) s.abs) = some true := by kernel_rfl
theorem r1b (w : World) (os : OsState) : (ef (w.withFollow "special-get-raises" true) os).map (fun s => seenQ (PySem.W.view R.prog [54]) loose (importedModules R.prog.main.body) (fun s => xlAt (PySem.W.view R.prog [54]) [] s && recOk R.toRowW.records s) s.abs) = some (openGood (PySem.W.view R.prog [54]) loose) := by kernel_rfl
theorem r1c (w : World) (os : OsState) : (ef (w.withFollow "special-get-raises" true) os).map ob = some (hk.val (w.withFollow "special-get-raises" true)) := by kernel_rfl
theorem run1 (w : World) : HandSHeadRun.RunEq R (PySem.W.view R.prog [54]) hk ob 6000 loose (w.withFollow "special-get-raises" true) := fun os => map3 (r1a w os) (r1b w os) (r1c w os)
end
theorem run (w : World) : HandSHeadRun.RunEq R (PySem.W.view R.prog [54]) hk ob 6000 loose w :=
  PySem.W.byRow2 "special-get-raises" (P := fun w => HandSHeadRun.RunEq R (PySem.W.view R.prog [54]) hk ob 6000 loose w) run0 run1 w
theorem tx {P : Program} {w : World} [WW w] {K : PySem.W.Frag} {h : Heap} {mg : Str → Option Value} (X : K.In h) (G : h.Ns mainGlobals mg) (hP : PFile P "/claim/cut.py") (cX : SaysX fa fn ex tbs prs xs w K) : TX P w K mg := by
  have cc := cX.1
  obtain ⟨c, cx⟩ := cc.1.1
  have cx' := cx
  simp only [ex, Bool.and_eq_true] at cx'
  exact ⟨He.cls_ok (c.fact 0 rfl), He.glo_ok X G (c.fact 1 rfl), He.mkr_ok (c.fact 2 rfl), He.noat_ok (c.fact 3 rfl), defAt_of c 0 rfl, He.glo_ok X G (c.fact 4 rfl), defAt_of c 1 rfl, He.glo_ok X G (c.fact 5 rfl), defAt_of c 2 rfl, He.glo_ok X G (c.fact 6 rfl), defAt_of c 3 rfl, He.glo_ok X G (c.fact 7 rfl), defAt_of c 4 rfl, He.glo_ok X G (c.fact 8 rfl), defAt_of c 5 rfl, He.glo_ok X G (c.fact 9 rfl), c.def_ 6 rfl, c.def_ 7 rfl, He.meth_ok (c.fact 10 rfl), getter_of cc 0 rfl, getter_of cc 1 rfl, defAt_of c 8 rfl, He.glo_ok X G (c.fact 11 rfl), defAt_of c 9 rfl, He.glo_ok X G (c.fact 12 rfl), defAt_of c 10 rfl, He.glo_ok X G (c.fact 13 rfl), defAt_of c 11 rfl, He.glo_ok X G (c.fact 14 rfl), defAt_of c 12 rfl, He.glo_ok X G (c.fact 15 rfl), defAt_of c 13 rfl, He.glo_ok X G (c.fact 16 rfl), defAt_of c 14 rfl, He.glo_ok X G (c.fact 17 rfl), defAt_of c 15 rfl, He.glo_ok X G (c.fact 18 rfl), He.free_ok X G (c.fact 19 rfl), He.free_ok X G (c.fact 20 rfl), He.free_ok X G (c.fact 21 rfl), He.free_ok X G (c.fact 22 rfl), He.free_ok X G (c.fact 23 rfl), He.free_ok X G (c.fact 24 rfl), He.free_ok X G (c.fact 25 rfl), He.free_ok X G (c.fact 26 rfl), He.free_ok X G (c.fact 27 rfl), He.free_ok X G (c.fact 28 rfl), He.free_ok X G (c.fact 29 rfl), conB_ok X G cx'.1.1.1.1.1.1.1.1.1.1, conB_ok X G cx'.1.1.1.1.1.1.1.1.1.2, conB_ok X G cx'.1.1.1.1.1.1.1.1.2, conB_ok X G cx'.1.1.1.1.1.1.1.2, tabF_ok X G cx'.1.1.1.1.1.1.2 (dic_of cc.1 0), tabF_ok X G cx'.1.1.1.1.1.2 (dic_of cc.1 1), cx'.1.1.1.1.2, cx'.1.1.1.2, He.glo_ok X G (c.fact 30 rfl), He.glo_ok X G (c.fact 31 rfl), one_ok cx'.1.1.2 (saysX_at cX 0) xok_BadCheck xn_BadCheck hP, excB_ok cx'.1.2, He.exm_ok (c.fact 32 rfl), kitB_ok cx'.2⟩
theorem facts {P : Program} {w : World} [WW w] {K : PySem.W.Frag} {h : Heap} {mg : Str → Option Value} {f : Addr} (X : K.In h) (G : h.Ns mainGlobals mg) (hfa : mg ("law" : Str) = some (.ref f)) (hP : PFile P "/claim/cut.py") (c : SaysX fa fn ex tbs prs xs w K) :
    ∃ fd : FuncData, (∀ (s : Shared) (v : Value), BindsTo s fd ⟨[v], []⟩ [("_law_script", v)]) ∧ ∀ base : Heap, K.In base → base.Ns mainGlobals mg → FnOk P w K mg base CX0 8 f fd ["_law_script"] (spF K false 1 m_law) := by
  have T : TX P w K mg := tx X G hP c
  have e := hfa.symm.trans T.g_law
  cases e
  obtain ⟨fd, F⟩ := T.d_law
  have b := FunD.bindsA (ps := ["_law_script"]) F fun _ _ _ _ _ _ us hl => match us, hl with | [_], _ => rfl
  exact ⟨fd, fun s v => b s [v] rfl, fun base _ _ => ok_law T F⟩
end LW
open PySem PySem.W PySem.Calls PyProof.Rows
set_option maxHeartbeats 0 in
theorem PySem.Challenge.cw_lyingstandins_k19_parsed_books_holds : PySem.Challenge.rw_lyingstandins_k19_parsed_books.Holds := by
  w_on; o_law
  refine HandSHeadRun.head_any (r := OpenLaw.row PySem.Challenge.rw_lyingstandins_k19_parsed_books) (q := view (OpenLaw.row PySem.Challenge.rw_lyingstandins_k19_parsed_books).prog [54]) (H := LW.hk) (ob := LW.ob) (M := 6000) (loose := LW.loose) (d := HandSHeadRun.topDef (OpenLaw.row PySem.Challenge.rw_lyingstandins_k19_parsed_books).prog 54) (kwd := []) LW.ob_eq
    (by kernel_rfl) (fun s => by kernel_rfl) LW.run (by kernel_rfl) (by kernel_rfl) (by kernel_rfl) (by rfl) (by first | assumption | decide +kernel) (by decide +kernel) ⟨rfl, rfl, rfl, rfl, rfl, by decide +kernel⟩ ?hw ?hc
  case hw => w_witness2
  case hc =>
    refine L2.walk_ofE (l := PySem.Challenge.rw_lyingstandins_k19_parsed_books) (n := 63) (k := 8) (x := "_law_script") (CX := L2.CX0) rfl (by decide) (by kernel_rfl) ⟨rfl, by decide, by decide⟩ ?F (fun _ _ _ _ z => z)
    intro w mg fa h Y G hmg0
    letI : FL.HW := ⟨fun x => PySem.hashStr w x⟩
    haveI : FL.WW w := ⟨fun _ => rfl⟩
    obtain ⟨K, KX, c⟩ := Y
    have hmg : mg ("law" : PySem.Str) = some (.ref fa) := by
      have e : (HandSHeadRun.topDef (OpenLaw.row PySem.Challenge.rw_lyingstandins_k19_parsed_books).prog 54).name = ("law" : PySem.Str) := by kernel_rfl
      rw [← e]
      exact hmg0
    obtain ⟨fd, hb, hF⟩ := LW.facts (P := (PySem.Challenge.rw_lyingstandins_k19_parsed_books).prog) (w := w) KX G hmg ⟨by decide +kernel, by decide +kernel⟩ c
    exact ⟨K, fd, FL.spF K false 1 LW.m_law, KX, hb, FL.law_sp LW.law_true, hF⟩
